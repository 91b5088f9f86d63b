/- Arguments that are arrays of two texts. -/
import Derived.Test.YtpkkdjmcabefbaaDoorArgs
import Derived.ChangeMaps5
import Derived.Deep.Slices
namespace Go.Proofs.YtpkkdjmcabefbaaDoor
open Go.ChangeShapes Go.WideShapes Go.RowKit Go.Deep

section
variable {H : Type} {enc : TypeId × Value → H} {P : Program} {W W' : World}

theorem open_strs2 {k e : TypeId} {base : Nat} {sp : Nat → Bool} {held : Bool} (hu : P.underlying k = some (.array 2 e)) (he : P.underlying e = some .string) (hn : P.cellsOf k = 2) (hc : P.cellsOf e = 1) {r : Reach} {b0 : Nat} {v : Value} {d : DataW H} {ps : List MemPlace}
    (hval : Value.okWide P W r b0 k v) (hd : DataW.Trod enc P W base sp held k v d ps) :
    ∃ s t : ByteArray, v = .agg #[.string s, .string t] ∧ d = .agg [.lit (.string s.data.toList), .lit (.string t.data.toList)] ∧ ps = [] ∧ s.size ≤ maxLen ∧ t.size ≤ maxLen := by
  simp only [Value.okWide, hu] at hval
  obtain ⟨cs, rfl, h2, _⟩ := hval
  obtain ⟨fuel, hf⟩ := hd
  cases fuel with
  | zero => simp [DataW.trod] at hf
  | succ m =>
    rw [DataW.trod_step] at hf
    unfold DataW.trodStep at hf
    simp only [hu, Value.cells] at hf
    rw [if_pos (by simpa using h2)] at hf
    simp only [Option.map_eq_some_iff] at hf
    obtain ⟨ys, hy, e1⟩ := hf
    rw [show List.range 2 = [0, 1] from rfl] at hy
    simp only [List.mapM_cons, List.mapM_nil, bind, Option.bind_eq_some_iff, pure, Option.some.injEq] at hy
    obtain ⟨y0, h0, _, ⟨y1, h1, _, rfl, rfl⟩, rfl⟩ := hy
    obtain ⟨s, es, rfl, hs⟩ := DataW.trod_string he h0
    obtain ⟨t, et, rfl, ht⟩ := DataW.trod_string he h1
    simp only [Prod.mk.injEq] at e1
    rw [hc] at es et
    have hlen : cs.toList.length = 2 := by
      have := h2
      simp [hn] at this
      simpa using this
    obtain ⟨a, b, hab⟩ : ∃ a b, cs.toList = [a, b] := by
      match hl : cs.toList, hlen with
      | [a, b], _ => exact ⟨a, b, rfl⟩
    have ha : a = .string s := by rw [hab] at es; simpa using es
    have hb : b = .string t := by rw [hab] at et; simpa using et
    refine ⟨s, t, ?_, e1.1.symm, ?_, hs, ht⟩
    · congr 1
      apply Array.toList_inj.1
      rw [hab, ha, hb]
    · rw [← e1.2]; rfl
end
end Go.Proofs.YtpkkdjmcabefbaaDoor
