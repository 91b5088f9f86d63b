/- Arguments: slices of texts, slices of acts (two numbers and a text), arrays of three texts. -/
import Derived.Test.YtalndhnpeapdlaaArgs
import Derived.ChangeMaps5
import Derived.Deep.Slices
namespace Go.Proofs.Ytalndhnpeapdlaa
open Go.ChangeShapes Go.WideShapes Go.RowKit Go.Deep

section
variable {H : Type} {enc : TypeId × Value → H} {P : Program} {W W' : World}

/-- The slice's cells are texts. -/
def StrsAt (w : World) (la : Option Addr) (ln : Nat) : Prop := ∀ i, i < ln → ∃ (g o : Nat) (s : ByteArray), la = some ⟨g, o, none⟩ ∧ g < w.heap.size ∧ s.size ≤ maxLen ∧ w.cell? ⟨g, o + i, none⟩ = some (.string s)
theorem open_texts {t e : TypeId} {v : Value} {d : DataW H} {ps : List MemPlace} (ht : P.underlying t = some (.slice e)) (he : P.underlying e = some .string) (hc : P.cellsOf e = 1)
    (hv : ∃ a n c, v = .slice a n c) (h : DataW.Trod enc P W 0 (fun _ => true) true t v d ps) : ∃ la ln lc, v = .slice la ln lc ∧ ln ≤ maxLen ∧ StrsAt W la ln := by
  obtain ⟨a0, n0, c00, rfl⟩ := hv
  obtain ⟨fuel, hf⟩ := h
  rcases open_slice ht hf with ⟨hcs, _⟩ | ⟨a, len, cap, m, n, D, Pl, hcs, _, hl, hm, hmm, _, hx⟩
  · simp [Value.cells] at hcs
    obtain ⟨rfl, rfl, rfl⟩ := hcs
    exact ⟨none, 0, 0, rfl, by omega, fun i hi => by omega⟩
  · simp [Value.cells] at hcs
    obtain ⟨rfl, rfl, rfl⟩ := hcs
    simp only [if_true] at hmm
    have each : ∀ i, i < n0 → ∃ s, s.size ≤ maxLen ∧ W.cell? (a.add i) = some (.string s) := fun i hi => by
      obtain ⟨cs', h1, h2⟩ := hx i (by omega)
      rw [hc, Nat.mul_one] at h1
      obtain ⟨_, hlen, hcell⟩ := World.cells?_some h1
      obtain ⟨s, e2, _, hs⟩ := DataW.trod_string he h2
      subst e2
      have q0 := hcell 0 (by omega)
      rw [add_add] at q0
      exact ⟨s, hs, by simpa using q0⟩
    refine ⟨_, _, _, rfl, by omega, fun i hi => ?_⟩
    obtain ⟨s0, _, z0⟩ := each 0 (by omega)
    obtain ⟨g, o, rfl⟩ := spot_of (by omega) z0
    obtain ⟨s, hs, h0⟩ := each i hi
    rw [add_spot] at h0
    exact ⟨g, o, s, rfl, World.block_lt_of_cell? W _ h0, hs, h0⟩

/-- The slice's cells: each element is two numbers and a text. -/
def Acts (w : World) (la : Option Addr) (ln : Nat) : Prop := ∀ i, i < ln → ∃ (g o : Nat) (x y : Int) (s : ByteArray), la = some ⟨g, o, none⟩ ∧ g < w.heap.size ∧ (-9223372036854775808 ≤ y ∧ y ≤ 9223372036854775807) ∧ s.size ≤ maxLen ∧
  w.cell? ⟨g, o + i * 3, none⟩ = some (.int .i64 x) ∧ w.cell? ⟨g, o + i * 3 + 1, none⟩ = some (.int .i64 y) ∧ w.cell? ⟨g, o + i * 3 + 2, none⟩ = some (.string s)
theorem open_acts {t e : TypeId} {f0 f1 f2 : Field} {v : Value} {d : DataW H} {ps : List MemPlace} (ht : P.underlying t = some (.slice e)) (he : P.underlying e = some (.struct #[f0, f1, f2]))
    (ce : P.cellsOf e = 3) (o0 : f0.offset = 0) (o1 : f1.offset = 1) (o2 : f2.offset = 2) (c0 : P.cellsOf f0.type = 1) (c1 : P.cellsOf f1.type = 1) (c2 : P.cellsOf f2.type = 1)
    (u0 : P.underlying f0.type = some (.int .i64)) (u1 : P.underlying f1.type = some (.int .i64)) (u2 : P.underlying f2.type = some .string)
    (hv : ∃ a n c, v = .slice a n c) (h : DataW.Trod enc P W 0 (fun _ => true) true t v d ps) : ∃ la ln lc, v = .slice la ln lc ∧ ln ≤ maxLen ∧ Acts W la ln := by
  obtain ⟨a0, n0, c00, rfl⟩ := hv
  obtain ⟨fuel, hf⟩ := h
  rcases open_slice ht hf with ⟨hcs, _⟩ | ⟨a, len, cap, m, n, D, Pl, hcs, _, hl, hm, hmm, _, hx⟩
  · simp [Value.cells] at hcs
    obtain ⟨rfl, rfl, rfl⟩ := hcs
    exact ⟨none, 0, 0, rfl, by omega, fun i hi => by omega⟩
  · simp [Value.cells] at hcs
    obtain ⟨rfl, rfl, rfl⟩ := hcs
    simp only [if_true] at hmm
    have each : ∀ i, i < n0 → ∃ x y s, (-9223372036854775808 ≤ y ∧ y ≤ 9223372036854775807) ∧ s.size ≤ maxLen ∧ W.cell? (a.add (i * 3)) = some (.int .i64 x) ∧ W.cell? (a.add (i * 3 + 1)) = some (.int .i64 y) ∧ W.cell? (a.add (i * 3 + 2)) = some (.string s) := fun i hi => by
      obtain ⟨cs', h1, h2⟩ := hx i (by omega)
      rw [ce] at h1
      obtain ⟨_, hlen, hcell⟩ := World.cells?_some h1
      obtain ⟨xs, k, _, _, _, hxl, hfs⟩ := DataW.trod_struct he h2
      match xs, hxl, cs', hlen with
      | [y0, y1, y2], _, [v0, v1, v2], _ =>
        have g0 := hfs 0 f0 rfl
        have g1 := hfs 1 f1 rfl
        have g2 := hfs 2 f2 rfl
        simp [o0, o1, o2, c0, c1, c2] at g0 g1 g2
        have q0 := hcell 0 (by omega)
        have q1 := hcell 1 (by omega)
        have q2 := hcell 2 (by omega)
        rw [add_add] at q0 q1 q2
        obtain ⟨x, e0, _, _⟩ := DataW.trod_int u0 g0
        obtain ⟨y, e1, _, w1⟩ := DataW.trod_int u1 g1
        obtain ⟨s, e2, _, hs⟩ := DataW.trod_string u2 g2
        obtain rfl : v0 = .int .i64 x := by simpa using e0
        obtain rfl : v1 = .int .i64 y := by simpa using e1
        obtain rfl : v2 = .string s := by simpa using e2
        have hy : -9223372036854775808 ≤ y ∧ y ≤ 9223372036854775807 := by simpa [Lit.wf, IntKind.min, IntKind.max, IntKind.signed, IntKind.bits] using w1
        exact ⟨x, y, s, hy, hs, by simpa using q0, by simpa using q1, by simpa using q2⟩
    refine ⟨_, _, _, rfl, by omega, fun i hi => ?_⟩
    obtain ⟨x0, y0, s0, _, _, z0, _, _⟩ := each 0 (by omega)
    obtain ⟨g, o, rfl⟩ := spot_of (by omega) z0
    obtain ⟨x, y, s, hy, hs, h0, h1, h2⟩ := each i hi
    rw [add_spot] at h0 h1 h2
    exact ⟨g, o, x, y, s, rfl, World.block_lt_of_cell? W _ h0, hy, hs, h0, h1, h2⟩

theorem open_strs3 {k e : TypeId} {base : Nat} {sp : Nat → Bool} {held : Bool} (hu : P.underlying k = some (.array 3 e)) (he : P.underlying e = some .string) (hn : P.cellsOf k = 3) (hc : P.cellsOf e = 1) {r : Reach} {b0 : Nat} {v : Value} {d : DataW H} {ps : List MemPlace}
    (hval : Value.okWide P W r b0 k v) (hd : DataW.Trod enc P W base sp held k v d ps) :
    ∃ s t u : ByteArray, v = .agg #[.string s, .string t, .string u] ∧ d = .agg [.lit (.string s.data.toList), .lit (.string t.data.toList), .lit (.string u.data.toList)] ∧ ps = [] ∧ s.size ≤ maxLen ∧ t.size ≤ maxLen ∧ u.size ≤ maxLen := by
  simp only [Value.okWide, hu] at hval
  obtain ⟨cs, rfl, h2, _⟩ := hval
  obtain ⟨fuel, hf⟩ := hd
  cases fuel with
  | zero => simp [DataW.trod] at hf
  | succ m =>
    rw [DataW.trod_step] at hf
    unfold DataW.trodStep at hf
    simp only [hu, Value.cells] at hf
    rw [if_pos (by simpa using h2)] at hf
    simp only [Option.map_eq_some_iff] at hf
    obtain ⟨ys, hy, e1⟩ := hf
    rw [show List.range 3 = [0, 1, 2] from rfl] at hy
    simp only [List.mapM_cons, List.mapM_nil, bind, Option.bind_eq_some_iff, pure, Option.some.injEq] at hy
    obtain ⟨y0, h0, _, ⟨y1, h1, _, ⟨y2, h3, _, rfl, rfl⟩, rfl⟩, rfl⟩ := hy
    obtain ⟨s, es, rfl, hs⟩ := DataW.trod_string he h0
    obtain ⟨t, et, rfl, ht⟩ := DataW.trod_string he h1
    obtain ⟨u, eu, rfl, hv⟩ := DataW.trod_string he h3
    simp only [Prod.mk.injEq] at e1
    rw [hc] at es et eu
    have hlen : cs.toList.length = 3 := by
      have := h2
      simp [hn] at this
      simpa using this
    obtain ⟨a, b, c, hab⟩ : ∃ a b c, cs.toList = [a, b, c] := by
      match hl : cs.toList, hlen with
      | [a, b, c], _ => exact ⟨a, b, c, rfl⟩
    have ha : a = .string s := by rw [hab] at es; simpa using es
    have hb : b = .string t := by rw [hab] at et; simpa using et
    have hcc : c = .string u := by rw [hab] at eu; simpa using eu
    refine ⟨s, t, u, ?_, e1.1.symm, ?_, hs, ht, hv⟩
    · congr 1
      apply Array.toList_inj.1
      rw [hab, ha, hb, hcc]
    · rw [← e1.2]; rfl
end
end Go.Proofs.Ytalndhnpeapdlaa
