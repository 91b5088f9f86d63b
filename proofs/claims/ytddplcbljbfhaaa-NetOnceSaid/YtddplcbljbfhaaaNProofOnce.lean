/- For every number and every list of pairs of bytes NetOnce answers true: each message comes as often as it was put and told twice, less how often it was lost. No condition. -/
import Derived.Test.YtddplcbljbfhaaaNLawO
import Derived.Test.YtddplcbljbfhaaaNArg
import Derived.Test.YtddplcbljbfhaaaRows
import Derived.ProofKit
import Derived.OpenShut
namespace Go.Proofs.Ytddplcbljbfhaaa
open Go.ChangeShapes Go.WideShapes Go.ChangeAt Go.RowKit Go.WideMaps Go.WideElems Go.Deep
open Go.ChangeMaps (setBlock shut_map_nil open_string shut_string keptBut_setBlock frozen?_setBlock heap_setBlock_same)

section
variable {H : Type} {enc : TypeId × Value → H} {P : Program} {W : World}
theorem open_u2 {t e b : TypeId} {v : Value} {d : DataW H} {ps : List MemPlace} (ht : P.underlying t = some (.slice e)) (he : P.underlying e = some (.array 2 b)) (ce : P.cellsOf e = 2) (cb : P.cellsOf b = 1) (ub : P.underlying b = some (.int .u8))
    (hv : ∃ a n c, v = .slice a n c) (h : DataW.Trod enc P W 0 (fun _ => true) true t v d ps) : ∃ la ln lc A B, v = .slice la ln lc ∧ ln ≤ maxLen ∧ U2f W la ln A B := by
  obtain ⟨a0, n0, c0, rfl⟩ := hv
  obtain ⟨fuel, hf⟩ := h
  rcases open_slice ht hf with ⟨hcs, _⟩ | ⟨a, len, cap, m, n, D, Pl, hcs, _, hl, hm, hmm, _, hx⟩
  · simp [Value.cells] at hcs
    obtain ⟨rfl, rfl, rfl⟩ := hcs
    exact ⟨none, 0, 0, fun _ => 0, fun _ => 0, rfl, by omega, fun i hi => by omega⟩
  · simp [Value.cells] at hcs
    obtain ⟨rfl, rfl, rfl⟩ := hcs
    simp only [if_true] at hmm
    have each : ∀ i, i < n0 → ∃ x : Nat × Nat, x.1 ≤ 255 ∧ x.2 ≤ 255 ∧ W.cell? (a.add (i * 2)) = some (.int .u8 (x.1 : Int)) ∧ W.cell? (a.add (i * 2 + 1)) = some (.int .u8 (x.2 : Int)) := fun i hi => by
      obtain ⟨cs', h1, h2⟩ := hx i (by omega)
      rw [ce] at h1
      obtain ⟨_, hlen, hcell⟩ := World.cells?_some h1
      obtain ⟨xs, k, _, _, _, hxl, hfs⟩ := Go.DataW.trod_array he h2
      match xs, hxl, cs', hlen with
      | [y0, y1], _, [v0, v1], _ =>
        have g0 := hfs 0 (by decide)
        have g1 := hfs 1 (by decide)
        simp [cb] at g0 g1
        have q0 := hcell 0 (by omega)
        have q1 := hcell 1 (by omega)
        rw [add_add] at q0 q1
        obtain ⟨z0, e0, _, w0⟩ := DataW.trod_int ub g0
        obtain ⟨z1, e1, _, w1⟩ := DataW.trod_int ub g1
        obtain rfl : v0 = .int .u8 z0 := by simpa using e0
        obtain rfl : v1 = .int .u8 z1 := by simpa using e1
        simp [Lit.wf, IntKind.min, IntKind.max, IntKind.signed, IntKind.bits] at w0 w1
        refine ⟨(z0.toNat, z1.toNat), by simp only; omega, by simp only; omega, ?_, ?_⟩
        · rw [Int.toNat_of_nonneg w0.1]; simpa using q0
        · rw [Int.toNat_of_nonneg w1.1]; simpa using q1
    obtain ⟨X, hX⟩ : ∃ X : Nat → Nat × Nat, ∀ i, i < n0 → (X i).1 ≤ 255 ∧ (X i).2 ≤ 255 ∧ W.cell? (a.add (i * 2)) = some (.int .u8 ((X i).1 : Int)) ∧ W.cell? (a.add (i * 2 + 1)) = some (.int .u8 ((X i).2 : Int)) :=
      ⟨fun i => if h : i < n0 then (each i h).choose else (0, 0), fun i hi => by simp only [dif_pos hi]; exact (each i hi).choose_spec⟩
    refine ⟨some a, n0, c0, fun i => (X i).1, fun i => (X i).2, rfl, by omega, fun i hi => ?_⟩
    obtain ⟨_, _, z0, _⟩ := hX 0 (by omega)
    obtain ⟨g, o, rfl⟩ := spot_of (by omega) z0
    obtain ⟨s1, s2, s3, s4⟩ := hX i hi
    rw [add_spot] at s3 s4
    exact ⟨g, o, rfl, World.block_lt_of_cell? W _ s3, s1, s2, s3, s4⟩
end
theorem once_own : ownKnob Try.prog.godebug = none := by kernel_rfl
theorem once_kids : Kids Try.prog (· < Try.prog.types.size) := kids_rows (by kernel_rfl) (by kernel_rfl)
theorem once_full : ∀ t e, t < Try.prog.types.size → Try.prog.underlying t = some (.slice e) → 0 < Try.prog.cellsOf e := slices_full_of Try.prog (by kernel_rfl)
set_option maxRecDepth 100000 in
theorem once_lifted (os : Os) (started : os.Started) (H : Type) (enc : TypeId × Value → H) :
    ReturnsInHanded {} Try.checked os 6 .any (Rows.netOnceSpec.pre6 enc Try.prog Try.f6 Rows.netOnceRow.domain false) (Rows.netOnceSpec.post enc Try.prog Try.f6 false true false false) := by
  refine returnsInHanded_of_change (C := Try.checked) once_own started (by kernel_rfl) Try.func6
    (ChangeSpec.witness6 (enc := enc) (C := Try.checked) false ⟨#[], #[.int .u8 0, .slice none 0 0], []⟩ 8 (by kernel_rfl) (by kernel_rfl) (by kernel_rfl) (by kernel_rfl)) ?_
  intro W base args ds gs before hval0 hW hcnd _
  have hval : ∀ (j : Nat) t v, Try.f6.params[j]? = some t → args[j]? = some v → Value.okWide Try.prog W .any base t v := hval0
  have hW' := hW
  have hlt := hW.lt
  obtain ⟨p, q, hA0, hV, rfl, hfz, hnd⟩ := hW
  have hA : DataW.TrodAll enc Try.prog W 0 (fun _ => true) true Try.f6.params.toList args.toList ds p := hA0
  have hA1 := hA
  rw [Try.params6] at hA hval
  obtain ⟨v0, v1, d0, d1, p0, p1, rfl, rfl, rfl, h0, h1⟩ := trodAll_two hA
  obtain ⟨x, rfl, rfl, rfl, hx⟩ := open_int Try.underlying5 (hval 0 5 v0 rfl rfl) h0
  obtain ⟨la, ln, lc, A, B, rfl, hl, hu⟩ := open_u2 Try.underlying55 Try.underlying57 (by kernel_rfl) (by kernel_rfl) Try.underlying5 (okWide_slice Try.underlying55 (hval 1 55 v1 rfl rfl)) h1
  have hx2 : 0 ≤ x ∧ x ≤ 255 := by simpa [Lit.wf, IntKind.min, IntKind.max, IntKind.signed, IntKind.bits] using hx
  obtain ⟨cN, rfl⟩ : ∃ n : Nat, x = (n : Int) := ⟨x.toNat, by omega⟩
  obtain ⟨rfl, rfl⟩ := trodVars_none hV
  have e1 : Rows.netOnceSpec.fn H ([.lit (.int .u8 (cN : Int)), d1] ++ []) = { results := [.lit (.bool true)], args := [.lit (.int .u8 (cN : Int)), d1] } := by simp [Rows.netOnceSpec]
  refine (once_law cN (by omega) A B la ln lc W hu hl).mono fun e W' ⟨he, hb⟩ => ?_
  subst he
  refine ⟨_, rfl, _, _, _, [], [] ++ p1, [], hW', ?_, ?_, ?_, hb.frame _, fun h => by cases h⟩
  · rw [e1]; exact trodAll_mk1 (shut_bool Try.underlying4 true)
  · rw [e1]; exact trodAll_stay once_kids once_full hb (by rw [Try.params6]; decide) hA1 (fun x hx => by
      have := hlt x (by simpa using hx)
      exact ⟨this, by simpa using this⟩)
  · rw [e1]; rfl

theorem once_holds : Rows.NetOnceSaid :=
  OpenClaim.holds_of_wide 6 Try.f6 rfl rfl rfl rfl rfl rfl rfl ⟨rfl, rfl, rfl, rfl, rfl⟩ rfl rfl rfl rfl rfl (by kernel_rfl) Try.func6 (by kernel_rfl)
    (of_decide_eq_true (by kernel_rfl)) (by unfold Func.isWrapper; rw [if_neg (of_decide_eq_false (by kernel_rfl))]; exact ⟨rfl, rfl⟩)
    (fun os started H enc _ => once_lifted os started H enc)
#print axioms once_holds
end Go.Proofs.Ytddplcbljbfhaaa
