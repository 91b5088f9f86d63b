/- Arguments: slices of entries. -/
import Derived.Test.YtfocljmjejniiaaArgs
import Derived.Test.YtfocljmjejniiaaGEnt
import Derived.ChangeMaps5
import Derived.Deep.Slices
namespace Go.Proofs.Ytfocljmjejniiaa
open Go.ChangeShapes Go.WideShapes Go.RowKit Go.Deep

section
variable {H : Type} {enc : TypeId × Value → H} {P : Program} {W W' : World}
theorem list_of {Q : Nat → Ent → Prop} (n : Nat) (h : ∀ i, i < n → ∃ x, Q i x) : ∃ E : List Ent, E.length = n ∧ ∀ i x, E[i]? = some x → Q i x := by
  induction n with
  | zero => exact ⟨[], rfl, fun i x hx => by simp at hx⟩
  | succ n ih =>
    obtain ⟨E, h1, h2⟩ := ih (fun i hi => h i (by omega))
    obtain ⟨y, hy⟩ := h n (Nat.lt_succ_self n)
    refine ⟨E ++ [y], by simp [h1], fun i x hx => ?_⟩
    rw [List.getElem?_append] at hx
    split at hx
    · exact h2 i x hx
    · rename_i hi
      have h3 : i - E.length < 1 := by simpa using (List.getElem?_eq_some_iff.1 hx).1
      obtain rfl : i = n := by omega
      rw [h1, Nat.sub_self] at hx
      obtain rfl : y = x := by simpa using hx
      exact hy

theorem open_ents {t e : TypeId} {f0 f1 : Field} {v : Value} {d : DataW H} {ps : List MemPlace} (ht : P.underlying t = some (.slice e)) (he : P.underlying e = some (.struct #[f0, f1]))
    (ce : P.cellsOf e = 2) (o0 : f0.offset = 0) (o1 : f1.offset = 1) (c0 : P.cellsOf f0.type = 1) (c1 : P.cellsOf f1.type = 1)
    (u0 : P.underlying f0.type = some (.int .u64)) (u1 : P.underlying f1.type = some .string)
    (hv : ∃ a n c, v = .slice a n c) (h : DataW.Trod enc P W 0 (fun _ => true) true t v d ps) : ∃ E, ESl W v E ∧ EntsOk E ∧ E.length ≤ maxLen := by
  obtain ⟨a0, n0, c00, rfl⟩ := hv
  obtain ⟨fuel, hf⟩ := h
  rcases open_slice ht hf with ⟨hcs, _⟩ | ⟨a, len, cap, m, n, D, Pl, hcs, _, hl, hm, hmm, _, hx⟩
  · simp [Value.cells] at hcs
    obtain ⟨rfl, rfl, rfl⟩ := hcs
    exact ⟨[], ⟨none, 0, rfl, Nat.le_refl _, fun h => absurd rfl h⟩, (fun x hx => by cases hx), Nat.zero_le _⟩
  · simp [Value.cells] at hcs
    obtain ⟨rfl, rfl, rfl⟩ := hcs
    simp only [if_true] at hmm
    have each : ∀ i, i < n0 → ∃ x : Ent, (x.1 < m64 ∧ x.2.size ≤ maxLen) ∧ W.cell? (a.add (i * 2)) = some (.int .u64 (x.1 : Int)) ∧ W.cell? (a.add (i * 2 + 1)) = some (.string x.2) := fun i hi => by
      obtain ⟨cs', h1, h2⟩ := hx i (by omega)
      rw [ce] at h1
      obtain ⟨_, hlen, hcell⟩ := World.cells?_some h1
      obtain ⟨xs, k, _, _, _, hxl, hfs⟩ := DataW.trod_struct he h2
      match xs, hxl, cs', hlen with
      | [y0, y1], _, [v0, v1], _ =>
        have g0 := hfs 0 f0 rfl
        have g1 := hfs 1 f1 rfl
        simp [o0, o1, c0, c1] at g0 g1
        have q0 := hcell 0 (by omega)
        have q1 := hcell 1 (by omega)
        rw [add_add] at q0 q1
        obtain ⟨y, e1, _, w1⟩ := DataW.trod_int u0 g0
        obtain ⟨s, e2, _, hs⟩ := DataW.trod_string u1 g1
        obtain rfl : v0 = .int .u64 y := by simpa using e1
        obtain rfl : v1 = .string s := by simpa using e2
        have hy : 0 ≤ y ∧ y ≤ 18446744073709551615 := by simpa [Lit.wf, IntKind.min, IntKind.max, IntKind.signed, IntKind.bits] using w1
        have hyn : ((y.toNat : Nat) : Int) = y := by omega
        exact ⟨(y.toNat, s), ⟨by unfold m64; simp only; omega, hs⟩, by rw [hyn]; simpa using q0, by simpa using q1⟩
    obtain ⟨E, hE, hq⟩ := list_of n0 each
    subst hE
    refine ⟨E, ⟨_, _, rfl, by omega, fun hne => ?_⟩, fun x hx => ?_, by omega⟩
    · have hpos : 0 < E.length := by cases E with
        | nil => exact absurd rfl hne
        | cons _ _ => simp
      obtain ⟨_, _, z0, _⟩ := each 0 hpos
      obtain ⟨g, o, rfl⟩ := spot_of (by omega) z0
      refine ⟨g, o, rfl, ?_, fun i x hx => ?_⟩
      · rw [add_spot] at z0
        exact World.block_lt_of_cell? W _ z0
      · obtain ⟨_, h1, h2⟩ := hq i x hx
        rw [add_spot] at h1 h2
        exact ⟨h1, h2⟩
    · obtain ⟨i, hi, e⟩ := List.getElem_of_mem hx
      obtain ⟨⟨h1, h2⟩, _⟩ := hq i x (by rw [List.getElem?_eq_getElem hi, e])
      exact ⟨h1, by unfold maxLen at h2; unfold m64; omega⟩
end
end Go.Proofs.Ytfocljmjejniiaa
