/- net: NetRuns: the acts as an argument. -/
import Derived.Test.YtgdlnjhbencjkaaNArg
import Derived.Test.YtgdlnjhbencjkaaNRf
namespace Go.Proofs.Ytgdlnjhbencjkaa
open Go.ChangeShapes Go.WideShapes Go.RowKit Go.Deep
/-- An act: what, where, the message, the slice of its entries. -/
abbrev Ac := Int × Int × Mg × Value
def acC (x : Ac) : List Value := .int .i64 x.1 :: .int .i64 x.2.1 :: mgL x.2.2.1 x.2.2.2
/-- The slice's elements are these acts. -/
def ASl (w : World) (v : Value) (A : List Ac) : Prop := ∃ a c, v = .slice a A.length c ∧ A.length ≤ maxLen ∧ (∀ x ∈ A, ESl w x.2.2.2 x.2.2.1.ents ∧ WfMsg x.2.2.1) ∧
  (A ≠ [] → ∃ g o, a = some ⟨g, o, none⟩ ∧ g < w.heap.size ∧ ∀ i x, A[i]? = some x → ∀ j u, (acC x)[j]? = some u → w.cell? ⟨g, o + i * 12 + j, none⟩ = some u)
section
variable {H : Type} {enc : TypeId × Value → H} {W : World}
theorem list_ofA {Q : Nat → Ac → Prop} (n : Nat) (h : ∀ i, i < n → ∃ x, Q i x) : ∃ E : List Ac, E.length = n ∧ ∀ i x, E[i]? = some x → Q i x := by
  induction n with
  | zero => exact ⟨[], rfl, fun i x hx => by simp at hx⟩
  | succ n ih =>
    obtain ⟨E, h1, h2⟩ := ih (fun i hi => h i (by omega))
    obtain ⟨y, hy⟩ := h n (Nat.lt_succ_self n)
    refine ⟨E ++ [y], by simp [h1], fun i x hx => ?_⟩
    rw [List.getElem?_append] at hx
    split at hx
    · exact h2 i x hx
    · rename_i hi
      have h3 : i - E.length < 1 := by simpa using (List.getElem?_eq_some_iff.1 hx).1
      obtain rfl : i = n := by omega
      rw [h1, Nat.sub_self] at hx
      obtain rfl : y = x := by simpa using hx
      exact hy
set_option maxRecDepth 100000 in
/-- Twelve cells that read as an act. -/
theorem open_actL {cs : List Value} {x : DataW H × List MemPlace} {fuel : Nat} (hcs : cs.length = 12) (hf : DataW.trod enc Try.prog W 0 (fun _ => true) true fuel 34 cs = some x) :
    ∃ y : Ac, cs = acC y ∧ ESl W y.2.2.2 y.2.2.1.ents ∧ WfMsg y.2.2.1 := by
  obtain ⟨xs, k, _, _, _, hxl, hfs⟩ := DataW.trod_struct Try.underlying34 hf
  have k1 : Try.prog.cellsOf 3 = 1 := by kernel_rfl
  have k2 : Try.prog.cellsOf 32 = 10 := by kernel_rfl
  match cs, hcs, xs, hxl with
  | [v0, v1, c0, c1, c2, c3, c4, c5, c6, c7, c8, c9], _, [y0, y1, y2], _ =>
    have g0 := hfs 0 _ rfl
    have g1 := hfs 1 _ rfl
    have g2 := hfs 2 _ rfl
    simp [k1, k2] at g0 g1 g2
    obtain ⟨a0, e0, _, _⟩ := DataW.trod_int Try.underlying3 g0
    obtain ⟨a1, e1, _, _⟩ := DataW.trod_int Try.underlying3 g1
    obtain rfl : v0 = .int .i64 a0 := by simpa using e0
    obtain rfl : v1 = .int .i64 a1 := by simpa using e1
    obtain ⟨m, ev, e2, hE, hW⟩ := open_msgL g2
    exact ⟨(a0, a1, m, ev), by unfold acC; rw [← e2], hE, hW⟩
theorem open_acts {v : Value} {d : DataW H} {ps : List MemPlace} (hv : ∃ a n c, v = .slice a n c) (h : DataW.Trod enc Try.prog W 0 (fun _ => true) true 22 v d ps) : ∃ A, ASl W v A := by
  obtain ⟨a0, n0, c0, rfl⟩ := hv
  obtain ⟨fuel, hf⟩ := h
  rcases open_slice Try.underlying22 hf with ⟨hcs, _⟩ | ⟨a, len, cap, m, n, D, Pl, hcs, _, hl, hm, hmm, _, hx⟩
  · simp [Value.cells] at hcs
    obtain ⟨rfl, rfl, rfl⟩ := hcs
    exact ⟨[], none, 0, rfl, Nat.zero_le _, (fun x hx => by cases hx), fun h => absurd rfl h⟩
  · simp [Value.cells] at hcs
    obtain ⟨rfl, rfl, rfl⟩ := hcs
    simp only [if_true] at hmm
    have hk : Try.prog.cellsOf 34 = 12 := by kernel_rfl
    have each : ∀ i, i < n0 → ∃ y : Ac, (ESl W y.2.2.2 y.2.2.1.ents ∧ WfMsg y.2.2.1) ∧ ∀ j u, (acC y)[j]? = some u → W.cell? (a.add (i * 12 + j)) = some u := fun i hi => by
      obtain ⟨cs', h1, h2⟩ := hx i (by omega)
      rw [hk] at h1
      obtain ⟨_, hlen, hcell⟩ := World.cells?_some h1
      obtain ⟨y, rfl, hE, hW⟩ := open_actL hlen h2
      refine ⟨y, ⟨hE, hW⟩, fun j u hu => ?_⟩
      have hj := (List.getElem?_eq_some_iff.1 hu).1
      have q0 := hcell j (by omega)
      rw [add_add] at q0
      rw [q0]
      exact hu
    obtain ⟨A, hA, hq⟩ := list_ofA n0 each
    subst hA
    refine ⟨A, _, _, rfl, by omega, fun x hx => ?_, fun hne => ?_⟩
    · obtain ⟨i, hi, e⟩ := List.getElem_of_mem hx
      exact (hq i x (by rw [List.getElem?_eq_getElem hi, e])).1
    · have hpos : 0 < A.length := by cases A with
        | nil => exact absurd rfl hne
        | cons _ _ => simp
      obtain ⟨y, _, z0⟩ := each 0 hpos
      have z1 := z0 0 _ rfl
      obtain ⟨g, o, rfl⟩ := spot_of (by omega) z1
      refine ⟨g, o, rfl, ?_, fun i x hx j u hu => ?_⟩
      · rw [add_spot] at z1
        exact World.block_lt_of_cell? W _ z1
      · have h1 := (hq i x hx).2 j u hu
        rw [add_spot] at h1
        rw [Nat.add_assoc]; exact h1
end
end Go.Proofs.Ytgdlnjhbencjkaa
