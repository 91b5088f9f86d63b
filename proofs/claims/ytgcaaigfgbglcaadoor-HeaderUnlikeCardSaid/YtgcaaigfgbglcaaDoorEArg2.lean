/- Steps as arguments, with the bound that their bytes have. -/
import Derived.Test.YtgcaaigfgbglcaaDoorERight
import Derived.SizedLaws
namespace Go.Proofs.YtgcaaigfgbglcaaDoor
open Go.ChangeShapes Go.WideShapes Go.RowKit Go.Deep
section
variable {H : Type} {enc : TypeId × Value → H} {P : Program} {W W' : World}
set_option maxRecDepth 100000 in
theorem open_steps2 {t e : TypeId} {f0 f1 f2 f3 : Field} {v : Value} {d : DataW H} {ps : List MemPlace} (ht : P.underlying t = some (.slice e)) (he : P.underlying e = some (.struct #[f0, f1, f2, f3]))
    (ce : P.cellsOf e = 4) (o0 : f0.offset = 0) (o1 : f1.offset = 1) (o2 : f2.offset = 2) (o3 : f3.offset = 3) (c0 : P.cellsOf f0.type = 1) (c1 : P.cellsOf f1.type = 1) (c2 : P.cellsOf f2.type = 1) (c3 : P.cellsOf f3.type = 1)
    (u0 : P.underlying f0.type = some .string) (u1 : P.underlying f1.type = some (.int .u64)) (u2 : P.underlying f2.type = some (.int .u64)) (u3 : P.underlying f3.type = some (.int .i64))
    (hv : ∃ a n c, v = .slice a n c) (h : DataW.Trod enc P W 0 (fun _ => true) true t v d ps) : ∃ L, StpSl W v L ∧ L.length ≤ maxLen ∧ (∀ x ∈ L, x.Fit) ∧ (L = [] ∨ ∃ E S, d = .slice E S ∧ E.length = L.length) := by
  obtain ⟨a0, n0, c00, rfl⟩ := hv
  obtain ⟨fuel, hf⟩ := h
  rcases open_slice ht hf with ⟨hcs, _⟩ | ⟨a, len, cap, m, n, D, Pl, hcs, _, hl, hm, hmm, hdd, hx⟩
  · simp [Value.cells] at hcs
    obtain ⟨rfl, rfl, rfl⟩ := hcs
    exact ⟨[], ⟨none, 0, rfl, Nat.le_refl _, fun h => absurd rfl h⟩, by simp, (fun x hx => by cases hx), .inl rfl⟩
  · simp [Value.cells] at hcs
    obtain ⟨rfl, rfl, rfl⟩ := hcs
    simp only [if_true] at hmm
    have each : ∀ i, i < n0 → ∃ x : Stp, x.Fit ∧ W.cell? (a.add (i * 4)) = some (.string x.root) ∧ W.cell? (a.add (i * 4 + 1)) = some (.int .u64 x.who) ∧ W.cell? (a.add (i * 4 + 2)) = some (.int .u64 x.stamp) ∧ W.cell? (a.add (i * 4 + 3)) = some (.int .i64 x.bad) := fun i hi => by
      obtain ⟨cs', h1, h2⟩ := hx i (by omega)
      rw [ce] at h1
      obtain ⟨_, hlen, hcell⟩ := World.cells?_some h1
      obtain ⟨xs, k, _, _, _, hxl, hfs⟩ := DataW.trod_struct he h2
      match xs, hxl, cs', hlen with
      | [y0, y1, y2, y3], _, [v0, v1, v2, v3], _ =>
        have g0 := hfs 0 f0 rfl
        have g1 := hfs 1 f1 rfl
        have g2 := hfs 2 f2 rfl
        have g3 := hfs 3 f3 rfl
        simp [o0, o1, o2, o3, c0, c1, c2, c3] at g0 g1 g2 g3
        have q0 := hcell 0 (by omega)
        have q1 := hcell 1 (by omega)
        have q2 := hcell 2 (by omega)
        have q3 := hcell 3 (by omega)
        rw [add_add] at q0 q1 q2 q3
        obtain ⟨s, e0, _, hs⟩ := DataW.trod_string u0 g0
        obtain ⟨a1, e1, _, w1⟩ := DataW.trod_int u1 g1
        obtain ⟨a2, e2, _, w2⟩ := DataW.trod_int u2 g2
        obtain ⟨a3, e3, _, w3⟩ := DataW.trod_int u3 g3
        obtain rfl : v0 = .string s := by simpa using e0
        obtain rfl : v1 = .int .u64 a1 := by simpa using e1
        obtain rfl : v2 = .int .u64 a2 := by simpa using e2
        obtain rfl : v3 = .int .i64 a3 := by simpa using e3
        simp [Lit.wf, IntKind.min, IntKind.max, IntKind.signed, IntKind.bits] at w1 w2 w3
        exact ⟨⟨s, a1, a2, a3⟩, ⟨hs, ⟨w1.1, by show a1 < _; omega⟩, ⟨w2.1, by show a2 < _; omega⟩, w3.1, by show a3 ≤ _; omega⟩, by simpa using q0, by simpa using q1, by simpa using q2, by simpa using q3⟩
    by_cases h0 : n0 = 0
    · subst h0
      exact ⟨[], ⟨some a, c00, rfl, Nat.zero_le _, fun h => absurd rfl h⟩, by simp, (fun x hx => by cases hx), .inl rfl⟩
    · obtain ⟨x0, _, z0, _⟩ := each 0 (by omega)
      obtain ⟨g, o, rfl⟩ := spot_of (by omega) z0
      obtain ⟨L, hL, hP⟩ := list_of (Q := fun i (x : Stp) => x.Fit ∧ TCl W g (o + i * 4) x) n0 (fun i hi => by
        obtain ⟨x, h1, h2, h3, h4, h5⟩ := each i hi
        rw [add_spot] at h2 h3 h4 h5
        exact ⟨x, h1, ⟨h2, by rw [Nat.add_assoc]; exact h3, by rw [Nat.add_assoc]; exact h4, by rw [Nat.add_assoc]; exact h5⟩⟩)
      rw [add_spot] at z0
      refine ⟨L, ⟨some ⟨g, o, none⟩, c00, by rw [hL], by omega, fun _ => ⟨g, o, rfl, World.block_lt_of_cell? W _ z0, fun i x hx => (hP i x hx).2⟩⟩, by omega, (fun x hx => by
        obtain ⟨i, hi⟩ := List.getElem?_of_mem hx
        exact (hP i x hi).1), .inr ⟨_, _, (Prod.mk.inj hdd).1, by simp [hL]⟩⟩
end
end Go.Proofs.YtgcaaigfgbglcaaDoor
