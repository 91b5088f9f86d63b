/- Arguments that are slices of structs of three cells: a number and two texts; arrays of two texts. -/
import Derived.Test.YtohcackebmmikaaDoorArgs
import Derived.ChangeMaps5
import Derived.Deep.Slices
namespace Go.Proofs.YtohcackebmmikaaDoor
open Go.ChangeShapes Go.WideShapes Go.RowKit Go.Deep

section
variable {H : Type} {enc : TypeId × Value → H} {P : Program} {W W' : World}

/-- The slice's cells: each element is a number and two texts. -/
def ActsAt (w : World) (la : Option Addr) (ln : Nat) : Prop := ∀ i, i < ln → ∃ (g o : Nat) (x : Int) (k s : ByteArray), la = some ⟨g, o, none⟩ ∧ g < w.heap.size ∧ k.size ≤ maxLen ∧ s.size ≤ maxLen ∧
  w.cell? ⟨g, o + i * 3, none⟩ = some (.int .i64 x) ∧ w.cell? ⟨g, o + i * 3 + 1, none⟩ = some (.string k) ∧ w.cell? ⟨g, o + i * 3 + 2, none⟩ = some (.string s)

theorem open_acts {t e : TypeId} {f0 f1 f2 : Field} {v : Value} {d : DataW H} {ps : List MemPlace} (ht : P.underlying t = some (.slice e)) (he : P.underlying e = some (.struct #[f0, f1, f2]))
    (ce : P.cellsOf e = 3) (o0 : f0.offset = 0) (o1 : f1.offset = 1) (o2 : f2.offset = 2) (c0 : P.cellsOf f0.type = 1) (c1 : P.cellsOf f1.type = 1) (c2 : P.cellsOf f2.type = 1)
    (u0 : P.underlying f0.type = some (.int .i64)) (u1 : P.underlying f1.type = some .string) (u2 : P.underlying f2.type = some .string)
    (hv : ∃ a n c, v = .slice a n c) (h : DataW.Trod enc P W 0 (fun _ => true) true t v d ps) : ∃ la ln lc, v = .slice la ln lc ∧ ln ≤ maxLen ∧ ActsAt W la ln := by
  obtain ⟨a0, n0, c00, rfl⟩ := hv
  obtain ⟨fuel, hf⟩ := h
  rcases open_slice ht hf with ⟨hcs, _⟩ | ⟨a, len, cap, m, n, D, Pl, hcs, _, hl, hm, hmm, _, hx⟩
  · simp [Value.cells] at hcs
    obtain ⟨rfl, rfl, rfl⟩ := hcs
    exact ⟨none, 0, 0, rfl, by omega, fun i hi => by omega⟩
  · simp [Value.cells] at hcs
    obtain ⟨rfl, rfl, rfl⟩ := hcs
    simp only [if_true] at hmm
    have each : ∀ i, i < n0 → ∃ x k s, k.size ≤ maxLen ∧ s.size ≤ maxLen ∧ W.cell? (a.add (i * 3)) = some (.int .i64 x) ∧ W.cell? (a.add (i * 3 + 1)) = some (.string k) ∧ W.cell? (a.add (i * 3 + 2)) = some (.string s) := fun i hi => by
      obtain ⟨cs', h1, h2⟩ := hx i (by omega)
      rw [ce] at h1
      obtain ⟨_, hlen, hcell⟩ := World.cells?_some h1
      obtain ⟨xs, k, _, _, _, hxl, hfs⟩ := DataW.trod_struct he h2
      match xs, hxl, cs', hlen with
      | [y0, y1, y2], _, [v0, v1, v2], _ =>
        have g0 := hfs 0 f0 rfl
        have g1 := hfs 1 f1 rfl
        have g2 := hfs 2 f2 rfl
        simp [o0, o1, o2, c0, c1, c2] at g0 g1 g2
        have q0 := hcell 0 (by omega)
        have q1 := hcell 1 (by omega)
        have q2 := hcell 2 (by omega)
        rw [add_add] at q0 q1 q2
        obtain ⟨x, e0, _, _⟩ := DataW.trod_int u0 g0
        obtain ⟨y, e1, _, hy⟩ := DataW.trod_string u1 g1
        obtain ⟨s, e2, _, hs⟩ := DataW.trod_string u2 g2
        obtain rfl : v0 = .int .i64 x := by simpa using e0
        obtain rfl : v1 = .string y := by simpa using e1
        obtain rfl : v2 = .string s := by simpa using e2
        exact ⟨x, y, s, hy, hs, by simpa using q0, by simpa using q1, by simpa using q2⟩
    refine ⟨_, _, _, rfl, by omega, fun i hi => ?_⟩
    obtain ⟨x0, y0, s0, _, _, z0, _, _⟩ := each 0 (by omega)
    obtain ⟨g, o, rfl⟩ := spot_of (by omega) z0
    obtain ⟨x, y, s, hy, hs, h0, h1, h2⟩ := each i hi
    rw [add_spot] at h0 h1 h2
    exact ⟨g, o, x, y, s, rfl, World.block_lt_of_cell? W _ h0, hy, hs, h0, h1, h2⟩

end
end Go.Proofs.YtohcackebmmikaaDoor
