import Derived.Test.YtohcackebmmikaaDoorSRef2
namespace Go.Proofs.YtohcackebmmikaaDoor
open Go.RowKit

theorem halves_at (g n c m : Nat) (L : List Int) (w : World) (hn : L.length = n) (hm : m = 2 * n) (h0 : 0 < n) (hg : g < w.heap.size) (hn2 : n ≤ 1000) (hc : At64 w g L) (hL : ∀ x ∈ L, 0 ≤ x ∧ x < 18446744073709551616) :
    Calls Tryd.prog 47 #[.slice (some ⟨g, 0, none⟩) n c] w fun e w' => ∃ g' cap, e = .returned (.slice (some ⟨g', 0, none⟩) m cap) ∧ g' < w'.heap.size ∧ At32 w' g' (hv L) ∧ Below w.heap.size w w' := by
  refine (halves_ref g n c L w hn hg hn2 hc hL).mono ?_
  rintro e w' ⟨v, rfl, hown, hb⟩
  have hlen : ((hv L).map u32V).length = m := by rw [List.length_map, hv_length]; omega
  obtain ⟨g', cap, rfl, _, hlt⟩ := World.ownsRow.form hown (by omega)
  refine ⟨g', cap, by rw [hlen], hlt, fun j hj => ?_, hb⟩
  have := World.ownsRow.cellAt hown j (by rw [Nat.mul_one, List.length_map]; exact hj)
  rw [this]; simp [List.getD, hj]

theorem sqr_u : ∀ x ∈ sqr, 0 ≤ x ∧ x < 18446744073709551616 := by decide +kernel
theorem cub_u : ∀ x ∈ cub, 0 ≤ x ∧ x < 18446744073709551616 := by decide +kernel
theorem hv_u (l : List Int) (h : ∀ x ∈ l, 0 ≤ x ∧ x < 18446744073709551616) (j : Nat) : inU ((hv l).getD j 0) := by
  have : ∀ y ∈ hv l, inU y := by
    intro y hy
    simp only [hv, List.mem_flatMap, List.mem_cons, List.not_mem_nil, or_false] at hy
    obtain ⟨x, hx, h1 | h1⟩ := hy
    · have := h x hx; subst h1; constructor <;> omega
    · have := h x hx; subst h1; constructor <;> omega
  by_cases hj : j < (hv l).length
  · have e : (hv l).getD j 0 = (hv l)[j] := by simp [List.getD, hj]
    rw [e]; exact this _ (List.getElem_mem _)
  · rw [List.getD, List.getElem?_eq_none (by omega)]; exact ⟨by simp, by simp⟩

set_option maxHeartbeats 1000000 in
theorem print_ref (s : ByteArray) (w : World) (hs : s.size ≤ 100000) :
    Calls Tryd.prog 30 #[.string s] w fun e w' => e = .returned (.string ⟨(sumL s.data.toList).toArray⟩) ∧ Below w.heap.size w w' := by
  go_enter Tryd.func30, Tryd.ntmps30
  go_wp2_with fail
  refine (squares_ref w).mono ?_
  rintro e w1 ⟨rfl, hlt1, h1, hb1⟩
  go_wp2_with fail
  refine (halves_at w.heap.size 4 4 8 sqr w1 rfl rfl (by omega) hlt1 (by omega) h1 sqr_u).mono ?_
  rintro e w2 ⟨g2, c2, rfl, hlt2, h2, hb2⟩
  go_wp2_with fail
  refine (cubes_ref w2).mono ?_
  rintro e w3 ⟨rfl, hlt3, h3, hb3⟩
  go_wp2_with fail
  refine (halves_at w2.heap.size 32 32 64 cub w3 rfl rfl (by omega) hlt3 (by omega) h3 cub_u).mono ?_
  rintro e w4 ⟨g4, c4, rfl, hlt4, h4, hb4⟩
  have z1 := hb1.size; have z2 := hb2.size; have z3 := hb3.size; have z4 := hb4.size
  have h2' : At32 w4 g2 (hv sqr) := fun j hj => cellBelow hb4 (by omega) (cellBelow hb3 hlt2 (h2 j hj))
  have h4' : ∀ j, j < 64 → w4.cell? ⟨g4, j, none⟩ = some (u32V (Kr j)) := fun j hj => h4 j (by rw [hv_length]; exact hj)
  go_wp2_with fail
  refine (by_ref g2 g4 c2 c4 (hv sqr) Kr s w4 hs rfl h2' h4' (by omega) hlt4 (hv_u _ sqr_u)).mono ?_
  rintro e w5 ⟨rfl, hb5⟩
  clear h1 h2 h3 h4 h2' h4'
  go_wp2
  go_ret
  exact ⟨rfl, hb1.trans ((hb2.trans ((hb3.trans ((hb4.trans (hb5.mono z4)).mono z3)).mono z2)).mono z1)⟩

theorem mk_size (l : List UInt8) : (⟨l.toArray⟩ : ByteArray).size = l.length := by rw [ByteArray.size_mk']; simp

end Go.Proofs.YtohcackebmmikaaDoor
