/- A hash is that which the roots of the first primes make. -/
import Derived.Test.YtohjnhekkifhbaaDoorNumR
import Derived.Test.YtohjnhekkifhbaaDoorLaws1
namespace Go.Proofs.YtohjnhekkifhbaaDoor
open Go.RowKit

theorem roots_at (n pw kx : Nat) (L : List Int) (w : World) (hpw : pw ≤ 3) (hpw1 : 1 ≤ pw) (hkx : kx ≤ 310) (hL : (outF pw kx).map (fun x : Nat => (x : Int)) = L) (hn : L.length = n) (h0 : 0 < n) :
    Calls Tryd.prog 14 #[.int .i64 n, .int .i64 pw] w fun e w' => ∃ g' cap, e = .returned (.slice (some ⟨g', 0, none⟩) n cap) ∧ g' < w'.heap.size ∧ At32 w' g' L ∧ Below w.heap.size w w' := by
  have hl : (outF pw kx).length = n := by rw [← hn, ← hL, List.length_map]
  refine (Roots_ref n pw kx w hpw hpw1 hkx hl).mono ?_
  rintro e w' ⟨v, rfl, hown, hb⟩
  have hm : (outF pw kx).map u32N = L.map u32V := by rw [← hL, List.map_map]; rfl
  rw [hm] at hown
  have hlen : (L.map u32V).length = n := by rw [List.length_map]; exact hn
  obtain ⟨g', cap, rfl, _, hlt⟩ := World.ownsRow.form hown (by omega)
  refine ⟨g', cap, by rw [hlen], hlt, fun j hj => ?_, hb⟩
  have := World.ownsRow.cellAt hown j (by rw [Nat.mul_one, List.length_map]; exact hj)
  rw [this]; simp [List.getD, hj]

set_option maxRecDepth 100000 in
set_option maxHeartbeats 2000000 in
theorem roots_law (H : SumOk) (s : ByteArray) (w : World) (hst : Start w) (hmax : s.size ≤ maxLen) :
    Calls Tryd.prog 4 #[.string s] w fun e w' => e = .returned (.bool true) ∧ Below w.heap.size w w' := by
  have HA := Lib.hid (awake_prog H w hst)
  have HH := Lib.hid H
  have HS := Lib.hid hst
  unfold maxLen at hmax
  clear H hst
  obtain ⟨S, hS⟩ : ∃ S, sumL s.data.toList = S := ⟨_, rfl⟩
  have HSS := Lib.hid hS
  clear hS
  go_enter Tryd.func4, Tryd.ntmps4
  by_cases hbig : 200 < s.size
  · go_wp2_with fail
    refine HA.out.mono ?_
    rintro e w1 ⟨rfl, hb1⟩
    go_wp2
    go_ret
    exact ⟨rfl, hb1⟩
  · go_wp2_with fail
    refine HA.out.mono ?_
    rintro e w1 ⟨rfl, hb1⟩
    have hst1 := Lib.hid (HS.out.later hb1)
    go_wp2_with fail
    refine (sumAt HH.out s w1 (by omega) hst1.out S HSS.out).mono ?_
    rintro e w2 ⟨rfl, hb2⟩
    go_wp2_with fail
    refine (roots_at 8 2 18 (hv sqr) w2 (by omega) (by omega) (by omega) roots2 rfl (by omega)).mono ?_
    rintro e w3 ⟨g3, c3, rfl, hlt3, h3, hb3⟩
    go_wp2_with fail
    refine (roots_at 64 3 310 (hv cub) w3 (by omega) (by omega) (by omega) roots3 rfl (by omega)).mono ?_
    rintro e w4 ⟨g4, c4, rfl, hlt4, h4, hb4⟩
    have h3' : At32 w4 g3 (hv sqr) := fun j hj => cellBelow hb4 hlt3 (h3 j hj)
    have z4 := hb4.size
    have h4' : ∀ j, j < 64 → w4.cell? ⟨g4, j, none⟩ = some (u32V (Kr j)) := fun j hj => h4 j (by rw [hv_length]; exact hj)
    have hby : Calls Tryd.prog 13 #[.string s, .slice (some ⟨g3, 0, none⟩) 8 c3, .slice (some ⟨g4, 0, none⟩) 64 c4] w4 fun e w' => e = .returned (.string ⟨S.toArray⟩) ∧ Below w4.heap.size w4 w' := by
      have h := by_ref g3 g4 c3 c4 (hv sqr) Kr s w4 (by omega) rfl h3' h4' (by omega) hlt4 (hv_u _ sqr_u)
      have e : sumBy Kr (stOf (hv sqr)) s.data.toList = S := HSS.out
      rw [e] at h
      exact h
    have HB := Lib.hid hby
    clear hby h3 h4 h3' h4'
    go_wp2_with fail
    refine HB.out.mono ?_
    rintro e w5 ⟨rfl, hb5⟩
    go_wp2
    go_ret
    exact ⟨rfl, belowNext (belowNext (belowNext (belowNext hb1 hb2) hb3) hb4) hb5⟩
end Go.Proofs.YtohjnhekkifhbaaDoor
