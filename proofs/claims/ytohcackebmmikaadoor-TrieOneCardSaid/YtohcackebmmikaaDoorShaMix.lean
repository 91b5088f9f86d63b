import Derived.Test.YtohcackebmmikaaDoorShaProg
namespace Go.Proofs.YtohcackebmmikaaDoor
open Go.RowKit

def upd (X Y : St) (k j : Nat) : Value := if j < k then u32V ((X.at j + Y.at j) % 4294967296) else u32V (X.at j)
theorem upd_step (X Y : St) (k j : Nat) : upd X Y (k + 1) j = if j = k then .int .u32 ((X.at k + Y.at k) % 4294967296) else upd X Y k j := by
  unfold upd
  by_cases h : j = k
  · subst h; rw [if_pos (by omega), if_pos rfl]; rfl
  · rw [if_neg h]
    by_cases h2 : j < k
    · rw [if_pos (by omega), if_pos h2]
    · rw [if_neg (by omega), if_neg h2]
theorem St.add_comm (x y : St) : x.add y = y.add x := by simp only [St.add, Int.add_comm]

set_option maxRecDepth 100000 in
set_option maxHeartbeats 8000000 in
theorem mix_prog (gs gk ts tk : Nat) (X : St) (K : Nat → Int) (s : ByteArray) (w : World) (hs : s.size = 64) (hX : X.ok)
    (hst : w.rowIs gs ts 8 (fun j => u32V (X.at j))) (hk : w.rowIs gk tk 64 (fun j => u32V (K j))) :
    Calls Tryd.prog 67 #[.pointer (some ⟨gs, 0, none⟩), .pointer (some ⟨gk, 0, none⟩), .string s] w fun e w' =>
      e = .returned (.tuple #[]) ∧ w'.rowIs gs ts 8 (fun j => u32V ((comp K X s).at j)) ∧ Only gs w w' := by
  obtain ⟨W, hW⟩ : ∃ W, W = wOf (nums s) := ⟨_, rfl⟩
  have HW := Lib.hid hW
  clear hW
  go_enter Tryd.func67, Tryd.ntmps67
  go_wp2_with (first
    | (go_at_call 70; refine (schedule_prog _ _ hs).mono ?_; rw [← HW.out]; rintro e w1 ⟨rfl, hb1⟩)
    | (refine list_store_arr (ty := 101) (n := 64) (by kernel_rfl) rfl _ _ rfl w1.heap.size 101 (fun _ => u32V 0) _ rfl rfl (rowIs_rep (by rfl)) (fun _ => rfl) ?_))
  intro w2 hw2 ho2
  have hgs := hst.lt
  have hgk := hk.lt
  have hz1 := hb1.size
  have hb2 : Below w.heap.size w w2 := (hb1.alloc hz1 _).trans (ho2.below hz1 (by simp; omega))
  have hst2 := rowIs_below hst hb2 hgs
  have hk2 := rowIs_below hk hb2 hgk
  clear ho2 hst hk
  have c0 := hst2.cell (i := 0) (by omega)
  have c1 := hst2.cell (i := 1) (by omega)
  have c2 := hst2.cell (i := 2) (by omega)
  have c3 := hst2.cell (i := 3) (by omega)
  have c4 := hst2.cell (i := 4) (by omega)
  have c5 := hst2.cell (i := 5) (by omega)
  have c6 := hst2.cell (i := 6) (by omega)
  have c7 := hst2.cell (i := 7) (by omega)
  simp only [u32V, St.at] at c0 c1 c2 c3 c4 c5 c6 c7
  go_wp2_with fail
  go_quiet (fail)
  go_wp2_with fail
  go_quiet (fail)
  go_wp2_with fail
  clear c0 c1 c2 c3 c4 c5 c6 c7
  go_loopw [7, 8, 9, 10, 11, 12, 13, 14, 52] (fun a b c d e f g h i wr => ∃ (t : Nat) (Y : St), t ≤ 64 ∧ i = .int .i64 t ∧ Hid (Y = rnds K W X t) ∧ a = .int .u32 Y.a ∧ b = .int .u32 Y.b ∧ c = .int .u32 Y.c ∧ d = .int .u32 Y.d ∧ e = .int .u32 Y.e ∧ f = .int .u32 Y.f ∧ g = .int .u32 Y.g ∧ h = .int .u32 Y.h ∧ Same w2 wr)
    (fun _ _ _ _ _ _ _ _ i _ => 64 - (intOf i).toNat)
  case atStart => exact ⟨0, X, by omega, rfl, Lib.hid rfl, rfl, rfl, rfl, rfl, rfl, rfl, rfl, rfl, (Same.of _ _).trans (Same.of _ _)⟩
  case round =>
    obtain ⟨t, Y, ht, rfl, hY, rfl, rfl, rfl, rfl, rfl, rfl, rfl, rfl, hsm⟩ := hrel
    by_cases h64 : t < 64
    · have hok : Y.ok := by rw [hY.out]; exact rnds_ok K W X hX t
      have hua := hok.1
      have hue := hok.2.2.2.2.1
      clear hok
      have ek := (rowIs_same hk2 hsm).cell h64
      have ew := (rowIs_same hw2 hsm).cell h64
      simp only [u32V] at ek ew
      have i0 : (0 : Int) ≤ (t : Int) := by omega
      have i1 : (t : Int) < 64 := by omega
      go_wp2_with fail
      go_quiet ((go_at_call 71; exact quietE (turn_prog _ _ _ (by assumption) (by simp [turns]))))
      go_wp2_with ((go_at_call 71; refine (turn_prog _ _ _ (by assumption) (by simp [turns])).mono ?_; rintro e w' ⟨rfl, rfl⟩))
      go_roundw
      case rel =>
        exact ⟨t + 1, stp Y (K t) (W t), by omega, by go_num, Lib.hid (by rw [hY.out]; rfl), rfl, rfl, rfl, rfl, rfl, rfl, rfl, rfl, hsm.trans (Same.of _ _)⟩
      case measure => simp [intOf]; omega
    · have hte : Hid (Y = rnds K W X 64) := by rw [show 64 = t from by omega]; exact hY
      have hge : (64 : Int) ≤ (t : Int) := by omega
      clear hY h64
      have hst3 := rowIs_same hst2 hsm
      have hr0 : wr.rowIs gs ts 8 (upd X Y 0) := hst3.congr (fun j _ => by simp [upd])
      have hO0 : Only gs w wr := (Only.ofBelow hb2).trans (Only.ofSame hsm)
      clear hst3 hst2 hk2 hw2 hb2
      have c0 : wr.cell? ⟨gs, 0, none⟩ = some (.int .u32 X.a) := hr0.cell (i := 0) (by omega)
      have f0 := hr0.frozen 0
      go_wp2_with fail
      go_still_tail 8, (by kernel_rfl)
      go_wp2_with fail
      obtain ⟨wa1, hwa1⟩ : ∃ x, x = (wr.setCell ⟨gs, 0, none⟩ (.int .u32 ((X.a + Y.a) % 4294967296))).drew := ⟨_, rfl⟩
      rw [← hwa1]
      have hr1 : wa1.rowIs gs ts 8 (upd X Y 1) := by rw [hwa1]; exact World.rowIs.drew (row_put hr0 _ _ (fun j _ => upd_step X Y 0 j))
      have hO1 : Only gs w wa1 := by rw [hwa1]; exact (hO0.setCell _ _).drew
      clear c0 f0 hr0 hO0 hwa1
      have c1 : wa1.cell? ⟨gs, 1, none⟩ = some (.int .u32 X.b) := hr1.cell (i := 1) (by omega)
      have f1 := hr1.frozen 1
      go_wp2_with fail
      go_still_tail 8, (by kernel_rfl)
      go_wp2_with fail
      obtain ⟨wa2, hwa2⟩ : ∃ x, x = (wa1.setCell ⟨gs, 1, none⟩ (.int .u32 ((X.b + Y.b) % 4294967296))).drew := ⟨_, rfl⟩
      rw [← hwa2]
      have hr2 : wa2.rowIs gs ts 8 (upd X Y 2) := by rw [hwa2]; exact World.rowIs.drew (row_put hr1 _ _ (fun j _ => upd_step X Y 1 j))
      have hO2 : Only gs w wa2 := by rw [hwa2]; exact (hO1.setCell _ _).drew
      clear c1 f1 hr1 hO1 hwa2
      have c2 : wa2.cell? ⟨gs, 2, none⟩ = some (.int .u32 X.c) := hr2.cell (i := 2) (by omega)
      have f2 := hr2.frozen 2
      go_wp2_with fail
      go_still_tail 8, (by kernel_rfl)
      go_wp2_with fail
      obtain ⟨wa3, hwa3⟩ : ∃ x, x = (wa2.setCell ⟨gs, 2, none⟩ (.int .u32 ((X.c + Y.c) % 4294967296))).drew := ⟨_, rfl⟩
      rw [← hwa3]
      have hr3 : wa3.rowIs gs ts 8 (upd X Y 3) := by rw [hwa3]; exact World.rowIs.drew (row_put hr2 _ _ (fun j _ => upd_step X Y 2 j))
      have hO3 : Only gs w wa3 := by rw [hwa3]; exact (hO2.setCell _ _).drew
      clear c2 f2 hr2 hO2 hwa3
      have c3 : wa3.cell? ⟨gs, 3, none⟩ = some (.int .u32 X.d) := hr3.cell (i := 3) (by omega)
      have f3 := hr3.frozen 3
      go_wp2_with fail
      go_still_tail 8, (by kernel_rfl)
      go_wp2_with fail
      obtain ⟨wa4, hwa4⟩ : ∃ x, x = (wa3.setCell ⟨gs, 3, none⟩ (.int .u32 ((X.d + Y.d) % 4294967296))).drew := ⟨_, rfl⟩
      rw [← hwa4]
      have hr4 : wa4.rowIs gs ts 8 (upd X Y 4) := by rw [hwa4]; exact World.rowIs.drew (row_put hr3 _ _ (fun j _ => upd_step X Y 3 j))
      have hO4 : Only gs w wa4 := by rw [hwa4]; exact (hO3.setCell _ _).drew
      clear c3 f3 hr3 hO3 hwa4
      have c4 : wa4.cell? ⟨gs, 4, none⟩ = some (.int .u32 X.e) := hr4.cell (i := 4) (by omega)
      have f4 := hr4.frozen 4
      go_wp2_with fail
      go_still_tail 8, (by kernel_rfl)
      go_wp2_with fail
      obtain ⟨wa5, hwa5⟩ : ∃ x, x = (wa4.setCell ⟨gs, 4, none⟩ (.int .u32 ((X.e + Y.e) % 4294967296))).drew := ⟨_, rfl⟩
      rw [← hwa5]
      have hr5 : wa5.rowIs gs ts 8 (upd X Y 5) := by rw [hwa5]; exact World.rowIs.drew (row_put hr4 _ _ (fun j _ => upd_step X Y 4 j))
      have hO5 : Only gs w wa5 := by rw [hwa5]; exact (hO4.setCell _ _).drew
      clear c4 f4 hr4 hO4 hwa5
      have c5 : wa5.cell? ⟨gs, 5, none⟩ = some (.int .u32 X.f) := hr5.cell (i := 5) (by omega)
      have f5 := hr5.frozen 5
      go_wp2_with fail
      go_still_tail 8, (by kernel_rfl)
      go_wp2_with fail
      obtain ⟨wa6, hwa6⟩ : ∃ x, x = (wa5.setCell ⟨gs, 5, none⟩ (.int .u32 ((X.f + Y.f) % 4294967296))).drew := ⟨_, rfl⟩
      rw [← hwa6]
      have hr6 : wa6.rowIs gs ts 8 (upd X Y 6) := by rw [hwa6]; exact World.rowIs.drew (row_put hr5 _ _ (fun j _ => upd_step X Y 5 j))
      have hO6 : Only gs w wa6 := by rw [hwa6]; exact (hO5.setCell _ _).drew
      clear c5 f5 hr5 hO5 hwa6
      have c6 : wa6.cell? ⟨gs, 6, none⟩ = some (.int .u32 X.g) := hr6.cell (i := 6) (by omega)
      have f6 := hr6.frozen 6
      go_wp2_with fail
      go_still_tail 8, (by kernel_rfl)
      go_wp2_with fail
      obtain ⟨wa7, hwa7⟩ : ∃ x, x = (wa6.setCell ⟨gs, 6, none⟩ (.int .u32 ((X.g + Y.g) % 4294967296))).drew := ⟨_, rfl⟩
      rw [← hwa7]
      have hr7 : wa7.rowIs gs ts 8 (upd X Y 7) := by rw [hwa7]; exact World.rowIs.drew (row_put hr6 _ _ (fun j _ => upd_step X Y 6 j))
      have hO7 : Only gs w wa7 := by rw [hwa7]; exact (hO6.setCell _ _).drew
      clear c6 f6 hr6 hO6 hwa7
      have c7 : wa7.cell? ⟨gs, 7, none⟩ = some (.int .u32 X.h) := hr7.cell (i := 7) (by omega)
      have f7 := hr7.frozen 7
      go_wp2_with fail
      go_still_tail 8, (by kernel_rfl)
      go_wp2_with fail
      obtain ⟨wa8, hwa8⟩ : ∃ x, x = (wa7.setCell ⟨gs, 7, none⟩ (.int .u32 ((X.h + Y.h) % 4294967296))).drew := ⟨_, rfl⟩
      rw [← hwa8]
      have hr8 : wa8.rowIs gs ts 8 (upd X Y 8) := by rw [hwa8]; exact World.rowIs.drew (row_put hr7 _ _ (fun j _ => upd_step X Y 7 j))
      have hO8 : Only gs w wa8 := by rw [hwa8]; exact (hO7.setCell _ _).drew
      clear c7 f7 hr7 hO7 hwa8
      go_end0
      refine ⟨rfl, hr8.congr (fun j hj => ?_), hO8⟩
      simp only [upd, hj, if_true, comp]
      rw [St.add_comm, St.add_at _ _ _ hj, ← HW.out, hte.out]
end Go.Proofs.YtohcackebmmikaaDoor
