import Derived.Test.YtohcackebmmikaaDoorChecked
import Derived.Test.YtohcackebmmikaaDoorShaSpec
import Derived.StillTailTactics
namespace Go.Proofs.YtohcackebmmikaaDoor
open Go.RowKit

theorem Tryd.u32Sl : Sl Tryd.prog 81 94 (.int .u32 0) 4 := ⟨Tryd.underlying81, by kernel_rfl, rfl⟩

set_option maxHeartbeats 400000 in
theorem bits_ref (x n : Int) (w : World) (hn : 1 ≤ n) (hn2 : n ≤ 31) :
    Calls Tryd.prog 65 #[.int .u32 x, .int .i64 n] w fun e w' => e = .returned (.int .u32 (rot x n)) ∧ Same w w' := by
  go_enter Tryd.func65, Tryd.ntmps65
  go_wp2_with fail
  go_quiet (fail)
  go_wp2
  go_ret
  exact ⟨rfl, Same.of _ _⟩

theorem ret_u32 {a b : Int} (h : a = b) : Ending.returned (.int .u32 a) = .returned (.int .u32 b) := by rw [h]

set_option maxHeartbeats 400000 in
theorem number_ref (s : ByteArray) (i : Nat) (w : World) (h : i + 4 ≤ s.size) (hs : s.size ≤ 9223372036854775800) :
    Calls Tryd.prog 64 #[.string s, .int .i64 i] w fun e w' => e = .returned (.int .u32 (be4 s i)) ∧ w = w' := by
  go_enter Tryd.func64, Tryd.ntmps64
  go_wp2
  refine wp_loop_rounds 5 ?_
  rw [rounds_succ]; go_wp2
  rw [rounds_succ]; go_wp2
  rw [rounds_succ]; go_wp2
  rw [rounds_succ]; go_wp2
  rw [rounds_succ]; go_wp2
  go_ret
  refine ⟨ret_u32 ?_, rfl⟩
  rw [be4_eq s i h]
  simp only [Nat.add_assoc, Nat.reduceAdd]
  have h0 := s[i].toNat_lt; have h1 := s[i + 1].toNat_lt; have h2 := s[i + 2].toNat_lt; have h3 := s[i + 3].toNat_lt
  omega

def shf (Y : Nat → Int) (i j : Nat) : Value := if i < j then u32V (Y (j - 1)) else u32V (Y j)

theorem shf_step (Y : Nat → Int) (i j : Nat) (h : 0 < i) : shf Y (i - 1) j = if j = i then u32V (Y (i - 1)) else shf Y i j := by
  unfold shf
  by_cases h1 : j = i
  · subst h1; rw [if_pos (by omega), if_pos rfl]
  · rw [if_neg h1]
    by_cases h2 : i < j
    · rw [if_pos (by omega), if_pos h2]
    · rw [if_neg (by omega), if_neg h2]

set_option maxRecDepth 100000 in
theorem stp_row (Y : St) (k x : Int) (j : Nat) (hj : j < 8) :
    u32V ((stp Y k x).at j) = if j = 0 then u32V ((one Y k x + two Y) % 4294967296) else if j = 4 then u32V ((Y.d + one Y k x) % 4294967296) else shf Y.at 0 j := by
  match j, hj with
  | 0, _ => rfl | 1, _ => rfl | 2, _ => rfl | 3, _ => rfl | 4, _ => rfl | 5, _ => rfl | 6, _ => rfl | 7, _ => rfl


set_option maxRecDepth 100000 in
set_option maxHeartbeats 4000000 in
theorem block_ref (gx gk cx ck : Nat) (X : St) (K : Nat → Int) (s : ByteArray) (w : World) (hs : s.size = 64)
    (hx : ∀ j, j < 8 → w.cell? ⟨gx, j, none⟩ = some (u32V (X.at j))) (hk : ∀ j, j < 64 → w.cell? ⟨gk, j, none⟩ = some (u32V (K j)))
    (hgx : gx < w.heap.size) (hgk : gk < w.heap.size) :
    Calls Tryd.prog 58 #[.slice (some ⟨gx, 0, none⟩) 8 cx, .string s, .slice (some ⟨gk, 0, none⟩) 64 ck] w fun e w' =>
      ∃ g, e = .returned (.slice (some ⟨g, 0, none⟩) 8 8) ∧ w'.rowIs g 94 8 (fun j => u32V ((comp K X s).at j)) ∧ Below w.heap.size w w' := by
  go_enter Tryd.func58, Tryd.ntmps58
  go_wp2_with (first
      | (at_make; refine list_makeN Tryd.u32Sl rfl _ _ rfl 64 _ _ rfl rfl rfl rfl (by omega) (by unfold maxLen; omega) rfl ?_))
  intro w1 hrow hb1
  obtain ⟨W, hW⟩ : ∃ W, W = wOf (nums s) := ⟨_, rfl⟩
  have HW := Lib.hid hW; clear hW
  go_wp2_with fail
  go_loopw [8] (fun i wr => ∃ t : Nat, t ≤ 64 ∧ i = .int .i64 t ∧ wr.rowIs w.heap.size 94 64 (fun j => if j < t then u32V (W j) else u32V 0) ∧ Below w.heap.size w wr) (fun i _ => 64 - (intOf i).toNat)
  case atStart => exact ⟨0, by omega, rfl, hrow.congr (fun j hj => by simp [u32V]), hb1⟩
  case round =>
    obtain ⟨t, ht, rfl, hrow, hb⟩ := hrel
    by_cases h16 : t < 16
    · have hst := hrow.cell (i := t) (by omega)
      have hfz := hrow.frozen t
      go_wp2_with (first | (go_at_call 64; refine (number_ref s (4 * t) _ (by omega) (by omega)).mono ?_; rintro e w' ⟨rfl, rfl⟩))
      go_roundw
      case rel =>
        refine ⟨t + 1, by omega, by go_num, row_put hrow _ _ (fun j hj => ?_), hb.setCell (by simp) _⟩
        by_cases hjt : j = t
        · subst hjt
          rw [if_pos (by omega), if_pos rfl, HW.out, wOf_old _ _ (by rw [nums_length]; exact h16)]
          simp [nums, List.getD, h16, u32V]
        · rw [if_neg hjt]
          by_cases hl : j < t
          · rw [if_pos hl, if_pos (by omega)]
          · rw [if_neg hl, if_neg (by omega)]
      case measure => simp [intOf]; omega
    · by_cases h64 : t < 64
      · have c16 := hrow.cell (i := t - 16) (by omega)
        have c15 := hrow.cell (i := t - 15) (by omega)
        have c7 := hrow.cell (i := t - 7) (by omega)
        have c2 := hrow.cell (i := t - 2) (by omega)
        have hst := hrow.cell (i := t) (by omega)
        have hfz := hrow.frozen t
        simp only [if_pos (show t - 16 < t by omega), if_pos (show t - 15 < t by omega), if_pos (show t - 7 < t by omega), if_pos (show t - 2 < t by omega), u32V, Nat.lt_irrefl, if_false] at c16 c15 c7 c2 hst
        have i0 : (0 : Int) ≤ (t : Int) := by omega
        have i1 : (t : Int) < 64 := by omega
        have x0 : IntKind.i64.wrap ((t : Int) - 16) = (t : Int) - 16 := IntWalk.i64_in _ (by omega)
        have x1 : (0 : Int) ≤ (t : Int) - 16 := by omega
        have x2 : (t : Int) - 16 < 64 := by omega
        have x3 : ((t : Int) - 16).toNat = t - 16 := by omega
        have z0 : IntKind.i64.wrap ((t : Int) - 7) = (t : Int) - 7 := IntWalk.i64_in _ (by omega)
        have y1 : (16 : Int) ≤ (t : Int) := by omega
        have y2 : (7 : Int) ≤ (t : Int) := by omega
        have z1 : (0 : Int) ≤ (t : Int) - 7 := by omega
        have z2 : (t : Int) - 7 < 64 := by omega
        have z3 : ((t : Int) - 7).toNat = t - 7 := by omega
        go_wp2_with fail
        go_region_held3 (fun w' => w'.cell? ⟨w.heap.size, t - 16, none⟩ = some (.int .u32 (W (t - 16))) ∧ w'.cell? ⟨w.heap.size, t - 7, none⟩ = some (.int .u32 (W (t - 7))))
          (first | exact ⟨c16, c7⟩ | exact ⟨cell_set_ne _ _ _ _ _ _ c16 (by omega), cell_set_ne _ _ _ _ _ _ c7 (by omega)⟩) ((go_at_call 65; refine (bits_ref _ _ _ (by omega) (by omega)).mono ?_; rintro e w' ⟨rfl, n, rfl⟩))
        go_wp2
        go_roundw
        case rel =>
          refine ⟨t + 1, by omega, by go_num, row_put (f := fun j => if j < t then u32V (W j) else u32V 0) ?_ _ _ (fun j hj => ?_), (hb.trans ((Same.of wr _).below _)).setCell (Nat.le_refl _) _⟩
          · exact rowIs_same hrow (Same.of _ _)
          · by_cases hjt : j = t
            · subst hjt
              rw [if_pos (by omega), if_pos rfl, HW.out]
              refine (fold_w s j h16 h64 _ ?_).symm
              unfold wNext sg0 sg1 xr
              omega
            · rw [if_neg hjt]
              by_cases hl : j < t
              · rw [if_pos hl, if_pos (by omega)]
              · rw [if_neg hl, if_neg (by omega)]
        case measure => simp [intOf]; omega
      · obtain rfl : t = 64 := by omega
        have hrw : wr.rowIs w.heap.size 94 64 (fun j => u32V (W j)) := hrow.congr (fun j hj => by simp [hj])
        obtain ⟨wB, hwB⟩ : ∃ wB : World, wB = wr := ⟨_, rfl⟩
        subst hwB
        have hgw := hrw.lt
        have hbw := hb.size
        have hgk2 : gk < wB.heap.size := by omega
        have hgx2 : gx < wB.heap.size := by omega
        clear hrow h16 h64
        go_wp2_with (first
          | (at_make; refine list_makeN Tryd.u32Sl rfl _ _ rfl 8 _ _ rfl rfl rfl rfl (by omega) (by unfold maxLen; omega) rfl ?_))
        intro w3 hy hb3
        have hx3 : ∀ j, j < 8 → w3.cell? ⟨gx, j, none⟩ = some (u32V (X.at j)) := fun j hj => by
          rw [hb3.cell hgx2, hb.cell hgx]; exact hx j hj
        go_wp2_with (first
          | (refine list_copy_row Tryd.u32Sl rfl _ _ rfl wB.heap.size 8 rfl _ hy gx cx rfl (fun j => u32V (X.at j)) hx3 (fun _ => rfl) ?_))
        intro w4 hy4 hb4
        have hb5 : Below wB.heap.size wB w4 := hb3.trans hb4
        clear hx3 hb3 hb4 hy
        go_wp2_with fail
        go_loopw [12] (fun i wr4 => ∃ t : Nat, t ≤ 64 ∧ i = .int .i64 t ∧ wr4.rowIs wB.heap.size 94 8 (fun j => u32V ((rnds K W X t).at j)) ∧ Below wB.heap.size wB wr4) (fun i _ => 64 - (intOf i).toNat)
        case atStart => exact ⟨0, by omega, rfl, hy4, hb5⟩
        case round =>
          obtain ⟨t, ht, rfl, hy5, hb6⟩ := hrel
          by_cases h64 : t < 64
          · obtain ⟨Y, hY⟩ : ∃ Y, Y = rnds K W X t := ⟨_, rfl⟩
            rw [← hY] at hy5
            have HY := Lib.hid hY; clear hY
            have e0 := hy5.cell (i := 0) (by omega)
            have e1 := hy5.cell (i := 1) (by omega)
            have e2 := hy5.cell (i := 2) (by omega)
            have e4 := hy5.cell (i := 4) (by omega)
            have e5 := hy5.cell (i := 5) (by omega)
            have e6 := hy5.cell (i := 6) (by omega)
            have e7 := hy5.cell (i := 7) (by omega)
            have ek := (hb6.cell (p := ⟨gk, t, none⟩) hgk2).trans ((hb.cell (p := ⟨gk, t, none⟩) hgk).trans (hk t h64))
            have ew := (rowIs_below hrw hb6 hgw).cell h64
            simp only [u32V, St.at] at e0 e1 e2 e4 e5 e6 e7 ek ew
            have i0 : (0 : Int) ≤ (t : Int) := by omega
            have i1 : (t : Int) < 64 := by omega
            go_wp2_with fail
            go_quiet ((go_at_call 65; exact quietS (bits_ref _ _ _ (by omega) (by omega))))
            obtain ⟨n1, hn1⟩ : ∃ n1, n1 = nq := ⟨_, rfl⟩
            subst hn1
            go_wp2_with fail
            go_quiet ((go_at_call 65; exact quietS2 (bits_ref _ _ _ (by omega) (by omega))))
            clear e0 e1 e2 e4 e5 e6 e7 ek ew
            obtain ⟨A, hA⟩ : ∃ A, A = one Y (K t) (W t) := ⟨_, rfl⟩
            have HA := Lib.hid hA
            simp only [one, bg1, ch, xr, an, nt] at hA
            rw [← hA]
            clear hA
            obtain ⟨C, hC⟩ : ∃ C, C = two Y := ⟨_, rfl⟩
            have HC := Lib.hid hC
            simp only [two, bg0, maj, xr, an] at hC
            rw [← hC]
            clear hC
            generalize hwC : (wr.drewN n1).drewN nq = wC
            have hsm : Same wr wC := by rw [← hwC]; exact (Same.of _ _).trans (Same.of _ _)
            clear hwC
            have hb7 : Below wB.heap.size wB wC := hb6.trans (hsm.below _)
            have hy7 : wC.rowIs wB.heap.size 94 8 (shf Y.at 7) := (rowIs_same hy5 hsm).congr (fun j hj => by unfold shf; rw [if_neg (by omega)])
            clear hy5 hb6 hsm
            go_wp2_with fail
            go_loopw [17] (fun i wx => ∃ i1 : Nat, i1 ≤ 7 ∧ i = .int .i64 i1 ∧ wx.rowIs wB.heap.size 94 8 (shf Y.at i1) ∧ Below wB.heap.size wB wx) (fun i _ => (intOf i).toNat)
            case atStart => exact ⟨7, by omega, rfl, hy7, hb7⟩
            case round =>
              obtain ⟨j, hj, rfl, hy8, hb8⟩ := hrel
              by_cases h0 : 0 < j
              · have c1 := hy8.cell (i := j - 1) (by omega)
                have c2 := hy8.cell (i := j) (by omega)
                have c3 := hy8.frozen j
                have c4 : shf Y.at j (j - 1) = .int .u32 (Y.at (j - 1)) := by unfold shf; rw [if_neg (by omega)]; rfl
                have c5 : shf Y.at j j = .int .u32 (Y.at j) := by unfold shf; rw [if_neg (by omega)]; rfl
                rw [c4] at c1
                rw [c5] at c2
                clear c4 c5
                go_wp2
                go_roundw
                case rel => exact ⟨j - 1, by omega, by go_num, row_put hy8 _ _ (fun j' _ => shf_step _ _ _ h0), hb8.setCell (Nat.le_refl _) _⟩
                case measure => simp [intOf]; omega
              · obtain rfl : j = 0 := by omega
                have c4 := hy8.cell (i := 4) (by omega)
                have c0 := hy8.cell (i := 0) (by omega)
                have f4 := hy8.frozen 4
                have f0 := hy8.frozen 0
                have e4 : shf Y.at 0 4 = .int .u32 Y.d := rfl
                have e0 : shf Y.at 0 0 = .int .u32 Y.a := rfl
                rw [e4] at c4
                rw [e0] at c0
                clear e4 e0
                go_wp2
                go_roundw
                case rel =>
                  refine ⟨t + 1, by omega, by go_num, ?_, (hb8.setCell (Nat.le_refl _) _).setCell (Nat.le_refl _) _⟩
                  refine row_put (row_put hy8 4 _ (f' := fun j => if j = 4 then u32V ((Y.d + A) % 4294967296) else shf Y.at 0 j) (fun j' _ => rfl)) 0 _ (fun j' hj' => ?_)
                  simp only [rnds]
                  rw [← HY.out, stp_row _ _ _ _ hj', ← HA.out, ← HC.out]
                  rfl
                case measure => simp [intOf]; omega
          · have hte : t = 64 := by omega
            have HT := Lib.hid hte
            have hge : (64 : Int) ≤ (t : Int) := by omega
            clear hte h64
            go_wp2_with fail
            go_loopw [18] (fun i wx => ∃ i1 : Nat, i1 ≤ 8 ∧ i = .int .i64 i1 ∧ wx.rowIs wB.heap.size 94 8 (fun j => if j < i1 then u32V (((rnds K W X t).at j + X.at j) % 4294967296) else u32V ((rnds K W X t).at j)) ∧ Below wB.heap.size wB wx) (fun i _ => 8 - (intOf i).toNat)
            case atStart => exact ⟨0, by omega, rfl, hy5.congr (fun j _ => by simp), hb6⟩
            case round =>
              obtain ⟨j, hj, rfl, hy8, hb8⟩ := hrel
              by_cases h8 : j < 8
              · have c1 := hy8.cell (i := j) h8
                have c3 := hy8.frozen j
                have c2 := (hb8.cell (p := ⟨gx, j, none⟩) hgx2).trans ((hb.cell (p := ⟨gx, j, none⟩) hgx).trans (hx j h8))
                simp only [Nat.lt_irrefl, if_false, u32V] at c1 c2
                have i0 : (0 : Int) ≤ (j : Int) := by omega
                have i1 : (j : Int) < 8 := by omega
                go_wp2_with fail
                go_still_tail 12, (by kernel_rfl)
                go_wp2
                go_roundw
                case rel =>
                  refine ⟨j + 1, by omega, by go_num, row_put (f := fun j' => if j' < j then u32V (((rnds K W X t).at j' + X.at j') % 4294967296) else u32V ((rnds K W X t).at j')) hy8 _ _ (fun j' _ => ?_), (hb8.setCell (Nat.le_refl _) _).drew⟩
                  by_cases hjj : j' = j
                  · subst hjj; rw [if_pos (by omega), if_pos rfl]; rfl
                  · rw [if_neg hjj]
                    by_cases hl : j' < j
                    · rw [if_pos hl, if_pos (by omega)]
                    · rw [if_neg hl, if_neg (by omega)]
                case measure => simp [intOf]; omega
              · obtain rfl : j = 8 := by omega
                go_wp2
                go_ret
                refine ⟨_, rfl, hy8.congr (fun j hj => ?_), hb.trans (hb8.mono (Nat.le_of_lt hgw))⟩
                simp only [hj, if_true, comp]
                rw [St.add_at _ _ _ hj, HW.out, HT.out]
end Go.Proofs.YtohcackebmmikaaDoor
