/- The program's functions of aes: the columns mixed; a block under a schedule. -/
import Derived.Test.YtohjnhekkifhbabAesC
import Derived.StillTactics
import Derived.StillTailTactics
namespace Go.Proofs.Ytohjnhekkifhbab
open Go.RowKit

theorem double_at (b z : UInt8) (w : World) (h : dbl b = z) :
    Calls Try.prog 28 #[.int .u8 (b.toNat : Int)] w fun e w' => e = .returned (.int .u8 (z.toNat : Int)) ∧ w' = w := by subst h; exact double_prog b w
theorem mx_q (B : Nat → UInt8) (n q : Nat) (hn : n % 4 = 0) (hq : q < 4) :
    mx B (n + q) = B (n + q) ^^^ (B n ^^^ B (n + 1) ^^^ B (n + 2) ^^^ B (n + 3)) ^^^ dbl (B (n + q) ^^^ B (n + (q + 1) % 4)) := by
  have e : (n + q) / 4 * 4 = n := by omega
  have e1 : (n + q + 1) % 4 = (q + 1) % 4 := by omega
  unfold mx
  rw [e, e1]
def mixed (B : Nat → UInt8) (n j : Nat) : Value := if j < n then byteV (mx B j) else byteV (B j)
theorem mixed_step (B : Nat → UInt8) (n : Nat) (z : UInt8) (h : mx B n = z) (j : Nat) : mixed B (n + 1) j = if j = n then .int .u8 (z.toNat : Int) else mixed B n j := by
  subst h
  unfold mixed
  by_cases h : j = n
  · subst h; rw [if_pos (by omega), if_pos rfl]; rfl
  · rw [if_neg h]
    by_cases h2 : j < n
    · rw [if_pos (by omega), if_pos h2]
    · rw [if_neg (by omega), if_neg h2]

set_option maxRecDepth 100000 in
set_option maxHeartbeats 4000000 in
theorem mix_prog (g t : Nat) (B : Nat → UInt8) (w : World) (hB : w.rowIs g t 16 (fun j => byteV (B j))) :
    Calls Try.prog 31 #[.pointer (some ⟨g, 0, none⟩)] w fun e w' =>
      e = .returned (.tuple #[]) ∧ w'.rowIs g t 16 (fun j => byteV (mx B j)) ∧ Only g w w' := by
  go_enter Try.func31, Try.ntmps31
  go_wp2_with fail
  go_loopw [2] (fun i wr => ∃ n : Nat, n ≤ 16 ∧ n % 4 = 0 ∧ i = .int .i64 n ∧ wr.rowIs g t 16 (mixed B n) ∧ Only g w wr) (fun i _ => 16 - (intOf i).toNat)
  case atStart => exact ⟨0, by omega, rfl, rfl, hB.congr (fun j _ => by simp [mixed]), Only.refl _ _⟩
  case round =>
    obtain ⟨n, hn, hn4, rfl, hr0, hO0⟩ := hrel
    by_cases hlt : n < 16
    · have c0 : wr.cell? ⟨g, n, none⟩ = some (.int .u8 ((B n).toNat : Int)) := by rw [hr0.cell hlt]; simp [mixed, byteV]
      have c1 : wr.cell? ⟨g, n + 1, none⟩ = some (.int .u8 ((B (n + 1)).toNat : Int)) := by rw [hr0.cell (by omega), mixed, if_neg (by omega)]; rfl
      have c2 : wr.cell? ⟨g, n + 2, none⟩ = some (.int .u8 ((B (n + 2)).toNat : Int)) := by rw [hr0.cell (by omega), mixed, if_neg (by omega)]; rfl
      have c3 : wr.cell? ⟨g, n + 3, none⟩ = some (.int .u8 ((B (n + 3)).toNat : Int)) := by rw [hr0.cell (by omega), mixed, if_neg (by omega)]; rfl
      have m0 := mx_q B n 0 hn4 (by omega)
      have m1 := mx_q B n 1 hn4 (by omega)
      have m2 := mx_q B n 2 hn4 (by omega)
      have m3 := mx_q B n 3 hn4 (by omega)
      simp only [Nat.add_zero, Nat.zero_add, Nat.reduceAdd, Nat.reduceMod] at m0 m1 m2 m3
      generalize hva : B n = a at c0 m0 m1 m2 m3
      generalize hvb : B (n + 1) = b at c1 m0 m1 m2 m3
      generalize hvc : B (n + 2) = c at c2 m0 m1 m2 m3
      generalize hvd : B (n + 3) = d at c3 m0 m1 m2 m3
      clear hva hvb hvc hvd
      obtain ⟨ab, hab, eab⟩ := xname a b
      obtain ⟨abc, habc, eabc⟩ := xname ab c
      obtain ⟨al, hal, eal⟩ := xname abc d
      obtain ⟨bc, hbc, ebc⟩ := xname b c
      obtain ⟨cd, hcd, ecd⟩ := xname c d
      obtain ⟨da, hda, eda⟩ := xname d a
      obtain ⟨y0, hy0, ey0⟩ := xname a al
      obtain ⟨y1, hy1, ey1⟩ := xname b al
      obtain ⟨y2, hy2, ey2⟩ := xname c al
      obtain ⟨y3, hy3, ey3⟩ := xname d al
      obtain ⟨d0, hd0⟩ := dname ab
      obtain ⟨d1, hd1⟩ := dname bc
      obtain ⟨d2, hd2⟩ := dname cd
      obtain ⟨d3, hd3⟩ := dname da
      obtain ⟨z0, hz0, ez0⟩ := xname y0 d0
      obtain ⟨z1, hz1, ez1⟩ := xname y1 d1
      obtain ⟨z2, hz2, ez2⟩ := xname y2 d2
      obtain ⟨z3, hz3, ez3⟩ := xname y3 d3
      have M0 : Hid (mx B n = z0) := Lib.hid (by rw [m0, hab, habc, hal, hy0, hd0, hz0])
      have M1 : Hid (mx B (n + 1) = z1) := Lib.hid (by rw [m1, hab, habc, hal, hbc, hy1, hd1, hz1])
      have M2 : Hid (mx B (n + 1 + 1) = z2) := Lib.hid (by rw [m2, hab, habc, hal, hcd, hy2, hd2, hz2])
      have M3 : Hid (mx B (n + 1 + 1 + 1) = z3) := Lib.hid (by rw [m3, hab, habc, hal, hda, hy3, hd3, hz3])
      have D0 := Lib.hid hd0
      have D1 := Lib.hid hd1
      have D2 := Lib.hid hd2
      have D3 := Lib.hid hd3
      clear m0 m1 m2 m3 hab habc hal hbc hcd hda hy0 hy1 hy2 hy3 hd0 hd1 hd2 hd3 hz0 hz1 hz2 hz3
      have i0 : (0 : Int) ≤ (n : Int) := by omega
      have i1 : (n : Int) < 16 := by omega
      have j0 : (0 : Int) ≤ (n : Int) + 1 := by omega
      have j1 : (n : Int) + 1 < 16 := by omega
      have k0 : (0 : Int) ≤ (n : Int) + 2 := by omega
      have k1 : (n : Int) + 2 < 16 := by omega
      have l0 : (0 : Int) ≤ (n : Int) + 3 := by omega
      have l1 : (n : Int) + 3 < 16 := by omega
      have q1 : IntKind.i64.wrap ((n : Int) + 1) = (n : Int) + 1 := IntWalk.i64_in _ (by omega)
      have q2 : IntKind.i64.wrap ((n : Int) + 2) = (n : Int) + 2 := IntWalk.i64_in _ (by omega)
      have q3 : IntKind.i64.wrap ((n : Int) + 3) = (n : Int) + 3 := IntWalk.i64_in _ (by omega)
      have n1 : ((n : Int) + 1).toNat = n + 1 := by omega
      have n2 : ((n : Int) + 2).toNat = n + 2 := by omega
      have n3 : ((n : Int) + 3).toNat = n + 3 := by omega
      go_wp2_with fail
      go_quiet (fail)
      go_wp2_with fail
      obtain ⟨wa0, hwa0⟩ : ∃ x, x = wr.drewN nq := ⟨_, rfl⟩
      rw [← hwa0]
      have s0 : wa0.rowIs g t 16 (mixed B n) := by rw [hwa0]; exact rowIs_same hr0 (Same.of _ _)
      have O0 : Only g w wa0 := by rw [hwa0]; exact hO0.trans (Only.ofSame (Same.of _ _))
      clear c0 c1 c2 c3 hr0 hO0 hwa0
      have c0 := s0.cell (i := n) (by omega)
      have f0 := s0.frozen (n)
      rw [mixed, if_neg (by omega)] at c0
      simp only [byteV] at c0
      refine wp_region_still_tail 12 (by kernel_rfl) (by kernel_rfl) ?_
      simp only [List.take_succ_cons, List.take_zero, List.drop_succ_cons, List.drop_zero]
      repeat still_step
      still_call (double_at ab d0 _ D0.out)
      repeat still_step
      try refine wpStill_nil ?_
      go_wp2_with fail
      obtain ⟨wa1, hwa1⟩ : ∃ x, x = (wa0.setCell ⟨g, n, none⟩ (.int .u8 (z0.toNat : Int))).drew := ⟨_, rfl⟩
      rw [← hwa1]
      have s1 : wa1.rowIs g t 16 (mixed B (n + 1)) := by rw [hwa1]; exact World.rowIs.drew (row_put s0 _ _ (fun j _ => mixed_step B (n) z0 M0.out j))
      have O1 : Only g w wa1 := by rw [hwa1]; exact (O0.setCell _ _).drew
      clear c0 f0 s0 O0 hwa1
      have c1 := s1.cell (i := n + 1) (by omega)
      have f1 := s1.frozen (n + 1)
      rw [mixed, if_neg (by omega)] at c1
      simp only [byteV] at c1
      go_wp2_with fail
      refine wp_region_still_tail 13 (by kernel_rfl) (by kernel_rfl) ?_
      simp only [List.take_succ_cons, List.take_zero, List.drop_succ_cons, List.drop_zero]
      repeat still_step
      still_call (double_at bc d1 _ D1.out)
      repeat still_step
      try refine wpStill_nil ?_
      go_wp2_with fail
      obtain ⟨wa2, hwa2⟩ : ∃ x, x = (wa1.setCell ⟨g, n + 1, none⟩ (.int .u8 (z1.toNat : Int))).drew := ⟨_, rfl⟩
      rw [← hwa2]
      have s2 : wa2.rowIs g t 16 (mixed B (n + 1 + 1)) := by rw [hwa2]; exact World.rowIs.drew (row_put s1 _ _ (fun j _ => mixed_step B (n + 1) z1 M1.out j))
      have O2 : Only g w wa2 := by rw [hwa2]; exact (O1.setCell _ _).drew
      clear c1 f1 s1 O1 hwa2
      have c2 := s2.cell (i := n + 2) (by omega)
      have f2 := s2.frozen (n + 2)
      rw [mixed, if_neg (by omega)] at c2
      simp only [byteV] at c2
      go_wp2_with fail
      refine wp_region_still_tail 13 (by kernel_rfl) (by kernel_rfl) ?_
      simp only [List.take_succ_cons, List.take_zero, List.drop_succ_cons, List.drop_zero]
      repeat still_step
      still_call (double_at cd d2 _ D2.out)
      repeat still_step
      try refine wpStill_nil ?_
      go_wp2_with fail
      obtain ⟨wa3, hwa3⟩ : ∃ x, x = (wa2.setCell ⟨g, n + 2, none⟩ (.int .u8 (z2.toNat : Int))).drew := ⟨_, rfl⟩
      rw [← hwa3]
      have s3 : wa3.rowIs g t 16 (mixed B (n + 1 + 1 + 1)) := by rw [hwa3]; exact World.rowIs.drew (row_put s2 _ _ (fun j _ => mixed_step B (n + 1 + 1) z2 M2.out j))
      have O3 : Only g w wa3 := by rw [hwa3]; exact (O2.setCell _ _).drew
      clear c2 f2 s2 O2 hwa3
      have c3 := s3.cell (i := n + 3) (by omega)
      have f3 := s3.frozen (n + 3)
      rw [mixed, if_neg (by omega)] at c3
      simp only [byteV] at c3
      go_wp2_with fail
      refine wp_region_still_tail 13 (by kernel_rfl) (by kernel_rfl) ?_
      simp only [List.take_succ_cons, List.take_zero, List.drop_succ_cons, List.drop_zero]
      repeat still_step
      still_call (double_at da d3 _ D3.out)
      repeat still_step
      try refine wpStill_nil ?_
      go_wp2_with fail
      obtain ⟨wa4, hwa4⟩ : ∃ x, x = (wa3.setCell ⟨g, n + 3, none⟩ (.int .u8 (z3.toNat : Int))).drew := ⟨_, rfl⟩
      rw [← hwa4]
      have s4 : wa4.rowIs g t 16 (mixed B (n + 1 + 1 + 1 + 1)) := by rw [hwa4]; exact World.rowIs.drew (row_put s3 _ _ (fun j _ => mixed_step B (n + 1 + 1 + 1) z3 M3.out j))
      have O4 : Only g w wa4 := by rw [hwa4]; exact (O3.setCell _ _).drew
      clear c3 f3 s3 O3 hwa4
      go_wp2_with fail
      go_roundw
      case rel => exact ⟨n + 1 + 1 + 1 + 1, by omega, by omega, by go_num, s4, O4⟩
      case measure => simp [intOf]; omega
    · have hge : (16 : Int) ≤ (n : Int) := by omega
      have hr2 : wr.rowIs g t 16 (fun j => byteV (mx B j)) := hr0.congr (fun j hj => by rw [mixed, if_pos (by omega)])
      clear hr0
      go_wp2
      go_end0
      exact ⟨rfl, hr2, hO0⟩
end Go.Proofs.Ytohjnhekkifhbab
