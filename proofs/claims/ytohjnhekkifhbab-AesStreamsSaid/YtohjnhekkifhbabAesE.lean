/- The program's function of aes on a block under a schedule. -/
import Derived.Test.YtohjnhekkifhbabAesD
namespace Go.Proofs.Ytohjnhekkifhbab
open Go.RowKit

theorem add_at (gs gb ts tb r : Nat) (ri : Int) (KW B : Nat → UInt8) (w : World) (hri : ri = (r : Int)) (hne : gs ≠ gb) (hr : r ≤ 10)
    (hS : w.rowIs gs ts 432 (schV KW 176)) (hB : w.rowIs gb tb 16 (fun j => byteV (B j))) :
    Calls Try.prog 29 #[.pointer (some ⟨gs, 0, none⟩), .pointer (some ⟨gb, 0, none⟩), .int .i64 ri] w fun e w' =>
      e = .returned (.tuple #[]) ∧ w'.rowIs gb tb 16 (fun j => byteV (ad KW r B j)) ∧ Only gb w w' := by
  subst hri; exact add_prog gs gb ts tb r KW B w hne hr hS hB
def blkV (B : Nat → UInt8) : Value := .agg (arrL 16 (fun j => byteV (B j))).toArray
theorem rnds_succ (KW B : Nat → UInt8) (r : Nat) : (fun j => byteV (ad KW (r + 1) (mx (sh (rnds KW B r))) j)) = fun j => byteV (rnds KW B (r + 1) j) := rfl

set_option maxRecDepth 100000 in
set_option maxHeartbeats 4000000 in
theorem under_prog (gs ts : Nat) (KW B : Nat → UInt8) (w : World) (hS : w.rowIs gs ts 432 (schV KW 176)) :
    Calls Try.prog 21 #[.pointer (some ⟨gs, 0, none⟩), .agg (arrL 16 (fun j => byteV (B j))).toArray] w fun e w' =>
      e = .returned (.agg (arrL 16 (fun j => byteV (enc KW B j))).toArray) ∧ Below w.heap.size w w' := by
  have hgs := hS.lt
  have hz := zero_blk
  go_enter Try.func21, Try.ntmps21
  go_wp2_with fail
  clear hz
  generalize hW : World.alloc _ _ = w1
  have hb1 : Below w.heap.size w w1 := by rw [← hW]; exact ((Below.refl _ _).alloc (Nat.le_refl _) _).alloc (by simp) _
  have r0 : w1.rowIs w.heap.size 35 16 (fun j => byteV (B j)) := by
    rw [← hW]; exact (rowIs_of_block (heap_at_alloc w _)).alloc _
  have r1 : w1.rowIs (w.heap.size + 1) 35 16 (fun _ => byteV 0) := by
    rw [← hW]; refine rowIs_of_block ?_; rw [heap_alloc2_new]
  have hS1 := rowIs_below hS hb1 hgs
  have z1 : w.heap.size + 2 ≤ w1.heap.size := by rw [← hW]; simp
  clear hW
  refine (add_at gs w.heap.size ts 35 0 _ KW B w1 rfl (by omega) (by omega) hS1 r0).mono ?_
  rintro e w2 ⟨rfl, r0', o2⟩
  have r1' := o2.row r1 (by omega)
  have hb2 := hb1.trans (o2.below (Nat.le_refl _) (by omega))
  have z2 := o2.size
  clear r0 r1 hS1 o2
  go_wp2_with fail
  go_loopw [5] (fun i wr => ∃ r : Nat, r ≤ 9 ∧ i = .int .i64 ((r : Int) + 1) ∧ wr.rowIs w.heap.size 35 16 (fun j => byteV (rnds KW B r j)) ∧ wr.rowIs (w.heap.size + 1) 35 16 (fun _ => byteV 0) ∧ Below w.heap.size w wr ∧ w.heap.size + 2 ≤ wr.heap.size) (fun i _ => 10 - (intOf i).toNat)
  case atStart => exact ⟨0, by omega, rfl, r0', r1', hb2, by omega⟩
  case round =>
    clear r0' r1' hb2
    obtain ⟨r, hr, rfl, r0, r1, hb, hz⟩ := hrel
    have hSr := rowIs_below hS hb hgs
    by_cases hlt : r < 9
    · go_wp2_with (first
        | (refine list_load_arr Try.underlying35 (by kernel_rfl) rfl _ rfl w.heap.size 35 _ rfl r0 ?_))
      refine (turned_prog gs ts KW (rnds KW B r) wr hSr).mono ?_
      rintro e w3 ⟨rfl, hb3⟩
      have r03 := rowIs_later r0 hb3
      have r13 := rowIs_later r1 hb3
      have hq3 := hb.trans (hb3.mono hb.size)
      have hz3 := hb3.size
      go_wp2_with (first
        | (refine list_store_arr (ty := 35) (n := 16) (by kernel_rfl) rfl _ _ rfl w.heap.size 35 _ _ rfl rfl r03 (fun _ => rfl) ?_))
      intro w4 r04 o4
      have r14 := o4.row r13 (by omega)
      have hq4 := hq3.trans (o4.below (Nat.le_refl _) hq3.size)
      have hz4 := o4.size
      clear r0 r1 hb hSr hb3 r03 r13 hq3 o4
      go_wp2_with fail
      refine (mix_prog w.heap.size 35 (sh (rnds KW B r)) w4 r04).mono ?_
      rintro e w5 ⟨rfl, r05, o5⟩
      have r15 := o5.row r14 (by omega)
      have hq5 := hq4.trans (o5.below (Nat.le_refl _) hq4.size)
      have hz5 := o5.size
      clear r04 r14 hq4 o5
      go_wp2_with fail
      refine (add_at gs w.heap.size ts 35 (r + 1) _ KW (mx (sh (rnds KW B r))) w5 (by omega) (by omega) (by omega) (rowIs_below hS hq5 hgs) r05).mono ?_
      rintro e w6 ⟨rfl, r06, o6⟩
      have r16 := o6.row r15 (by omega)
      have hq6 := hq5.trans (o6.below (Nat.le_refl _) hq5.size)
      have hz6 := o6.size
      clear r05 r15 hq5 o6
      go_wp2_with fail
      go_roundw
      case rel => exact ⟨r + 1, by omega, by go_num, r06, r16, hq6, by omega⟩
      case measure => simp [intOf]; omega
    · obtain rfl : r = 9 := by omega
      clear hlt
      go_wp2_with (first
        | (refine list_load_arr Try.underlying35 (by kernel_rfl) rfl _ rfl w.heap.size 35 _ rfl r0 ?_))
      refine (turned_prog gs ts KW (rnds KW B 9) wr hSr).mono ?_
      rintro e w3 ⟨rfl, hb3⟩
      have r03 := rowIs_later r0 hb3
      have r13 := rowIs_later r1 hb3
      have hq3 := hb.trans (hb3.mono hb.size)
      have hz3 := hb3.size
      go_wp2_with (first
        | (refine list_store_arr (ty := 35) (n := 16) (by kernel_rfl) rfl _ _ rfl w.heap.size 35 _ _ rfl rfl r03 (fun _ => rfl) ?_))
      intro w4 r04 o4
      have r14 := o4.row r13 (by omega)
      have hq4 := hq3.trans (o4.below (Nat.le_refl _) hq3.size)
      have hz4 := o4.size
      clear r0 r1 hb hSr hb3 r03 r13 hq3 o4
      go_wp2_with fail
      refine (add_at gs w.heap.size ts 35 10 _ KW (sh (rnds KW B 9)) w4 rfl (by omega) (by omega) (rowIs_below hS hq4 hgs) r04).mono ?_
      rintro e w6 ⟨rfl, r06, o6⟩
      have r16 := o6.row r14 (by omega)
      have hq6 := hq4.trans (o6.below (Nat.le_refl _) hq4.size)
      have hz6 := o6.size
      clear r04 r14 hq4 o6
      go_wp2_with (first
        | (refine list_load_arr Try.underlying35 (by kernel_rfl) rfl _ rfl w.heap.size 35 _ rfl r06 ?_)
        | (refine list_store_arr (ty := 35) (n := 16) (by kernel_rfl) rfl _ _ rfl (w.heap.size + 1) 35 _ _ rfl rfl r16 (fun _ => rfl) ?_))
      intro w7 r17 o7
      go_wp2
      refine ret_arr rfl Try.underlying35 (by kernel_rfl) rfl r17 rfl ⟨rfl, ?_⟩
      exact hq6.trans (o7.below (by omega) hq6.size)
end Go.Proofs.Ytohjnhekkifhbab
