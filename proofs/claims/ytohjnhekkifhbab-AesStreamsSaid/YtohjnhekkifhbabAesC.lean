/- The program's functions of aes: a number one more; the box and the rows. -/
import Derived.Test.YtohjnhekkifhbabAesB
namespace Go.Proofs.Ytohjnhekkifhbab
open Go.RowKit

theorem byte_one (b : UInt8) : ((b.toNat : Int) + 1) % 256 = ((b + 1).toNat : Int) := by
  rw [UInt8.toNat_add]; simp
theorem byte_one0 : ∀ x, x < 256 → (UInt8.ofNat x + 1 = 0 ↔ UInt8.ofNat x = 255) := by decide +kernel
theorem byte_255 (b : UInt8) : b + 1 = 0 ↔ b = 255 := by
  have := byte_one0 b.toNat b.toNat_lt
  rwa [UInt8.ofNat_toNat] at this

/-- The bytes from k on went round. -/
def went (B : Nat → UInt8) (k : Nat) : Prop := ∀ i, i < 16 → k ≤ i → B i = 255
theorem nxt_at {B : Nat → UInt8} {k j : Nat} (hk : k < 16) (h : went B (k + 1)) (h2 : ¬ B k + 1 = 0) (hj : j < 16) : nxt B j = if j = k then B k + 1 else if j < k then B j else 0 := by
  have h3 : ¬ B k = 255 := fun e => h2 ((byte_255 _).2 e)
  by_cases hjk : j = k
  · subst hjk
    rw [if_pos rfl]; unfold nxt; rw [if_pos]; intro i h1 h2; exact h i h1 (by omega)
  · rw [if_neg hjk]
    by_cases hlt : j < k
    · rw [if_pos hlt]
      unfold nxt
      rw [if_neg]; intro h4; exact h3 (h4 k hk hlt)
    · rw [if_neg hlt]
      unfold nxt
      rw [if_pos (fun i h1 h2 => h i h1 (by omega)), h j hj (by omega)]; rfl
theorem nxt_round {B : Nat → UInt8} {j : Nat} (h : went B 0) (hj : j < 16) : nxt B j = 0 := by
  unfold nxt
  rw [if_pos (fun i h1 _ => h i h1 (by omega)), h j hj (by omega)]; rfl
set_option maxRecDepth 100000 in
set_option maxHeartbeats 2000000 in
theorem raise_prog (g t : Nat) (B : Nat → UInt8) (w : World) (hB : w.rowIs g t 16 (fun j => byteV (B j))) :
    Calls Try.prog 25 #[.pointer (some ⟨g, 0, none⟩)] w fun e w' =>
      e = .returned (.tuple #[]) ∧ w'.rowIs g t 16 (fun j => byteV (nxt B j)) ∧ Only g w w' := by
  go_enter Try.func25, Try.ntmps25
  go_wp2_with fail
  go_loopw [2] (fun i wr => ∃ (v : Int) (k : Nat), i = .int .i64 v ∧ v + 1 ≤ (k : Int) ∧ (k : Int) ≤ v + 1 ∧ k ≤ 16 ∧ Hid (went B k) ∧ wr.rowIs g t 16 (fun j => if j < k then byteV (B j) else byteV 0) ∧ Only g w wr) (fun i _ => (intOf i + 1).toNat)
  case atStart => exact ⟨15, 16, rfl, by omega, by omega, by omega, Lib.hid (fun i h1 h2 => by omega), hB.congr (fun j hj => by rw [if_pos hj]), Only.refl _ _⟩
  case round =>
    obtain ⟨v, k, rfl, hk1, hk2, hk3, hw, hrow, hO⟩ := hrel
    by_cases hlt : 0 < k
    · obtain ⟨m, rfl⟩ := Int.eq_ofNat_of_zero_le (show 0 ≤ v by omega)
      obtain rfl : k = m + 1 := by omega
      have c := hrow.cell (i := m) (by omega)
      have f := hrow.frozen m
      simp only [Nat.lt_succ_self, if_true, byteV] at c
      have i0 : (0 : Int) ≤ (m : Int) := by omega
      have i1 : (m : Int) < 16 := by omega
      obtain ⟨y, hy⟩ : ∃ y, B m + 1 = y := ⟨_, rfl⟩
      have e1 := byte_one (B m)
      rw [hy] at e1
      have e2 : IntKind.u8.wrap (((B m).toNat : Int) + 1) = (y.toNat : Int) := by rw [IntKind.wrap_u8]; exact e1
      have HY := Lib.hid hy
      clear hy
      by_cases h0 : y = 0
      · have H0 := Lib.hid h0
        have hz : ((y.toNat : Int) != 0) = false := by rw [h0]; rfl
        clear h0
        go_wp2_with fail
        go_still_tail 8, (by kernel_rfl)
        go_wp2
        go_roundw
        case rel =>
          refine ⟨(m : Int) - 1, m, rfl, by omega, by omega, by omega, Lib.hid (fun i h1 h2 => ?_), World.rowIs.drew (row_put hrow _ _ (fun j _ => ?_)), (hO.setCell _ _).drew⟩
          · by_cases him : i = m
            · subst him; exact (byte_255 _).1 (HY.out.trans H0.out)
            · exact hw.out i h1 (by omega)
          · by_cases hjk : j = m
            · subst hjk; rw [if_neg (by omega), if_pos rfl, H0.out]; rfl
            · rw [if_neg hjk]
              by_cases hl : j < m
              · rw [if_pos hl, if_pos (by omega)]
              · rw [if_neg hl, if_neg (by omega)]
        case measure => simp [intOf]
      · have hz : ((y.toNat : Int) != 0) = true := by
          have : y.toNat ≠ 0 := fun e => h0 (UInt8.toNat_inj.1 e)
          have : (y.toNat : Int) ≠ 0 := by omega
          simpa using this
        have H0 := Lib.hid h0
        clear h0
        go_wp2_with fail
        go_still_tail 8, (by kernel_rfl)
        go_wp2
        (try simp only [Exit.inBlock, Exit.then]); refine bodyPost_ret (results_none rfl _ _ _) rfl ?_
        refine ⟨rfl, World.rowIs.congr (World.rowIs.drew (row_put hrow _ _ (fun j _ => rfl))) (fun j hj => ?_), (hO.setCell _ _).drew⟩
        rw [nxt_at (by omega) hw.out (by rw [HY.out]; exact H0.out) hj, HY.out]
        by_cases hjk : j = m
        · rw [if_pos hjk, if_pos hjk]; rfl
        · rw [if_neg hjk, if_neg hjk]
          by_cases hl : j < m
          · rw [if_pos hl, if_pos (by omega)]
          · rw [if_neg hl, if_neg (by omega)]
    · obtain rfl : k = 0 := by omega
      have hv : v < 0 := by omega
      have hr2 : wr.rowIs g t 16 (fun j => byteV (nxt B j)) := hrow.congr (fun j hj => by rw [nxt_round hw.out hj, if_neg (by omega)])
      clear hrow
      go_wp2
      go_end0
      exact ⟨rfl, hr2, hO⟩

set_option maxRecDepth 100000 in
set_option maxHeartbeats 2000000 in
theorem turned_prog (gs ts : Nat) (KW B : Nat → UInt8) (w : World) (hS : w.rowIs gs ts 432 (schV KW 176)) :
    Calls Try.prog 30 #[.pointer (some ⟨gs, 0, none⟩), .agg (arrL 16 (fun j => byteV (B j))).toArray] w fun e w' =>
      e = .returned (.agg (arrL 16 (fun j => byteV (sh B j))).toArray) ∧ Below w.heap.size w w' := by
  have hz := zero_blk
  go_enter Try.func30, Try.ntmps30
  go_wp2_with fail
  clear hz
  generalize hW : World.alloc _ _ = w1
  have hgs := hS.lt
  have hb1 : Below w.heap.size w w1 := by rw [← hW]; exact (((Below.refl _ _).alloc (Nat.le_refl _) _).alloc (by simp) _).alloc (by simp; omega) _
  have r0 : w1.rowIs w.heap.size 35 16 (fun j => byteV (B j)) := by
    rw [← hW]; exact ((rowIs_of_block (heap_at_alloc w _)).alloc _).alloc _
  have r1 : w1.rowIs (w.heap.size + 1) 35 16 (fun _ => byteV 0) := by
    rw [← hW]; refine World.rowIs.alloc (rowIs_of_block ?_) _; rw [heap_alloc2_new]
  have r2 : w1.rowIs (w.heap.size + 1 + 1) 35 16 (fun _ => byteV 0) := by
    rw [← hW]; refine rowIs_of_block ?_
    have := heap_at_alloc ((w.alloc (.cells (arrL 16 fun j => byteV (B j)).toArray 35)).alloc (.cells (arrL 16 fun _ => byteV 0).toArray 35)) (.cells (arrL 16 fun _ => byteV 0).toArray 35)
    simpa using this
  have hS1 := rowIs_below hS hb1 hgs
  have hs1 : w.heap.size + 3 ≤ w1.heap.size := by rw [← hW]; simp
  clear hW hS
  go_loopw [8] (fun i wr => ∃ k : Nat, k ≤ 16 ∧ i = .int .i64 k ∧ wr.rowIs (w.heap.size + 1 + 1) 35 16 (fun j => if j < k then byteV (sh B j) else byteV 0) ∧ Only (w.heap.size + 1 + 1) w1 wr) (fun i _ => 16 - (intOf i).toNat)
  case atStart => exact ⟨0, by omega, rfl, r2.congr (fun j _ => by simp), Only.refl _ _⟩
  case round =>
    obtain ⟨k, hk, rfl, hrow, hO⟩ := hrel
    by_cases hlt : k < 16
    · have c := hrow.cell (i := k) hlt
      have f := hrow.frozen k
      simp only [Nat.lt_irrefl, if_false, byteV] at c
      obtain ⟨x, hx⟩ : ∃ x, B ((k + 4 * (k % 4)) % 16) = x := ⟨_, rfl⟩
      have cb : wr.cell? ⟨w.heap.size, (k + 4 * (k % 4)) % 16, none⟩ = some (.int .u8 (x.toNat : Int)) := by
        rw [(hO.row r0 (by omega)).cell (by omega), hx]; rfl
      have s := sch_box (hO.row hS1 (by omega)) x
      have hxl := x.toNat_lt
      have HX := Lib.hid hx
      clear hx
      have i0 : (0 : Int) ≤ (k : Int) := by omega
      have i1 : (k : Int) < 16 := by omega
      have q0 : IntKind.i64.wrap (4 * ((k : Int) % 4)) = 4 * ((k : Int) % 4) := IntWalk.i64_in _ (by omega)
      have q1 : IntKind.i64.wrap ((k : Int) + 4 * ((k : Int) % 4)) = (k : Int) + 4 * ((k : Int) % 4) := IntWalk.i64_in _ (by omega)
      have q2 : ((k : Int) + 4 * ((k : Int) % 4)).tmod 16 = ((k : Int) + 4 * ((k : Int) % 4)) % 16 := Int.tmod_eq_emod_of_nonneg (by omega)
      have q3 : IntKind.i64.wrap (((k : Int) + 4 * ((k : Int) % 4)) % 16) = ((k : Int) + 4 * ((k : Int) % 4)) % 16 := IntWalk.i64_in _ (by omega)
      have a0 : (0 : Int) ≤ ((k : Int) + 4 * ((k : Int) % 4)) % 16 := by omega
      have a1 : ((k : Int) + 4 * ((k : Int) % 4)) % 16 < 16 := by omega
      have n1 : (((k : Int) + 4 * ((k : Int) % 4)) % 16).toNat = (k + 4 * (k % 4)) % 16 := by omega
      have b0 : (0 : Int) ≤ (x.toNat : Int) := by omega
      have b1 : (x.toNat : Int) < 256 := by omega
      go_wp2_with fail
      go_still_tail 14, (by kernel_rfl)
      go_wp2
      go_roundw
      case rel =>
        refine ⟨k + 1, by omega, by go_num, World.rowIs.drew (row_put hrow _ _ (fun j _ => ?_)), (hO.setCell _ _).drew⟩
        by_cases hjk : j = k
        · subst hjk; rw [if_pos (by omega), if_pos rfl]; unfold sh; rw [HX.out]; rfl
        · rw [if_neg hjk]
          by_cases hl : j < k
          · rw [if_pos hl, if_pos (by omega)]
          · rw [if_neg hl, if_neg (by omega)]
      case measure => simp [intOf]; omega
    · have hte : k = 16 := by omega
      have hge : (16 : Int) ≤ (k : Int) := by omega
      have hr2 : wr.rowIs (w.heap.size + 1 + 1) 35 16 (fun j => byteV (sh B j)) := hrow.congr (fun j hj => by simp [hte, hj])
      have hr1 := hO.row r1 (by omega)
      have hbb : Below w.heap.size w wr := hb1.trans (hO.below (by omega) (by omega))
      clear hrow hte hlt hO r0 r1 r2 hS1
      go_wp2_with (first
        | (refine list_load_arr Try.underlying35 (by kernel_rfl) rfl _ rfl (w.heap.size + 1 + 1) 35 _ rfl hr2 ?_)
        | (refine list_store_arr (ty := 35) (n := 16) (by kernel_rfl) rfl _ _ rfl (w.heap.size + 1) 35 _ _ rfl rfl hr1 (fun _ => rfl) ?_))
      intro w5 hr5 ho5
      go_wp2
      refine ret_arr rfl Try.underlying35 (by kernel_rfl) rfl hr5 rfl ⟨rfl, ?_⟩
      exact hbb.trans (ho5.below (by omega) hbb.size)
end Go.Proofs.Ytohjnhekkifhbab
