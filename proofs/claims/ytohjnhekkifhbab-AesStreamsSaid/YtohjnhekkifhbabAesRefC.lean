/- The document's mixed columns, walked. -/
import Derived.Test.YtohjnhekkifhbabAesRefB
import Derived.Test.YtohjnhekkifhbabAesI
namespace Go.Proofs.Ytohjnhekkifhbab
open Go.RowKit

def fc (q : Nat) : UInt8 := [2, 3, 1, 1].getD q 0
def mixR (B : Nat → UInt8) (c r : Nat) : Nat → UInt8
  | 0 => 0
  | k + 1 => mixR B c r k ^^^ tm (fc ((k + 4 - r) % 4)) (B (4 * c + k))
theorem mixR_mx (B : Nat → UInt8) (c r : Nat) (hr : r < 4) : mixR B c r 4 = mx B (4 * c + r) := by
  rw [mx_at B c r hr]
  unfold mxAt
  have h2 := fun b => (tm_two b).1
  have h1 := fun b => (tm_two b).2.2.1
  have h3 := fun b => (tm_two b).2.2.2
  have l : ∀ x y z : UInt8, x ^^^ (y ^^^ z) = y ^^^ (x ^^^ z) := fun x y z => by ac_rfl
  have e : ∀ x : UInt8, ∀ y : UInt8, x ^^^ (x ^^^ y) = y := fun x y => by rw [← UInt8.xor_assoc, UInt8.xor_self, UInt8.zero_xor]
  have : r = 0 ∨ r = 1 ∨ r = 2 ∨ r = 3 := by omega
  rcases this with rfl | rfl | rfl | rfl
  all_goals
    simp only [mixR, Nat.add_zero, Nat.zero_add, Nat.reduceAdd, Nat.reduceMod, Nat.reduceSub, Nat.sub_zero]
    simp only [show fc 0 = 2 from rfl, show fc 1 = 3 from rfl, show fc 2 = 1 from rfl, show fc 3 = 1 from rfl, h1, h2, h3, dbl_xor, UInt8.zero_xor]
    generalize dbl (B (4 * c)) = a1
    generalize dbl (B (4 * c + 1)) = b1
    generalize dbl (B (4 * c + 2)) = c1
    generalize dbl (B (4 * c + 3)) = d1
    generalize B (4 * c) = a
    generalize B (4 * c + 1) = b
    generalize B (4 * c + 2) = d
    generalize B (4 * c + 3) = f
    simp only [l, e, UInt8.xor_self, UInt8.xor_zero, UInt8.xor_comm]

set_option maxRecDepth 100000 in
set_option maxHeartbeats 4000000 in
theorem mixed_ref (g cap : Nat) (B : Nat → UInt8) (w : World) (hp : Part w g 16 B) :
    Calls Try.prog 24 #[.slice (some ⟨g, 0, none⟩) 16 cap] w fun e w' =>
      e = .returned (.slice (some ⟨w.heap.size, 0, none⟩) 16 16) ∧ w'.rowIs w.heap.size 5 16 (fun j => byteV (mx B j)) ∧ Below w.heap.size w w' := by
  have hgl := hp.lt
  go_enter Try.func24, Try.ntmps24
  go_wp2_with (first
      | (at_make; refine list_makeN Try.bytesSl rfl _ _ rfl 16 _ _ rfl rfl rfl rfl (by omega) (by unfold maxLen; omega) rfl ?_))
  intro w1 hrow hb1
  have hz1 := hrow.lt
  go_wp2_with fail
  go_loopw [4] (fun cv wr => ∃ c : Nat, c ≤ 4 ∧ cv = .int .i64 c ∧ wr.rowIs w.heap.size 5 16 (fun j => if j < 4 * c then byteV (mx B j) else byteV 0) ∧ Below w.heap.size w wr) (fun cv _ => 4 - (intOf cv).toNat)
  case atStart => exact ⟨0, by omega, rfl, hrow.congr (fun j _ => by simp; rfl), hb1⟩
  case round =>
    clear hrow hb1
    obtain ⟨c, hc, rfl, hrow, hb⟩ := hrel
    by_cases hlc : c < 4
    · have hrow2 : wr.rowIs w.heap.size 5 16 (fun j => if j < 4 * c + 0 then byteV (mx B j) else byteV 0) := hrow
      clear hrow
      have dc : decide ((c : Int) < 4) = true := by simp; omega
      go_wp2_with fail
      go_loopw [5] (fun rv wr => ∃ r : Nat, r ≤ 4 ∧ rv = .int .i64 r ∧ wr.rowIs w.heap.size 5 16 (fun j => if j < 4 * c + r then byteV (mx B j) else byteV 0) ∧ Below w.heap.size w wr) (fun rv _ => 4 - (intOf rv).toNat)
      case atStart => exact ⟨0, by omega, rfl, hrow2, hb⟩
      case round =>
        clear hrow2 hb
        obtain ⟨r, hr, rfl, hrow, hb⟩ := hrel
        by_cases hlr : r < 4
        · have dr : decide ((r : Int) < 4) = true := by simp; omega
          go_wp2_with fail
          go_loopw [6, 7] (fun xv kv wr => ∃ (k : Nat) (x : UInt8), k ≤ 4 ∧ kv = .int .i64 k ∧ xv = .int .u8 (x.toNat : Int) ∧ Hid (x = mixR B c r k) ∧ wr.rowIs w.heap.size 5 16 (fun j => if j < 4 * c + r then byteV (mx B j) else byteV 0) ∧ Below w.heap.size w wr) (fun _ kv _ => 4 - (intOf kv).toNat)
          case atStart => exact ⟨0, 0, by omega, rfl, rfl, Lib.hid rfl, hrow, hb⟩
          case round =>
            clear hrow hb
            obtain ⟨k, x, hk, rfl, rfl, HX, hrow, hb⟩ := hrel
            by_cases hlk : k < 4
            · have hgw : w.heap.size < wr.heap.size := hrow.lt
              have hpr : Part wr g 16 B := hp.of_block (hb.block g hgl) hb.size
              have c1 := (hpr.alloc (.cells #[.int .u8 2, .int .u8 3, .int .u8 1, .int .u8 1] 5)).cell (4 * c + k) (by omega)
              obtain ⟨q, hq⟩ : ∃ q, (k + 4 - r) % 4 = q := ⟨_, rfl⟩
              have hq4 : q < 4 := by omega
              have c2 : (wr.alloc (.cells #[.int .u8 2, .int .u8 3, .int .u8 1, .int .u8 1] 5)).cell? ⟨wr.heap.size, q, none⟩ = some (.int .u8 ((fc q).toNat : Int)) := by
                have hb5 := heap_at_alloc wr (.cells #[.int .u8 2, .int .u8 3, .int .u8 1, .int .u8 1] 5)
                simp only [World.cell?, hb5]
                have h5 : q = 0 ∨ q = 1 ∨ q = 2 ∨ q = 3 := by omega
                rcases h5 with rfl | rfl | rfl | rfl <;> rfl
              obtain ⟨f, hf⟩ : ∃ f, fc q = f := ⟨_, rfl⟩
              rw [hf] at c2
              obtain ⟨y, hy⟩ : ∃ y, tm f (B (4 * c + k)) = y := ⟨_, rfl⟩
              obtain ⟨z, hz, ez⟩ := xname x y
              have HZ : Hid (z = mixR B c r (k + 1)) := Lib.hid (by
                show z = mixR B c r k ^^^ tm (fc ((k + 4 - r) % 4)) (B (4 * c + k))
                rw [hq, hf, hy, ← HX.out, hz])
              have HY := Lib.hid hy
              have k0 : (0 : Int) ≤ (k : Int) := by omega
              have k4 : (k : Int) < 4 := by omega
              have s0 : (0 : Int) ≤ (k : Int) - (r : Int) + 4 := by omega
              have n1 : (((k : Int) - (r : Int)) % 4).toNat = q := by omega
              have p1 : (0 : Int) ≤ ((k : Int) - (r : Int)) % 4 := by omega
              have p2 : ((k : Int) - (r : Int)) % 4 < 4 := by omega
              have a0 : (0 : Int) ≤ 4 * (c : Int) + (k : Int) := by omega
              have a1 : 4 * (c : Int) + (k : Int) < 16 := by omega
              have n2 : (4 * (c : Int) + (k : Int)).toNat = 4 * c + k := by omega
              clear hq hf hy hz HX
              have hba := hb.alloc hb.size (.cells #[.int .u8 2, .int .u8 3, .int .u8 1, .int .u8 1] 5)
              have hra := hrow.alloc (.cells #[.int .u8 2, .int .u8 3, .int .u8 1, .int .u8 1] 5)
              go_wp2_with fail
              refine (times_at f (B (4 * c + k)) _ _ y _ rfl rfl HY.out).mono ?_
              rintro e w' ⟨rfl, rfl⟩
              go_wp2_with fail
              go_roundw
              case rel => exact ⟨k + 1, z, by omega, by go_num, rfl, HZ, hra, hba⟩
              case measure => simp [intOf]; omega
            · have HM : Hid (mx B (4 * c + r) = x) := Lib.hid (by rw [HX.out, show k = 4 by omega, mixR_mx B c r hlr])
              have hge : (4 : Int) ≤ (k : Int) := by omega
              have a0 : (0 : Int) ≤ 4 * (c : Int) + (r : Int) := by omega
              have a1 : 4 * (c : Int) + (r : Int) < 16 := by omega
              have n2 : (4 * (c : Int) + (r : Int)).toNat = 4 * c + r := by omega
              have cw := hrow.cell (i := 4 * c + r) (by omega)
              have fw := hrow.frozen (4 * c + r)
              simp only [Nat.lt_irrefl, if_false, byteV] at cw
              clear hlk HX
              go_wp2_with fail
              go_roundw
              case rel =>
                refine ⟨r + 1, by omega, by go_num, row_put hrow _ _ (fun j _ => ?_), hb.setCell (by simp) _⟩
                by_cases hj : j = 4 * c + r
                · subst hj; rw [if_pos (by omega), if_pos rfl, HM.out]; rfl
                · rw [if_neg hj]
                  by_cases hl : j < 4 * c + r
                  · rw [if_pos hl, if_pos (by omega)]
                  · rw [if_neg hl, if_neg (by omega)]
              case measure => simp [intOf]; omega
        · have hge : (4 : Int) ≤ (r : Int) := by omega
          have hrow3 : wr.rowIs w.heap.size 5 16 (fun j => if j < 4 * (c + 1) then byteV (mx B j) else byteV 0) := by
            rw [show 4 * (c + 1) = 4 * c + r by omega]; exact hrow
          clear hrow hlr
          go_wp2_with fail
          go_roundw
          case rel => exact ⟨c + 1, by omega, by go_num, hrow3, hb⟩
          case measure => simp [intOf]; omega
    · have hge : (4 : Int) ≤ (c : Int) := by omega
      have hrow3 : wr.rowIs w.heap.size 5 16 (fun j => byteV (mx B j)) := hrow.congr (fun j hj => by rw [if_pos (by omega)])
      clear hrow hlc
      go_wp2_with fail
      go_ret
      exact ⟨rfl, hrow3, hb⟩
end Go.Proofs.Ytohjnhekkifhbab
