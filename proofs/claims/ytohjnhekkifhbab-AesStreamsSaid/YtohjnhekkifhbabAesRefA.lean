/- The document's product in the field, walked. -/
import Derived.Test.YtohjnhekkifhbabAesA
import Derived.Test.YtohjnhekkifhbabAesTm
import Derived.IntWalk
namespace Go.Proofs.Ytohjnhekkifhbab
open Go.RowKit

theorem wrap64_in (n : Int) (h0 : 0 ≤ n) (h1 : n < 2 ^ 64) : IntKind.u64.wrap n = n := by rw [IntKind.wrap_u64]; omega
theorem and1_u8 (n : Nat) (h : n < 256) : bits BinOp.and IntKind.u8 (n : Int) 1 = ((n % 2 : Nat) : Int) := by
  have := bits_mask .u8 8 (by decide) (by intro n h0 h1; rw [IntKind.wrap_u8]; omega) 1 (by decide) n (by omega) (by omega)
  simpa using this
theorem ofInt64 (n : Nat) (h : n < 65536) : (BitVec.ofInt IntKind.i64.bits (n : Int)).toNat = n := by
  show (BitVec.ofInt 64 (n : Int)).toNat = n
  rw [BitVec.ofInt_natCast, BitVec.toNat_ofNat]; omega
theorem wrap_small (n : Nat) (h : n < 65536) : IntKind.i64.wrap (n : Int) = (n : Int) := IntWalk.i64_in _ (by omega)
theorem and1_i64 (n : Nat) (h : n < 65536) : bits BinOp.and IntKind.i64 (n : Int) 1 = ((n % 2 : Nat) : Int) := by
  unfold bits
  have h1 : (BitVec.ofInt IntKind.i64.bits (n : Int) &&& BitVec.ofInt IntKind.i64.bits (1 : Int)).toNat = n % 2 := by
    rw [BitVec.toNat_and, ofInt64 n h, show (BitVec.ofInt IntKind.i64.bits (1 : Int)).toNat = 1 from ofInt64 1 (by omega), Nat.and_one_is_mod]
  simp only [h1]
  exact wrap_small _ (by omega)
theorem xor_i64 (a b : Nat) (ha : a < 65536) (hb : b < 65536) : bits BinOp.xor IntKind.i64 (a : Int) (b : Int) = ((a ^^^ b : Nat) : Int) := by
  unfold bits
  have h1 : (BitVec.ofInt IntKind.i64.bits (a : Int) ^^^ BitVec.ofInt IntKind.i64.bits (b : Int)).toNat = a ^^^ b := by
    rw [BitVec.toNat_xor, ofInt64 a ha, ofInt64 b hb]
  simp only [h1]
  exact wrap_small _ (Nat.xor_lt_two_pow (n := 16) ha hb)

set_option maxRecDepth 100000 in
set_option maxHeartbeats 2000000 in
theorem times_ref (a b : UInt8) (w : World) :
    Calls Try.prog 27 #[.int .u8 (a.toNat : Int), .int .u8 (b.toNat : Int)] w fun e w' => e = .returned (byteV (tm a b)) ∧ w = w' := by
  have ha := a.toNat_lt
  have hb := b.toNat_lt
  go_enter Try.func27, Try.ntmps27
  go_wp2
  go_loop [5, 7] (fun p i => ∃ (k q : Nat), k ≤ 8 ∧ i = .int .i64 k ∧ p = .int .i64 q ∧ q < 65536 ∧ Hid (q = tP a.toNat b.toNat k)) (fun _ i => 8 - (intOf i).toNat)
  case atStart => exact ⟨0, 0, by omega, rfl, rfl, by omega, Lib.hid rfl⟩
  case round =>
    obtain ⟨k, q, hk, rfl, rfl, hq, HQ⟩ := hrel
    by_cases hlt : k < 8
    · have k0 : (0 : Int) ≤ (k : Int) := by omega
      have hp : 2 ^ k ≤ 2 ^ 7 := Nat.pow_le_pow_right (by omega) (by omega)
      have hm : a.toNat * 2 ^ k < 65536 := by
        have : a.toNat * 2 ^ k ≤ 255 * 2 ^ 7 := Nat.mul_le_mul (by omega) hp
        omega
      have hst : tP a.toNat b.toNat (k + 1) = if b.toNat / 2 ^ k % 2 = 1 then tP a.toNat b.toNat k ^^^ a.toNat * 2 ^ k else tP a.toNat b.toNat k := rfl
      rw [← HQ.out] at hst
      have HST := Lib.hid hst
      have e1 : bits BinOp.and IntKind.u8 ((b.toNat : Int) / 2 ^ k) 1 = ((b.toNat / 2 ^ k % 2 : Nat) : Int) := by
        have h1 : b.toNat / 2 ^ k ≤ b.toNat := Nat.div_le_self _ _
        have := and1_u8 (b.toNat / 2 ^ k) (by omega)
        simpa using this
      obtain ⟨m, hme⟩ : ∃ m, a.toNat * 2 ^ k = m := ⟨_, rfl⟩
      have e2 : (a.toNat : Int) * 2 ^ k = (m : Int) := by rw [← hme]; simp
      rw [hme] at hm
      have HME := Lib.hid hme
      have hx := xor_i64 q m hq hm
      obtain ⟨x, hxe⟩ : ∃ x, q ^^^ m = x := ⟨_, rfl⟩
      rw [hxe] at hx
      have hxl : x < 65536 := by rw [← hxe]; exact Nat.xor_lt_two_pow (n := 16) hq hm
      have HX := Lib.hid hxe
      by_cases hbit : b.toNat / 2 ^ k % 2 = 1
      · rw [hbit] at e1
        have HB := Lib.hid hbit
        clear hst hme hxe hbit hp
        go_wp2_with fail
        go_round
        case rel => exact ⟨k + 1, x, by omega, by go_num, rfl, hxl, Lib.hid (by rw [HST.out, if_pos HB.out, HME.out, HX.out])⟩
        case measure => simp [intOf]; omega
      · have e3 : b.toNat / 2 ^ k % 2 = 0 := by omega
        rw [e3] at e1
        have HB := Lib.hid hbit
        clear hst hme hxe hbit hp e3
        go_wp2_with fail
        go_round
        case rel => exact ⟨k + 1, q, by omega, by go_num, rfl, hq, Lib.hid (by rw [HST.out, if_neg HB.out])⟩
        case measure => simp [intOf]; omega
    · obtain ⟨p0, hp0⟩ : ∃ p0, tP a.toNat b.toNat 8 = p0 := ⟨_, rfl⟩
      have hqp : Hid (q = p0) := Lib.hid (by rw [HQ.out, ← hp0, show k = 8 by omega])
      have hge : (8 : Int) ≤ (k : Int) := by omega
      have hpl : p0 < 65536 := by rw [← hp0]; exact tP_lt _ _ (by omega) 8 (by omega)
      have HP0 := Lib.hid hp0
      clear hlt hp0
      go_wp2_with fail
      go_loop [5, 8] (fun p i => ∃ (k q : Nat), k ≤ 7 ∧ i = .int .i64 (14 - (k : Int)) ∧ p = .int .i64 q ∧ q < 65536 ∧ Hid (q = tQ p0 k)) (fun _ i => (intOf i - 7).toNat)
      case atStart => exact ⟨0, q, by omega, rfl, rfl, hq, Lib.hid hqp.out⟩
      case round =>
        clear HQ hqp hge
        obtain ⟨k, q, hk, rfl, rfl, hq, HQ⟩ := hrel
        by_cases hlt : k < 7
        · have hm : 283 * 2 ^ (6 - k) < 65536 := by
            have : 2 ^ (6 - k) ≤ 2 ^ 6 := Nat.pow_le_pow_right (by omega) (by omega)
            omega
          have hst : tQ p0 (k + 1) = if tQ p0 k / 2 ^ (14 - k) % 2 = 1 then tQ p0 k ^^^ 283 * 2 ^ (6 - k) else tQ p0 k := rfl
          rw [← HQ.out] at hst
          have HST := Lib.hid hst
          have n1 : ((14 : Int) - (k : Int)).toNat = 14 - k := by omega
          have n2 : ((14 : Int) - (k : Int) - 8).toNat = 6 - k := by omega
          have n3 : (0 : Int) ≤ 14 - (k : Int) - 8 := by omega
          have e1 : bits BinOp.and IntKind.i64 ((q : Int) / 2 ^ (14 - k)) 1 = ((q / 2 ^ (14 - k) % 2 : Nat) : Int) := by
            have h1 : q / 2 ^ (14 - k) ≤ q := Nat.div_le_self _ _
            have := and1_i64 (q / 2 ^ (14 - k)) (by omega)
            simpa using this
          obtain ⟨m, hme⟩ : ∃ m, 283 * 2 ^ (6 - k) = m := ⟨_, rfl⟩
          have e2 : (283 : Int) * 2 ^ (6 - k) = (m : Int) := by rw [← hme]; simp
          rw [hme] at hm
          have HME := Lib.hid hme
          have hx := xor_i64 q m hq hm
          obtain ⟨x, hxe⟩ : ∃ x, q ^^^ m = x := ⟨_, rfl⟩
          rw [hxe] at hx
          have hxl : x < 65536 := by rw [← hxe]; exact Nat.xor_lt_two_pow (n := 16) hq hm
          have HX := Lib.hid hxe
          by_cases hbit : q / 2 ^ (14 - k) % 2 = 1
          · rw [hbit] at e1
            have HB := Lib.hid hbit
            clear hst hme hxe hbit
            go_wp2_with fail
            go_round
            case rel => exact ⟨k + 1, x, by omega, by go_num, rfl, hxl, Lib.hid (by rw [HST.out, if_pos HB.out, HME.out, HX.out])⟩
            case measure => simp [intOf]; omega
          · have e3 : q / 2 ^ (14 - k) % 2 = 0 := by omega
            rw [e3] at e1
            have HB := Lib.hid hbit
            clear hst hme hxe hbit e3
            go_wp2_with fail
            go_round
            case rel => exact ⟨k + 1, q, by omega, by go_num, rfl, hq, Lib.hid (by rw [HST.out, if_neg HB.out])⟩
            case measure => simp [intOf]; omega
        · have HQ7 : Hid (q = tQ (tP a.toNat b.toNat 8) 7) := Lib.hid (by rw [HQ.out, HP0.out, show k = 7 by omega])
          have hge : (7 : Int) ≤ (k : Int) := by omega
          clear hlt HQ
          go_wp2_with fail
          go_ret
          refine ⟨?_, rfl⟩
          have : byteV (tm a b) = .int .u8 ((q : Int) % 256) := by
            unfold byteV tm
            rw [← HQ7.out]; simp
          rw [this]; rfl
end Go.Proofs.Ytohjnhekkifhbab
