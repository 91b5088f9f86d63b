import Derived.Test.YtohcackebmmikaaDoorSHex
import Derived.Test.YtohcackebmmikaaDoorShaSpec2
namespace Go.Proofs.YtohcackebmmikaaDoor
open Go.RowKit

theorem bits_xor8 (a b : UInt8) : bits BinOp.xor IntKind.u8 (a.toNat : Int) (b.toNat : Int) = ((a ^^^ b).toNat : Int) := by
  have := a.toNat_lt; have := b.toNat_lt
  unfold bits
  have e : ∀ n : Nat, n < 256 → (BitVec.ofInt IntKind.u8.bits (n : Int)).toNat = n := by
    intro n hn; show (BitVec.ofInt 8 (n : Int)).toNat = n
    rw [BitVec.ofInt_natCast, BitVec.toNat_ofNat]; omega
  have h : (BitVec.ofInt IntKind.u8.bits (a.toNat : Int) ^^^ BitVec.ofInt IntKind.u8.bits (b.toNat : Int)).toNat = a.toNat ^^^ b.toNat := by
    rw [BitVec.toNat_xor, e _ (by omega), e _ (by omega)]
  have h2 : a.toNat ^^^ b.toNat < 2 ^ 8 := Nat.xor_lt_two_pow (by omega) (by omega)
  simp only [h, IntKind.wrap_u8]
  rw [UInt8.toNat_xor]
  omega

set_option maxHeartbeats 400000 in
theorem bytes_ref (n : Nat) (c : Nat) (w : World) (h : n < 18446744073709551616) (hc : c ≤ 8) :
    Calls Tryd.prog 57 #[.int .u64 n, .int .i64 c] w fun e w' => e = .returned (.string ⟨(beB n c).toArray⟩) ∧ Below w.heap.size w w' := by
  go_enter Tryd.func57, Tryd.ntmps57
  go_wp2
  go_loopw [0, 5, 6] (fun m s i wr => ∃ k : Nat, k ≤ c ∧ i = .int .i64 k ∧ m = .int .u64 ((n / 256 ^ k : Nat) : Int) ∧ s = .string ⟨(beB n k).toArray⟩ ∧ Below w.heap.size w wr) (fun _ _ i _ => c - (intOf i).toNat)
  case atStart => exact ⟨0, by omega, rfl, by simp, rfl, Below.refl _ _⟩
  case round =>
    obtain ⟨k, hk, rfl, rfl, rfl, hb⟩ := hrel
    by_cases hlt : k < c
    · obtain ⟨m, hm⟩ : ∃ m, m = n / 256 ^ k := ⟨_, rfl⟩
      have hmn : m ≤ n := by rw [hm]; exact Nat.div_le_self _ _
      rw [← hm]
      have HM := Lib.hid hm; clear hm
      have hl := beB_length n k
      obtain ⟨l, hle⟩ : ∃ l, l = beB n k := ⟨_, rfl⟩
      rw [← hle] at hl ⊢
      have HL := Lib.hid hle; clear hle
      have HLL := Lib.hid hl
      have hll : l.length ≤ 8 := by omega
      clear hl
      have hcv := run_string_block (w := wr.alloc (.cells #[.int .u8 ((m : Int) % 256)] 5)) (src := 58) (dst := 9) Tryd.underlying58 Tryd.underlying5 Tryd.underlying9 wr.heap.size 1 [UInt8.ofNat (m % 256)] (by rw [heap_at_alloc]; simp [byteV])
      simp only [List.length_cons, List.length_nil, Nat.zero_add] at hcv
      go_wp2
      go_roundw
      case rel => exact ⟨k + 1, by omega, by go_num, by rw [Nat.pow_succ, ← Nat.div_div_eq_div_mul, ← HM.out]; simp, by simp only [beB]; rw [← HM.out, ← HL.out]; exact congrArg Value.string (ByteArray.mk_append_mk [_] l), hb.alloc hb.size _⟩
      case measure => simp [intOf]; omega
    · obtain rfl : c = k := by omega
      go_wp2
      go_ret
      exact ⟨rfl, hb⟩
end Go.Proofs.YtohcackebmmikaaDoor
