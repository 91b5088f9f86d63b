import Derived.Test.YtohjnhekkifhbaaDoorHex
import Derived.Test.YtohjnhekkifhbaaDoorShaSpec2
namespace Go.Proofs.YtohjnhekkifhbaaDoor
open Go.RowKit

theorem bits_xor8 (a b : UInt8) : bits BinOp.xor IntKind.u8 (a.toNat : Int) (b.toNat : Int) = ((a ^^^ b).toNat : Int) := by
  have := a.toNat_lt; have := b.toNat_lt
  unfold bits
  have e : ∀ n : Nat, n < 256 → (BitVec.ofInt IntKind.u8.bits (n : Int)).toNat = n := by
    intro n hn; show (BitVec.ofInt 8 (n : Int)).toNat = n
    rw [BitVec.ofInt_natCast, BitVec.toNat_ofNat]; omega
  have h : (BitVec.ofInt IntKind.u8.bits (a.toNat : Int) ^^^ BitVec.ofInt IntKind.u8.bits (b.toNat : Int)).toNat = a.toNat ^^^ b.toNat := by
    rw [BitVec.toNat_xor, e _ (by omega), e _ (by omega)]
  have h2 : a.toNat ^^^ b.toNat < 2 ^ 8 := Nat.xor_lt_two_pow (by omega) (by omega)
  simp only [h, IntKind.wrap_u8]
  rw [UInt8.toNat_xor]
  omega

def lettersS : ByteArray := ⟨#[48, 49, 50, 51, 52, 53, 54, 55, 56, 57, 97, 98, 99, 100, 101, 102]⟩

theorem letters_ref (w : World) :
    Calls Tryd.prog 35 #[] w fun e w' => e = .returned (.string lettersS) ∧ w = w' := by
  go_enter Tryd.func35, Tryd.ntmps35
  go_wp2
  go_ret
  exact ⟨rfl, rfl⟩

theorem lettersS_size : lettersS.size = 16 := rfl
theorem letters_extract (i : Int) (m : Nat) (h : m < 16) (e : i = (m : Int)) : lettersS.extract i.toNat (i + 1).toNat = ⟨[hexDig m].toArray⟩ := by
  subst e
  have : ∀ m, m < 16 → lettersS.extract m (m + 1) = ⟨[hexDig m].toArray⟩ := by decide +kernel
  have h2 : ((m : Int) + 1).toNat = m + 1 := by omega
  rw [h2]; simpa using this m h

set_option maxHeartbeats 400000 in
theorem hex_ref (s : ByteArray) (w : World) (hs : s.size ≤ 1000000) :
    Calls Tryd.prog 20 #[.string s] w fun e w' => e = .returned (.string ⟨(hexOf s.data.toList).toArray⟩) ∧ Same w w' := by
  go_enter Tryd.func20, Tryd.ntmps20
  go_wp2
  go_loopw [3, 4] (fun o i wr => ∃ k : Nat, k ≤ s.size ∧ i = .int .i64 k ∧ o = .string ⟨(hexOf (s.data.toList.take k)).toArray⟩ ∧ Same w wr) (fun _ i _ => s.size - (intOf i).toNat)
  case atStart => exact ⟨0, by omega, rfl, by simp [hexOf], Same.refl _⟩
  case round =>
    obtain ⟨k, hk, rfl, rfl, hs2⟩ := hrel
    by_cases hlt : k < s.size
    · have h0 : (0 : Int) ≤ (k : Int) := by omega
      have h1 : (k : Int) < (s.size : Int) := by omega
      have hc := s[k].toNat_lt
      have b0 : (0 : Int) ≤ (s[k].toNat : Int) / 16 := by omega
      have b1 : (0 : Int) ≤ (s[k].toNat : Int) / 16 + 1 := by omega
      have b2 : (s[k].toNat : Int) / 16 ≤ (s[k].toNat : Int) / 16 + 1 := by omega
      have b3 : (s[k].toNat : Int) / 16 + 1 ≤ (lettersS.size : Int) := by rw [lettersS_size]; omega
      have d0 : (0 : Int) ≤ (s[k].toNat : Int) % 16 := by omega
      have d1 : (0 : Int) ≤ (s[k].toNat : Int) % 16 + 1 := by omega
      have d2 : (s[k].toNat : Int) % 16 ≤ (s[k].toNat : Int) % 16 + 1 := by omega
      have d3 : (s[k].toNat : Int) % 16 + 1 ≤ (lettersS.size : Int) := by rw [lettersS_size]; omega
      have w1 : IntKind.i64.wrap ((s[k].toNat : Int) / 16) = (s[k].toNat : Int) / 16 := IntWalk.i64_in _ (by omega)
      have w2 : IntKind.i64.wrap ((s[k].toNat : Int) / 16 + 1) = (s[k].toNat : Int) / 16 + 1 := IntWalk.i64_in _ (by omega)
      have w3 : (s[k].toNat : Int).tmod 16 = (s[k].toNat : Int) % 16 := Int.tmod_eq_emod_of_nonneg (by omega)
      have w4 : IntKind.i64.wrap ((s[k].toNat : Int) % 16) = (s[k].toNat : Int) % 16 := IntWalk.i64_in _ (by omega)
      have w5 : IntKind.i64.wrap ((s[k].toNat : Int) % 16 + 1) = (s[k].toNat : Int) % 16 + 1 := IntWalk.i64_in _ (by omega)
      have e1 := letters_extract ((s[k].toNat : Int) / 16) (s[k].toNat / 16) (by omega) (by omega)
      have e2 := letters_extract ((s[k].toNat : Int) % 16) (s[k].toNat % 16) (by omega) (by omega)
      have hst : (hexOf (s.data.toList.take (k + 1))) = hexOf (s.data.toList.take k) ++ [hexDig (s[k].toNat / 16), hexDig (s[k].toNat % 16)] := by rw [take_snoc s k hlt, hexOf_snoc]
      have hll : (hexOf (s.data.toList.take k)).length ≤ 2000000 := by rw [hexOf_length, List.length_take]; omega
      obtain ⟨l, hle⟩ : ∃ l, l = hexOf (s.data.toList.take k) := ⟨_, rfl⟩
      rw [← hle] at hst hll ⊢
      have HST := Lib.hid hst
      clear hst hle
      have ad1 : ∀ W, (Op.stringOp .add ⟨l.toArray⟩ ⟨[hexDig (s[k].toNat / 16)].toArray⟩).run Tryd.prog W = .ok (.string ⟨(l ++ [hexDig (s[k].toNat / 16)]).toArray⟩) W := fun W => by
        rw [run_string_add_sum (w := W) _ _ (by rw [ByteArray.size_mk', ByteArray.size_mk']; simp; omega), ByteArray.mk_append_mk]
      have ad2 : ∀ W, (Op.stringOp .add ⟨(l ++ [hexDig (s[k].toNat / 16)]).toArray⟩ ⟨[hexDig (s[k].toNat % 16)].toArray⟩).run Tryd.prog W = .ok (.string ⟨(l ++ [hexDig (s[k].toNat / 16), hexDig (s[k].toNat % 16)]).toArray⟩) W := fun W => by
        rw [run_string_add_sum (w := W) _ _ (by rw [ByteArray.size_mk', ByteArray.size_mk']; simp; omega), ByteArray.mk_append_mk]; simp
      go_wp2_with fail
      go_quiet ((go_at_call 35; exact quietE (letters_ref _)))
      go_wp2
      go_roundw
      case rel => exact ⟨k + 1, by omega, by go_num, by rw [HST.out], hs2.trans (Same.of _ _)⟩
      case measure => simp [intOf]; omega
    · obtain rfl : s.size = k := by omega
      go_wp2
      go_ret
      rw [List.take_of_length_le (by simp)]
      exact ⟨rfl, hs2⟩

set_option maxHeartbeats 400000 in
theorem bytes_ref (n : Nat) (c : Nat) (w : World) (h : n < 18446744073709551616) (hc : c ≤ 8) :
    Calls Tryd.prog 28 #[.int .u64 n, .int .i64 c] w fun e w' => e = .returned (.string ⟨(beB n c).toArray⟩) ∧ Below w.heap.size w w' := by
  go_enter Tryd.func28, Tryd.ntmps28
  go_wp2
  go_loopw [0, 5, 6] (fun m s i wr => ∃ k : Nat, k ≤ c ∧ i = .int .i64 k ∧ m = .int .u64 ((n / 256 ^ k : Nat) : Int) ∧ s = .string ⟨(beB n k).toArray⟩ ∧ Below w.heap.size w wr) (fun _ _ i _ => c - (intOf i).toNat)
  case atStart => exact ⟨0, by omega, rfl, by simp, rfl, Below.refl _ _⟩
  case round =>
    obtain ⟨k, hk, rfl, rfl, rfl, hb⟩ := hrel
    by_cases hlt : k < c
    · obtain ⟨m, hm⟩ : ∃ m, m = n / 256 ^ k := ⟨_, rfl⟩
      have hmn : m ≤ n := by rw [hm]; exact Nat.div_le_self _ _
      rw [← hm]
      have HM := Lib.hid hm; clear hm
      have hl := beB_length n k
      obtain ⟨l, hle⟩ : ∃ l, l = beB n k := ⟨_, rfl⟩
      rw [← hle] at hl ⊢
      have HL := Lib.hid hle; clear hle
      have HLL := Lib.hid hl
      have hll : l.length ≤ 8 := by omega
      clear hl
      have hcv := run_string_block (w := wr.alloc (.cells #[.int .u8 ((m : Int) % 256)] 5)) (src := 32) (dst := 9) Tryd.underlying32 Tryd.underlying5 Tryd.underlying9 wr.heap.size 1 [UInt8.ofNat (m % 256)] (by rw [heap_at_alloc]; simp [byteV])
      simp only [List.length_cons, List.length_nil, Nat.zero_add] at hcv
      go_wp2
      go_roundw
      case rel => exact ⟨k + 1, by omega, by go_num, by rw [Nat.pow_succ, ← Nat.div_div_eq_div_mul, ← HM.out]; simp, by simp only [beB]; rw [← HM.out, ← HL.out]; exact congrArg Value.string (ByteArray.mk_append_mk [_] l), hb.alloc hb.size _⟩
      case measure => simp [intOf]; omega
    · obtain rfl : c = k := by omega
      go_wp2
      go_ret
      exact ⟨rfl, hb⟩
end Go.Proofs.YtohjnhekkifhbaaDoor
