/- The document's field and box by numbers: no program. -/
import Derived.Test.YtohjnhekkifhbabAesSpec
namespace Go.Proofs.Ytohjnhekkifhbab

def tP (a b : Nat) : Nat → Nat
  | 0 => 0
  | i + 1 => if b / 2 ^ i % 2 = 1 then tP a b i ^^^ a * 2 ^ i else tP a b i
def tQ (p : Nat) : Nat → Nat
  | 0 => p
  | k + 1 => if tQ p k / 2 ^ (14 - k) % 2 = 1 then tQ p k ^^^ 283 * 2 ^ (6 - k) else tQ p k
def tm (a b : UInt8) : UInt8 := UInt8.ofNat (tQ (tP a.toNat b.toNat 8) 7)

theorem tP_lt (a b : Nat) (ha : a < 256) : ∀ i, i ≤ 8 → tP a b i < 65536
  | 0, _ => by simp [tP]
  | i + 1, h => by
    have ih := tP_lt a b ha i (by omega)
    have hp : 2 ^ i ≤ 2 ^ 7 := Nat.pow_le_pow_right (by omega) (by omega)
    have hm : a * 2 ^ i < 65536 := by
      have : a * 2 ^ i ≤ 255 * 2 ^ 7 := Nat.mul_le_mul (by omega) hp
      omega
    unfold tP
    split
    · exact Nat.xor_lt_two_pow (n := 16) ih hm
    · exact ih
theorem tQ_lt (p : Nat) (hp : p < 65536) : ∀ k, k ≤ 7 → tQ p k < 65536
  | 0, _ => hp
  | k + 1, h => by
    have ih := tQ_lt p hp k (by omega)
    have hm : 283 * 2 ^ (6 - k) < 65536 := by
      have : 2 ^ (6 - k) ≤ 2 ^ 6 := Nat.pow_le_pow_right (by omega) (by omega)
      omega
    unfold tQ
    split
    · exact Nat.xor_lt_two_pow (n := 16) ih hm
    · exact ih

def ivG (b : UInt8) : Nat → Nat → Nat
  | 0, _ => 0
  | f + 1, c => if tm b (UInt8.ofNat c) = 1 then c else ivG b f (c + 1)
def ivR (b : UInt8) : UInt8 := UInt8.ofNat (ivG b 255 1)

def bt (c j : Nat) : Nat := c / 2 ^ j % 2
def bitR (c i : Nat) : Nat := ((((bt 99 i ^^^ bt c ((i + 0) % 8)) ^^^ bt c ((i + 4) % 8)) ^^^ bt c ((i + 5) % 8)) ^^^ bt c ((i + 6) % 8)) ^^^ bt c ((i + 7) % 8)
def oR (c : Nat) : Nat → Nat
  | 0 => 0
  | i + 1 => oR c i ||| (bitR c i * 2 ^ i % 256)
def boxR (b : UInt8) : UInt8 := UInt8.ofNat (oR (ivR b).toNat 8)

theorem bt_lt (c j : Nat) : bt c j < 2 := Nat.mod_lt _ (by omega)
theorem xor_bit {a b : Nat} (ha : a < 2) (hb : b < 2) : a ^^^ b < 2 := Nat.xor_lt_two_pow (n := 1) ha hb
theorem bitR_lt (c i : Nat) : bitR c i < 2 := xor_bit (xor_bit (xor_bit (xor_bit (xor_bit (bt_lt _ _) (bt_lt _ _)) (bt_lt _ _)) (bt_lt _ _)) (bt_lt _ _)) (bt_lt _ _)
theorem oR_lt (c : Nat) : ∀ i, oR c i < 256
  | 0 => by simp [oR]
  | i + 1 => Nat.or_lt_two_pow (n := 8) (oR_lt c i) (Nat.mod_lt _ (by omega))

theorem tm_two0 : ∀ x, x < 256 → tm 2 (UInt8.ofNat x) = dbl (UInt8.ofNat x) ∧ tm (UInt8.ofNat x) 2 = dbl (UInt8.ofNat x) ∧ tm 1 (UInt8.ofNat x) = UInt8.ofNat x ∧ tm 3 (UInt8.ofNat x) = dbl (UInt8.ofNat x) ^^^ UInt8.ofNat x := by decide +kernel
theorem tm_two (b : UInt8) : tm 2 b = dbl b ∧ tm b 2 = dbl b ∧ tm 1 b = b ∧ tm 3 b = dbl b ^^^ b := by
  have := tm_two0 b.toNat b.toNat_lt
  rwa [UInt8.ofNat_toNat] at this
end Go.Proofs.Ytohjnhekkifhbab
