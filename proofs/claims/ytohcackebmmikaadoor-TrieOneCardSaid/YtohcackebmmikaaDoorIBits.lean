/- Bits of keys, what two keys have in common, first bits: the arithmetic. -/
import Derived.Test.YtohcackebmmikaaDoorLib
namespace Go.Proofs.YtohcackebmmikaaDoor
open Go.RowKit

/-- The bit i of a byte, the highest first. -/
def bitU (x : UInt8) (i : Nat) : Bool := x.toNat.testBit (7 - i)
/-- The bit i of a key, the highest one of the first byte first. -/
def bitL (l : List UInt8) (i : Nat) : Bool := bitU (l.getD (i / 8) 0) (i % 8)
def bitN (b : Bool) : Int := if b then 1 else 0

theorem bitU_eq (x : UInt8) (i : Nat) : bitN (bitU x i) = (x.toNat : Int) / 2 ^ (7 - i) % 2 := by
  unfold bitU bitN
  rw [Nat.testBit_eq_decide_div_mod_eq]
  have e : ((x.toNat : Int) / 2 ^ (7 - i) % 2) = ((x.toNat / 2 ^ (7 - i) % 2 : Nat) : Int) := by simp
  rw [e]
  have := Nat.mod_two_eq_zero_or_one (x.toNat / 2 ^ (7 - i))
  by_cases h1 : x.toNat / 2 ^ (7 - i) % 2 = 1
  · simp [h1]
  · have : x.toNat / 2 ^ (7 - i) % 2 = 0 := by omega
    simp [this]

/-- How many of a byte's highest bits are 0. -/
def lzU (x : UInt8) : Nat := if x.toNat = 0 then 8 else 7 - x.toNat.log2
theorem bitU_xor (x y : UInt8) (i : Nat) : bitU (x ^^^ y) i = (bitU x i ^^ bitU y i) := by
  unfold bitU
  rw [UInt8.toNat_xor, Nat.testBit_xor]
theorem lzU_all : ∀ n : Fin 256, n.val ≠ 0 → lzU (UInt8.ofNat n.val) < 8 ∧ bitU (UInt8.ofNat n.val) (lzU (UInt8.ofNat n.val)) = true ∧ ∀ i : Fin 8, i.val < lzU (UInt8.ofNat n.val) → bitU (UInt8.ofNat n.val) i.val = false := by decide +kernel
theorem lzU_ok (x : UInt8) (h : x ≠ 0) : lzU x < 8 ∧ bitU x (lzU x) = true ∧ ∀ i, i < lzU x → bitU x i = false := by
  have hx := x.toNat_lt
  have h0 : x.toNat ≠ 0 := fun e => h (UInt8.toNat_inj.1 (by rw [e]; rfl))
  have := lzU_all ⟨x.toNat, by omega⟩ h0
  simp only [UInt8.ofNat_toNat] at this
  exact ⟨this.1, this.2.1, fun i hi => this.2.2 ⟨i, by have := this.1; omega⟩ hi⟩
theorem xor_ne (x y : UInt8) (h : x ≠ y) : x ^^^ y ≠ 0 := fun e => h (by
  have := congrArg (· ^^^ y) e
  simpa [UInt8.xor_assoc] using this)

/-- How many first bits two lists have in common. -/
def comL : List UInt8 → List UInt8 → Nat
  | x :: xs, y :: ys => if x = y then 8 + comL xs ys else lzU (x ^^^ y)
  | _, _ => 0
theorem comL_le : ∀ (a b : List UInt8), comL a b ≤ 8 * a.length ∧ comL a b ≤ 8 * b.length
  | [], _ => by simp [comL]
  | _ :: _, [] => by simp [comL]
  | x :: xs, y :: ys => by
    have := comL_le xs ys
    unfold comL
    split
    · simp only [List.length_cons]; omega
    · rename_i h
      have := (lzU_ok _ (xor_ne x y h)).1
      simp only [List.length_cons]; omega
theorem comL_same : ∀ (a b : List UInt8) (i : Nat), i < comL a b → bitL a i = bitL b i
  | [], _, i, h => by simp [comL] at h
  | _ :: _, [], i, h => by simp [comL] at h
  | x :: xs, y :: ys, i, h => by
    unfold comL at h
    split at h
    · rename_i e; subst e
      by_cases hi : i < 8
      · have : i / 8 = 0 := by omega
        simp [bitL, this]
      · have h2 := comL_same xs ys (i - 8) (by omega)
        have e1 : i / 8 = (i - 8) / 8 + 1 := by omega
        have e2 : i % 8 = (i - 8) % 8 := by omega
        unfold bitL at *
        rw [e1, e2]; simpa using h2
    · rename_i e
      have hz := lzU_ok _ (xor_ne x y e)
      have h3 := hz.2.2 i h
      rw [bitU_xor] at h3
      have h4 : bitU x i = bitU y i := by
        revert h3; cases bitU x i <;> cases bitU y i <;> simp
      have : i / 8 = 0 := by omega
      have e2 : i % 8 = i := by omega
      simp only [bitL, this, e2]
      simpa using h4
theorem comL_diff : ∀ (a b : List UInt8), a.length = b.length → comL a b < 8 * a.length → bitL a (comL a b) ≠ bitL b (comL a b)
  | [], _, _, h => by simp at h
  | _ :: _, [], h, _ => by simp at h
  | x :: xs, y :: ys, hl, h => by
    unfold comL at h ⊢
    split
    · rename_i e; subst e
      rw [if_pos rfl] at h
      have := comL_diff xs ys (by simpa using hl) (by simp only [List.length_cons] at h; omega)
      have e1 : (8 + comL xs ys) / 8 = comL xs ys / 8 + 1 := by omega
      have e2 : (8 + comL xs ys) % 8 = comL xs ys % 8 := by omega
      unfold bitL at *
      rw [e1, e2]; simpa using this
    · rename_i e
      have hz := lzU_ok _ (xor_ne x y e)
      have h3 := hz.2.1
      rw [bitU_xor] at h3
      have e1 : lzU (x ^^^ y) / 8 = 0 := by omega
      have e2 : lzU (x ^^^ y) % 8 = lzU (x ^^^ y) := by omega
      simp only [bitL, e1, e2]
      intro h4
      simp only [List.getD_cons_zero] at h4
      rw [h4] at h3; simp at h3
theorem comL_eq : ∀ (a b : List UInt8), a.length = b.length → comL a b = 8 * a.length → a = b
  | [], [], _, _ => rfl
  | [], _ :: _, h, _ => by simp at h
  | _ :: _, [], h, _ => by simp at h
  | x :: xs, y :: ys, hl, h => by
    unfold comL at h
    split at h
    · rename_i e; subst e
      rw [comL_eq xs ys (by simpa using hl) (by simp only [List.length_cons] at h; omega)]
    · rename_i e
      have hz := (lzU_ok _ (xor_ne x y e)).1
      simp only [List.length_cons] at h; omega
theorem comL_self (a : List UInt8) : comL a a = 8 * a.length := by
  induction a with
  | nil => rfl
  | cons x xs ih => simp only [comL, if_true, List.length_cons, ih]; omega
theorem bits_ext (a b : List UInt8) (hl : a.length = b.length) (h : ∀ i, i < 8 * a.length → bitL a i = bitL b i) : a = b := by
  have h1 := (comL_le a b).1
  by_cases h2 : comL a b < 8 * a.length
  · exact absurd (h _ h2) (comL_diff a b hl h2)
  · exact comL_eq a b hl (by omega)
theorem comL_sym : ∀ (a b : List UInt8), comL a b = comL b a
  | [], [] => rfl
  | [], _ :: _ => rfl
  | _ :: _, [] => rfl
  | x :: xs, y :: ys => by
    unfold comL
    by_cases e : x = y
    · rw [if_pos e, if_pos e.symm, comL_sym xs ys]
    · rw [if_neg e, if_neg (fun h => e h.symm), UInt8.xor_comm]
/-- comL, as what it is. -/
theorem comL_at (a b : List UInt8) (n : Nat) (hl : a.length = b.length) (hn : n < 8 * a.length) (h : ∀ i, i < n → bitL a i = bitL b i) (hd : bitL a n ≠ bitL b n) : comL a b = n := by
  have h1 : ¬ n < comL a b := fun h2 => hd (comL_same a b n h2)
  by_cases h2 : comL a b < n
  · exact absurd (h _ h2) (comL_diff a b hl (by omega))
  · omega
theorem comL_ge (a b : List UInt8) (n : Nat) (hl : a.length = b.length) (hn : n ≤ 8 * a.length) (h : ∀ i, i < n → bitL a i = bitL b i) : n ≤ comL a b := by
  by_cases h2 : comL a b < n
  · exact absurd (h _ h2) (comL_diff a b hl (by omega))
  · omega

/-- The first r bits of a byte. -/
def maskU (x : UInt8) (r : Nat) : UInt8 := UInt8.ofNat (x.toNat / 2 ^ (8 - r) * 2 ^ (8 - r))
/-- The first n bits of a list, all else 0. -/
def firstL : List UInt8 → Nat → List UInt8
  | [], _ => []
  | x :: xs, n => if n = 0 then 0 :: firstL xs 0 else if n < 8 then maskU x n :: firstL xs 0 else x :: firstL xs (n - 8)
theorem firstL_length : ∀ (l : List UInt8) (n : Nat), (firstL l n).length = l.length
  | [], _ => rfl
  | x :: xs, n => by
    unfold firstL
    split
    · simp [firstL_length xs]
    · split <;> simp [firstL_length xs]
theorem firstL_zero : ∀ (l : List UInt8), firstL l 0 = List.replicate l.length 0
  | [] => rfl
  | x :: xs => by simp [firstL, firstL_zero xs, List.replicate_succ]
theorem maskU_all : ∀ n : Fin 256, ∀ r : Fin 8, ∀ i : Fin 8, bitU (maskU (UInt8.ofNat n.val) r.val) i.val = (decide (i.val < r.val) && bitU (UInt8.ofNat n.val) i.val) := by decide +kernel
theorem maskU_bit (x : UInt8) (r i : Nat) (hr : r < 8) (hi : i < 8) : bitU (maskU x r) i = (decide (i < r) && bitU x i) := by
  have hx := x.toNat_lt
  have := maskU_all ⟨x.toNat, by omega⟩ ⟨r, hr⟩ ⟨i, hi⟩
  simpa only [UInt8.ofNat_toNat] using this
theorem bitL_cons (x : UInt8) (xs : List UInt8) (i : Nat) : bitL (x :: xs) i = if i < 8 then bitU x i else bitL xs (i - 8) := by
  split
  · have : i / 8 = 0 := by omega
    have e2 : i % 8 = i := by omega
    simp [bitL, this, e2]
  · have e1 : i / 8 = (i - 8) / 8 + 1 := by omega
    have e2 : i % 8 = (i - 8) % 8 := by omega
    unfold bitL; rw [e1, e2]; simp
theorem bitU_zero (i : Nat) : bitU 0 i = false := by simp [bitU]
theorem bitL_zeros (n i : Nat) : bitL (List.replicate n 0) i = false := by
  unfold bitL
  have : (List.replicate n (0 : UInt8)).getD (i / 8) 0 = 0 := by
    rw [List.getD_eq_getElem?_getD, List.getElem?_replicate]; split <;> rfl
  rw [this]; exact bitU_zero _
theorem firstL_bit : ∀ (l : List UInt8) (n i : Nat), bitL (firstL l n) i = (decide (i < n) && bitL l i)
  | [], n, i => by
    have : bitL [] i = false := by simp [bitL, bitU_zero]
    simp [firstL, this]
  | x :: xs, n, i => by
    unfold firstL
    split
    · rename_i h; subst h
      rw [bitL_cons, bitU_zero, firstL_bit xs 0]
      simp
    · split
      · rename_i h0 h8
        rw [bitL_cons, bitL_cons]
        split
        · rename_i hi
          rw [maskU_bit x n i h8 hi]
        · rename_i hi
          rw [firstL_bit xs 0]
          have : ¬ i < n := by omega
          simp [this]
      · rename_i h0 h8
        rw [bitL_cons, bitL_cons]
        split
        · have : i < n := by omega
          simp [this]
        · rw [firstL_bit xs]
          have : (i - 8 < n - 8) = (i < n) := by simp; omega
          simp only [this]
theorem firstL_eq (a b : List UInt8) (n : Nat) (hl : a.length = b.length) (h : ∀ i, i < n → bitL a i = bitL b i) : firstL a n = firstL b n := by
  refine bits_ext _ _ (by rw [firstL_length, firstL_length, hl]) fun i _ => ?_
  rw [firstL_bit, firstL_bit]
  by_cases hi : i < n
  · rw [h i hi]
  · simp [hi]

theorem nat_lt_bit (x y m : Nat) (hx : x.testBit m = false) (hy : y.testBit m = true) (h : ∀ j, m < j → x.testBit j = y.testBit j) : x < y := by
  have e : x / 2 ^ (m + 1) = y / 2 ^ (m + 1) := Nat.eq_of_testBit_eq fun i => by
    rw [Nat.testBit_div_two_pow, Nat.testBit_div_two_pow]; exact h _ (by omega)
  rw [Nat.testBit_eq_decide_div_mod_eq] at hx hy
  have hx1 : ¬ x / 2 ^ m % 2 = 1 := by simpa using hx
  have hy1 : y / 2 ^ m % 2 = 1 := by simpa using hy
  rw [Nat.pow_succ, ← Nat.div_div_eq_div_mul, ← Nat.div_div_eq_div_mul] at e
  have hlt : x / 2 ^ m < y / 2 ^ m := by omega
  rcases Nat.lt_or_ge x y with h1 | h1
  · exact h1
  · have := Nat.div_le_div_right (c := 2 ^ m) h1
    omega

/-- The order of lists of one length, by bits. -/
theorem lt_of_bit : ∀ (a b : List UInt8) (n : Nat), a.length = b.length → n < 8 * a.length → (∀ i, i < n → bitL a i = bitL b i) → bitL a n = false → bitL b n = true → a < b
  | [], _, n, _, h, _, _, _ => by simp at h
  | _ :: _, [], n, h, _, _, _, _ => by simp at h
  | x :: xs, y :: ys, n, hl, hn, hs, ha, hb => by
    rw [bitL_cons] at ha hb
    by_cases h8 : n < 8
    · rw [if_pos h8] at ha hb
      have hu : ∀ i, i < n → bitU x i = bitU y i := fun i hi => by
        have := hs i hi
        rwa [bitL_cons, bitL_cons, if_pos (by omega), if_pos (by omega)] at this
      refine List.cons_lt_cons_iff.2 (.inl ?_)
      show x.toNat < y.toNat
      have hx := x.toNat_lt; have hy := y.toNat_lt
      refine nat_lt_bit _ _ (7 - n) ha hb fun j hj => ?_
      by_cases hj8 : j < 8
      · have := hu (7 - j) (by omega)
        unfold bitU at this
        rwa [show 7 - (7 - j) = j by omega] at this
      · have h28 : 2 ^ 8 ≤ 2 ^ j := Nat.pow_le_pow_right (by omega) (by omega)
        rw [Nat.testBit_lt_two_pow (by omega), Nat.testBit_lt_two_pow (by omega)]
    · rw [if_neg h8] at ha hb
      have hxy : [x] = [y] := bits_ext [x] [y] rfl fun i hi => by
        have h8' : i < 8 := by simpa using hi
        have := hs i (by omega)
        rwa [bitL_cons, bitL_cons, if_pos h8', if_pos h8'] at this ⊢
      have hxy2 : x = y := by simpa using hxy
      subst hxy2
      refine List.cons_lt_cons_iff.2 (.inr ⟨rfl, lt_of_bit xs ys (n - 8) (by simpa using hl) (by simp only [List.length_cons] at hn; omega) (fun i hi => ?_) ha hb⟩)
      have := hs (i + 8) (by omega)
      rwa [bitL_cons, bitL_cons, if_neg (by omega), if_neg (by omega), show i + 8 - 8 = i by omega] at this
end Go.Proofs.YtohcackebmmikaaDoor
