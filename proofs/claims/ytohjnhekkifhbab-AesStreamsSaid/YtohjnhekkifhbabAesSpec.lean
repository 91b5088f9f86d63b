/- AES-128 by functions on bytes: no program. -/
import Derived.Test.YtohjnhekkifhbabLib
namespace Go.Proofs.Ytohjnhekkifhbab

def boxL : List UInt8 := [
  99, 124, 119, 123, 242, 107, 111, 197, 48, 1, 103, 43, 254, 215, 171, 118,
  202, 130, 201, 125, 250, 89, 71, 240, 173, 212, 162, 175, 156, 164, 114, 192,
  183, 253, 147, 38, 54, 63, 247, 204, 52, 165, 229, 241, 113, 216, 49, 21,
  4, 199, 35, 195, 24, 150, 5, 154, 7, 18, 128, 226, 235, 39, 178, 117,
  9, 131, 44, 26, 27, 110, 90, 160, 82, 59, 214, 179, 41, 227, 47, 132,
  83, 209, 0, 237, 32, 252, 177, 91, 106, 203, 190, 57, 74, 76, 88, 207,
  208, 239, 170, 251, 67, 77, 51, 133, 69, 249, 2, 127, 80, 60, 159, 168,
  81, 163, 64, 143, 146, 157, 56, 245, 188, 182, 218, 33, 16, 255, 243, 210,
  205, 12, 19, 236, 95, 151, 68, 23, 196, 167, 126, 61, 100, 93, 25, 115,
  96, 129, 79, 220, 34, 42, 144, 136, 70, 238, 184, 20, 222, 94, 11, 219,
  224, 50, 58, 10, 73, 6, 36, 92, 194, 211, 172, 98, 145, 149, 228, 121,
  231, 200, 55, 109, 141, 213, 78, 169, 108, 86, 244, 234, 101, 122, 174, 8,
  186, 120, 37, 46, 28, 166, 180, 198, 232, 221, 116, 31, 75, 189, 139, 138,
  112, 62, 181, 102, 72, 3, 246, 14, 97, 53, 87, 185, 134, 193, 29, 158,
  225, 248, 152, 17, 105, 217, 142, 148, 155, 30, 135, 233, 206, 85, 40, 223,
  140, 161, 137, 13, 191, 230, 66, 104, 65, 153, 45, 15, 176, 84, 187, 22]
theorem boxL_length : boxL.length = 256 := by decide +kernel
def sb (b : UInt8) : UInt8 := boxL.getD b.toNat 0
def dbl (b : UInt8) : UInt8 := (b <<< 1) ^^^ ((b >>> 7) * 27)

theorem all_bytes {p : UInt8 → Prop} (h : ∀ x, x < 256 → p (UInt8.ofNat x)) (b : UInt8) : p b := by
  have := h b.toNat b.toNat_lt
  rwa [UInt8.ofNat_toNat] at this

theorem dbl_lin0 : ∀ x, x < 256 → ∀ y, y < 256 → dbl (UInt8.ofNat x ^^^ UInt8.ofNat y) = dbl (UInt8.ofNat x) ^^^ dbl (UInt8.ofNat y) := by decide +kernel
theorem dbl_xor (a b : UInt8) : dbl (a ^^^ b) = dbl a ^^^ dbl b := by
  have := dbl_lin0 a.toNat a.toNat_lt b.toNat b.toNat_lt
  simpa using this
def isb (b : UInt8) : UInt8 := UInt8.ofNat (boxL.findIdx (· == b))
theorem isb_sb0 : ∀ x, x < 256 → isb (sb (UInt8.ofNat x)) = UInt8.ofNat x := by decide +kernel
theorem isb_sb (b : UInt8) : isb (sb b) = b := by
  have := isb_sb0 b.toNat b.toNat_lt
  simpa using this
theorem sb_inj {a b : UInt8} (h : sb a = sb b) : a = b := by rw [← isb_sb a, h, isb_sb]

def mxAt (a b c d : UInt8) : UInt8 := a ^^^ (a ^^^ b ^^^ c ^^^ d) ^^^ dbl (a ^^^ b)
/-- A column's byte. -/
def mx (B : Nat → UInt8) (i : Nat) : UInt8 :=
  B i ^^^ (B (i / 4 * 4) ^^^ B (i / 4 * 4 + 1) ^^^ B (i / 4 * 4 + 2) ^^^ B (i / 4 * 4 + 3)) ^^^ dbl (B i ^^^ B (i / 4 * 4 + (i + 1) % 4))
def sh (B : Nat → UInt8) (i : Nat) : UInt8 := sb (B ((i + 4 * (i % 4)) % 16))
def ad (KW : Nat → UInt8) (r : Nat) (B : Nat → UInt8) (i : Nat) : UInt8 := B i ^^^ KW (16 * r + i)
def rnds (KW B : Nat → UInt8) : Nat → Nat → UInt8
  | 0 => ad KW 0 B
  | r + 1 => ad KW (r + 1) (mx (sh (rnds KW B r)))
def enc (KW B : Nat → UInt8) : Nat → UInt8 := ad KW 10 (sh (rnds KW B 9))

def rc : Nat → UInt8
  | 0 => 1
  | n + 1 => dbl (rc n)
def kNext (l : List UInt8) : UInt8 :=
  l.getD (l.length - 16) 0 ^^^
    (if l.length % 16 < 4 then (if l.length % 16 = 0 then sb (l.getD (l.length / 4 * 4 - 4 + (l.length + 1) % 4) 0) ^^^ rc (l.length / 16 - 1) else sb (l.getD (l.length / 4 * 4 - 4 + (l.length + 1) % 4) 0)) else l.getD (l.length - 4) 0)
def kList : Nat → List UInt8 → List UInt8
  | 0, l => l
  | n + 1, l => kList n (l ++ [kNext l])
def KWf (K : List UInt8) (n : Nat) : UInt8 := (kList 160 K).getD n 0

theorem kList_old : ∀ (n : Nat) (l : List UInt8) (t : Nat), t < l.length → (kList n l).getD t 0 = l.getD t 0
  | 0, _, _, _ => rfl
  | n + 1, l, t, h => by
    rw [kList, kList_old n _ t (by simp; omega)]
    simp [List.getD, List.getElem?_append_left h]
theorem kList_new : ∀ (n : Nat) (l : List UInt8) (t : Nat), 16 ≤ l.length → l.length ≤ t → t < l.length + n →
    (kList n l).getD t 0 = (kList n l).getD (t - 16) 0 ^^^
      (if t % 16 < 4 then (if t % 16 = 0 then sb ((kList n l).getD (t / 4 * 4 - 4 + (t + 1) % 4) 0) ^^^ rc (t / 16 - 1) else sb ((kList n l).getD (t / 4 * 4 - 4 + (t + 1) % 4) 0)) else (kList n l).getD (t - 4) 0)
  | 0, l, t, h, h1, h2 => by omega
  | n + 1, l, t, h, h1, h2 => by
    simp only [kList]
    by_cases ht : t = l.length
    · subst ht
      have a1 : l.length / 4 * 4 - 4 + (l.length + 1) % 4 < l.length := by omega
      have e : ∀ k, k < l.length → (l ++ [kNext l]).getD k 0 = l.getD k 0 := fun k hk => by
        simp only [List.getD]; rw [List.getElem?_append_left hk]
      rw [kList_old n _ _ (by simp), kList_old n _ (l.length - 16) (by simp; omega), kList_old n _ (l.length - 4) (by simp; omega), kList_old n _ (l.length / 4 * 4 - 4 + (l.length + 1) % 4) (by simp; omega)]
      rw [e _ (show l.length - 16 < l.length by omega), e _ (show l.length - 4 < l.length by omega), e _ a1]
      simp [List.getD, kNext]
    · exact kList_new n _ t (by simp; omega) (by simp; omega) (by simp; omega)
theorem KW_old (K : List UInt8) (t : Nat) (h : t < K.length) : KWf K t = K.getD t 0 := kList_old 160 K t h
/-- A later word's byte, by its word i and its place j. -/
theorem KW_new (K : List UInt8) (hK : K.length = 16) (i j : Nat) (h : 4 ≤ i) (h2 : i < 44) (hj : j < 4) :
    KWf K (4 * i + j) = KWf K (4 * (i - 4) + j) ^^^ (if i % 4 = 0 then (if j = 0 then sb (KWf K (4 * (i - 1) + 1)) ^^^ rc (i / 4 - 1) else sb (KWf K (4 * (i - 1) + (j + 1) % 4))) else KWf K (4 * (i - 1) + j)) := by
  have H := kList_new 160 K (4 * i + j) (by omega) (by omega) (by omega)
  unfold KWf
  rw [H]
  have e1 : 4 * i + j - 16 = 4 * (i - 4) + j := by omega
  have e2 : 4 * i + j - 4 = 4 * (i - 1) + j := by omega
  have e3 : (4 * i + j) / 4 * 4 - 4 + (4 * i + j + 1) % 4 = 4 * (i - 1) + (j + 1) % 4 := by omega
  rw [e1, e2, e3]
  by_cases hi : i % 4 = 0
  · rw [if_pos (by omega), if_pos hi]
    by_cases h0 : j = 0
    · subst h0; rw [if_pos (by omega), if_pos rfl, show (4 * i + 0) / 16 - 1 = i / 4 - 1 by omega]
    · rw [if_neg (by omega), if_neg h0]
  · rw [if_neg (by omega), if_neg hi]

/-! A block under a key tells the block. -/
theorem x3 (a b : UInt8) : b ^^^ a ^^^ a = b := by rw [UInt8.xor_assoc, UInt8.xor_self, UInt8.xor_zero]
theorem xor_can {a b k : UInt8} (h : a ^^^ k = b ^^^ k) : a = b := by
  have := congrArg (· ^^^ k) h
  simpa [UInt8.xor_assoc] using this
theorem ad_inj {KW : Nat → UInt8} {r : Nat} {B C : Nat → UInt8} (h : ∀ i, i < 16 → ad KW r B i = ad KW r C i) : ∀ i, i < 16 → B i = C i := fun i hi => xor_can (h i hi)
theorem sh_inj {B C : Nat → UInt8} (h : ∀ i, i < 16 → sh B i = sh C i) : ∀ i, i < 16 → B i = C i := fun i hi => by
  have := sb_inj (h ((i + 12 * (i % 4)) % 16) (by omega))
  have e : ((i + 12 * (i % 4)) % 16 + 4 * ((i + 12 * (i % 4)) % 16 % 4)) % 16 = i := by omega
  rwa [e] at this

/-- Two mixings of a column: what is done is small. -/
theorem mm (a b c d : UInt8) :
    mxAt (mxAt a b c d) (mxAt b c d a) (mxAt c d a b) (mxAt d a b c) = a ^^^ dbl (dbl (a ^^^ c)) := by
  unfold mxAt
  simp only [dbl_xor]
  have e : ∀ x : UInt8, ∀ y : UInt8, x ^^^ (x ^^^ y) = y := fun x y => by rw [← UInt8.xor_assoc, UInt8.xor_self, UInt8.zero_xor]
  have l : ∀ x y z : UInt8, x ^^^ (y ^^^ z) = y ^^^ (x ^^^ z) := fun x y z => by ac_rfl
  generalize dbl (dbl a) = a2
  generalize dbl (dbl b) = b2
  generalize dbl (dbl c) = c2
  generalize dbl (dbl d) = d2
  generalize dbl a = a1
  generalize dbl b = b1
  generalize dbl c = c1
  generalize dbl d = d1
  simp only [l, e, UInt8.xor_self, UInt8.xor_zero, UInt8.xor_comm]
end Go.Proofs.Ytohjnhekkifhbab
