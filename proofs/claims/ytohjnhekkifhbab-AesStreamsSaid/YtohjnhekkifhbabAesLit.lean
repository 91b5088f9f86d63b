/- A known block under a known key, reckoned round by round: no program. -/
import Derived.Test.YtohjnhekkifhbabAesWays
namespace Go.Proofs.Ytohjnhekkifhbab

def litK : List UInt8 := [0, 1, 2, 3, 4, 5, 6, 7, 8, 9, 10, 11, 12, 13, 14, 15, 214, 170, 116, 253, 210, 175, 114, 250, 218, 166, 120, 241, 214, 171, 118, 254, 182, 146, 207, 11, 100, 61, 189, 241, 190, 155, 197, 0, 104, 48, 179, 254, 182, 255, 116, 78, 210, 194, 201, 191, 108, 89, 12, 191, 4, 105, 191, 65, 71, 247, 247, 188, 149, 53, 62, 3, 249, 108, 50, 188, 253, 5, 141, 253, 60, 170, 163, 232, 169, 159, 157, 235, 80, 243, 175, 87, 173, 246, 34, 170, 94, 57, 15, 125, 247, 166, 146, 150, 167, 85, 61, 193, 10, 163, 31, 107, 20, 249, 112, 26, 227, 95, 226, 140, 68, 10, 223, 77, 78, 169, 192, 38, 71, 67, 135, 53, 164, 28, 101, 185, 224, 22, 186, 244, 174, 191, 122, 210, 84, 153, 50, 209, 240, 133, 87, 104, 16, 147, 237, 156, 190, 44, 151, 78, 19, 17, 29, 127, 227, 148, 74, 23, 243, 7, 167, 139, 77, 43, 48, 197]
def litS0 : List UInt8 := [0, 16, 32, 48, 64, 80, 96, 112, 128, 144, 160, 176, 192, 208, 224, 240]
def litS1 : List UInt8 := [137, 216, 16, 232, 133, 90, 206, 104, 45, 24, 67, 216, 203, 18, 143, 228]
def litS2 : List UInt8 := [73, 21, 89, 143, 85, 229, 215, 160, 218, 202, 148, 250, 31, 10, 99, 247]
def litS3 : List UInt8 := [250, 99, 106, 40, 37, 179, 57, 201, 64, 102, 138, 49, 87, 36, 77, 23]
def litS4 : List UInt8 := [36, 114, 64, 35, 105, 102, 179, 250, 110, 210, 117, 50, 136, 66, 91, 108]
def litS5 : List UInt8 := [200, 22, 119, 188, 155, 122, 201, 59, 37, 2, 121, 146, 176, 38, 25, 150]
def litS6 : List UInt8 := [198, 47, 225, 9, 247, 94, 237, 195, 204, 121, 57, 93, 132, 249, 207, 93]
def litS7 : List UInt8 := [209, 135, 108, 15, 121, 196, 48, 10, 180, 85, 148, 173, 214, 111, 244, 31]
def litS8 : List UInt8 := [253, 227, 186, 210, 5, 229, 208, 215, 53, 71, 150, 78, 241, 254, 55, 241]
def litS9 : List UInt8 := [189, 110, 124, 61, 242, 181, 119, 158, 11, 97, 33, 110, 139, 16, 182, 137]

def kb : ByteArray := ⟨#[0, 1, 2, 3, 4, 5, 6, 7, 8, 9, 10, 11, 12, 13, 14, 15]⟩
def pb : ByteArray := ⟨#[0, 17, 34, 51, 68, 85, 102, 119, 136, 153, 170, 187, 204, 221, 238, 255]⟩
def nthL (l : List UInt8) (j : Nat) : UInt8 := l.getD j 0
theorem kw_lit0 : kList 160 [0, 1, 2, 3, 4, 5, 6, 7, 8, 9, 10, 11, 12, 13, 14, 15] = litK := by decide +kernel
theorem kw_lit (n : Nat) : KWf kb.data.toList n = nthL litK n := by unfold KWf nthL; rw [← kw_lit0]; rfl
theorem lit0 : ∀ i, i < 16 → nthL [0, 17, 34, 51, 68, 85, 102, 119, 136, 153, 170, 187, 204, 221, 238, 255] i ^^^ nthL litK i = nthL litS0 i := by decide +kernel
theorem lit_round (KW B : Nat → UInt8) (r : Nat) (S T : List UInt8) (hK : ∀ n, KW n = nthL litK n) (h : ∀ i, i < 16 → rnds KW B r i = nthL S i)
    (hT : ∀ i, i < 16 → mx (sh (nthL S)) i ^^^ nthL litK (16 * (r + 1) + i) = nthL T i) : ∀ i, i < 16 → rnds KW B (r + 1) i = nthL T i := fun i hi => by
  rw [← hT i hi, ← hK]
  show mx (sh (rnds KW B r)) i ^^^ _ = _
  rw [mx_congr (sh_congr h) i hi]
theorem lit1 : ∀ i, i < 16 → mx (sh (nthL litS0)) i ^^^ nthL litK (16 * (0 + 1) + i) = nthL litS1 i := by decide +kernel
theorem lit2 : ∀ i, i < 16 → mx (sh (nthL litS1)) i ^^^ nthL litK (16 * (1 + 1) + i) = nthL litS2 i := by decide +kernel
theorem lit3 : ∀ i, i < 16 → mx (sh (nthL litS2)) i ^^^ nthL litK (16 * (2 + 1) + i) = nthL litS3 i := by decide +kernel
theorem lit4 : ∀ i, i < 16 → mx (sh (nthL litS3)) i ^^^ nthL litK (16 * (3 + 1) + i) = nthL litS4 i := by decide +kernel
theorem lit5 : ∀ i, i < 16 → mx (sh (nthL litS4)) i ^^^ nthL litK (16 * (4 + 1) + i) = nthL litS5 i := by decide +kernel
theorem lit6 : ∀ i, i < 16 → mx (sh (nthL litS5)) i ^^^ nthL litK (16 * (5 + 1) + i) = nthL litS6 i := by decide +kernel
theorem lit7 : ∀ i, i < 16 → mx (sh (nthL litS6)) i ^^^ nthL litK (16 * (6 + 1) + i) = nthL litS7 i := by decide +kernel
theorem lit8 : ∀ i, i < 16 → mx (sh (nthL litS7)) i ^^^ nthL litK (16 * (7 + 1) + i) = nthL litS8 i := by decide +kernel
theorem lit9 : ∀ i, i < 16 → mx (sh (nthL litS8)) i ^^^ nthL litK (16 * (8 + 1) + i) = nthL litS9 i := by decide +kernel
theorem lit10 : ∀ i, i < 4 → sh (nthL litS9) i ^^^ nthL litK (16 * 10 + i) = nthL [105, 196, 224, 216] i := by decide +kernel
theorem enc_lit (KW B : Nat → UInt8) (hK : ∀ n, KW n = nthL litK n) (hB : ∀ i, i < 16 → B i = nthL [0, 17, 34, 51, 68, 85, 102, 119, 136, 153, 170, 187, 204, 221, 238, 255] i) : ∀ i, i < 4 → enc KW B i = nthL [105, 196, 224, 216] i := fun i hi => by
  have h0 : ∀ i, i < 16 → rnds KW B 0 i = nthL litS0 i := fun i hi => by
    rw [← lit0 i hi, ← hB i hi]
    show B i ^^^ KW (16 * 0 + i) = _
    rw [hK, Nat.mul_zero, Nat.zero_add]
  have h1 := lit_round KW B 0 _ _ hK h0 lit1
  have h2 := lit_round KW B 1 _ _ hK h1 lit2
  have h3 := lit_round KW B 2 _ _ hK h2 lit3
  have h4 := lit_round KW B 3 _ _ hK h3 lit4
  have h5 := lit_round KW B 4 _ _ hK h4 lit5
  have h6 := lit_round KW B 5 _ _ hK h5 lit6
  have h7 := lit_round KW B 6 _ _ hK h6 lit7
  have h8 := lit_round KW B 7 _ _ hK h7 lit8
  have h9 := lit_round KW B 8 _ _ hK h8 lit9
  rw [← lit10 i hi, ← hK]
  show sh (rnds KW B 9) i ^^^ _ = _
  rw [sh_congr h9 i (by omega)]
end Go.Proofs.Ytohjnhekkifhbab
