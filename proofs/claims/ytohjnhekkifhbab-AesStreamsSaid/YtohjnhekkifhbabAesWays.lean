/- A block under a key tells the block: no program. -/
import Derived.Test.YtohjnhekkifhbabAesSpec
namespace Go.Proofs.Ytohjnhekkifhbab

theorem mx_at (B : Nat → UInt8) (c r : Nat) (hr : r < 4) :
    mx B (4 * c + r) = mxAt (B (4 * c + r)) (B (4 * c + (r + 1) % 4)) (B (4 * c + (r + 2) % 4)) (B (4 * c + (r + 3) % 4)) := by
  have e : (4 * c + r) / 4 * 4 = 4 * c := by omega
  have e1 : (4 * c + r + 1) % 4 = (r + 1) % 4 := by omega
  unfold mx mxAt
  rw [e, e1]
  have : r = 0 ∨ r = 1 ∨ r = 2 ∨ r = 3 := by omega
  rcases this with rfl | rfl | rfl | rfl
  all_goals
    simp only [Nat.add_zero, Nat.zero_add, Nat.reduceAdd, Nat.reduceMod]
    try (congr 1; ac_rfl)
def q4 (b : UInt8) : UInt8 := dbl (dbl b)
theorem q4_xor (a b : UInt8) : q4 (a ^^^ b) = q4 a ^^^ q4 b := by unfold q4; rw [dbl_xor, dbl_xor]
theorem mx2_at (B : Nat → UInt8) (c r : Nat) (hr : r < 4) : mx (mx B) (4 * c + r) = B (4 * c + r) ^^^ q4 (B (4 * c + r) ^^^ B (4 * c + (r + 2) % 4)) := by
  rw [mx_at (mx B) c r hr, mx_at B c r hr, mx_at B c ((r + 1) % 4) (by omega), mx_at B c ((r + 2) % 4) (by omega), mx_at B c ((r + 3) % 4) (by omega)]
  have : r = 0 ∨ r = 1 ∨ r = 2 ∨ r = 3 := by omega
  rcases this with rfl | rfl | rfl | rfl
  all_goals
    simp only [Nat.add_zero, Nat.zero_add, Nat.reduceAdd, Nat.reduceMod]
    exact mm _ _ _ _
theorem mx4_at (B : Nat → UInt8) (c r : Nat) (hr : r < 4) : mx (mx (mx (mx B))) (4 * c + r) = B (4 * c + r) := by
  rw [mx2_at (mx (mx B)) c r hr, mx2_at B c r hr, mx2_at B c ((r + 2) % 4) (by omega)]
  have e : ((r + 2) % 4 + 2) % 4 = r := by omega
  rw [e]
  generalize B (4 * c + r) = a
  generalize B (4 * c + (r + 2) % 4) = b
  simp only [q4_xor]
  have l : ∀ x y z : UInt8, x ^^^ (y ^^^ z) = y ^^^ (x ^^^ z) := fun x y z => by ac_rfl
  have e : ∀ x : UInt8, ∀ y : UInt8, x ^^^ (x ^^^ y) = y := fun x y => by rw [← UInt8.xor_assoc, UInt8.xor_self, UInt8.zero_xor]
  generalize q4 (q4 a) = a2
  generalize q4 (q4 b) = b2
  generalize q4 a = a1
  generalize q4 b = b1
  simp only [l, e, UInt8.xor_self, UInt8.xor_zero, UInt8.xor_comm]
theorem mx_congr {B C : Nat → UInt8} (h : ∀ i, i < 16 → B i = C i) : ∀ i, i < 16 → mx B i = mx C i := fun i hi => by
  unfold mx
  rw [h i hi, h _ (show i / 4 * 4 < 16 by omega), h _ (show i / 4 * 4 + 1 < 16 by omega), h _ (show i / 4 * 4 + 2 < 16 by omega), h _ (show i / 4 * 4 + 3 < 16 by omega), h _ (show i / 4 * 4 + (i + 1) % 4 < 16 by omega)]
theorem mx_inj {B C : Nat → UInt8} (h : ∀ i, i < 16 → mx B i = mx C i) : ∀ i, i < 16 → B i = C i := fun i hi => by
  have h4 := mx_congr (mx_congr (mx_congr h)) i hi
  have e : 4 * (i / 4) + i % 4 = i := by omega
  have hb := mx4_at B (i / 4) (i % 4) (by omega)
  have hc := mx4_at C (i / 4) (i % 4) (by omega)
  rw [e] at hb hc
  rw [← hb, ← hc]; exact h4
theorem rnds_inj (KW : Nat → UInt8) {B C : Nat → UInt8} : ∀ r, (∀ i, i < 16 → rnds KW B r i = rnds KW C r i) → ∀ i, i < 16 → B i = C i
  | 0, h => ad_inj h
  | r + 1, h => rnds_inj KW r (sh_inj (mx_inj (ad_inj h)))
theorem enc_inj (KW : Nat → UInt8) {B C : Nat → UInt8} (h : ∀ i, i < 16 → enc KW B i = enc KW C i) : ∀ i, i < 16 → B i = C i :=
  rnds_inj KW 9 (sh_inj (ad_inj h))
theorem sh_congr {B C : Nat → UInt8} (h : ∀ i, i < 16 → B i = C i) : ∀ i, i < 16 → sh B i = sh C i := fun i _ => by
  unfold sh; rw [h _ (by omega)]
theorem ad_congr {KW : Nat → UInt8} {r : Nat} {B C : Nat → UInt8} (h : ∀ i, i < 16 → B i = C i) : ∀ i, i < 16 → ad KW r B i = ad KW r C i := fun i hi => by
  unfold ad; rw [h i hi]
theorem rnds_congr (KW : Nat → UInt8) {B C : Nat → UInt8} (h : ∀ i, i < 16 → B i = C i) : ∀ r i, i < 16 → rnds KW B r i = rnds KW C r i
  | 0 => ad_congr h
  | r + 1 => ad_congr (mx_congr (sh_congr (rnds_congr KW h r)))
theorem enc_congr (KW : Nat → UInt8) {B C : Nat → UInt8} (h : ∀ i, i < 16 → B i = C i) : ∀ i, i < 16 → enc KW B i = enc KW C i := ad_congr (sh_congr (rnds_congr KW h 9))
end Go.Proofs.Ytohjnhekkifhbab
