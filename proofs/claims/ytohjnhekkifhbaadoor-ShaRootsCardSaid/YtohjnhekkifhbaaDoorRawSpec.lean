/- Digits and their bytes: plain lists, no program. -/
import Derived.Test.YtohjnhekkifhbaaDoorHex
namespace Go.Proofs.YtohjnhekkifhbaaDoor

def digV (c : Nat) : Option Nat := if 48 ≤ c ∧ c ≤ 57 then some (c - 48) else if 97 ≤ c ∧ c ≤ 102 then some (c - 87) else none
def pairV (a b : Nat) : Option Nat := match digV a, digV b with
  | some x, some y => some (16 * x + y)
  | _, _ => none
def rawOf : List UInt8 → Option (List UInt8)
  | [] => some []
  | [_] => none
  | a :: b :: r => match pairV a.toNat b.toNat with
    | some v => (rawOf r).map (UInt8.ofNat v :: ·)
    | none => none

theorem take_two (s : ByteArray) (j : Nat) (h : j + 1 < s.size) : s.data.toList.take (j + 2) = s.data.toList.take j ++ [s[j], s[j + 1]] := by
  rw [take_snoc s (j + 1) h, take_snoc s j (by omega)]; simp
theorem split_two (s : ByteArray) (j : Nat) (h : j + 1 < s.size) : s.data.toList = s.data.toList.take j ++ (s[j] :: s[j + 1] :: s.data.toList.drop (j + 2)) := by
  have := List.take_append_drop (j + 2) s.data.toList
  rw [take_two s j h] at this
  rw [List.append_assoc] at this; exact this.symm

theorem digV_lt {c x : Nat} (h : digV c = some x) : x < 16 := by
  unfold digV at h; split at h
  · simp at h; omega
  · split at h
    · simp at h; omega
    · cases h
theorem pairV_lt {a b x : Nat} (h : pairV a b = some x) : x < 256 := by
  unfold pairV at h; split at h
  · rename_i p q ha hb
    have := digV_lt ha; have := digV_lt hb
    simp at h; omega
  · cases h

theorem rawOf_append : ∀ (p q : List UInt8), p.length % 2 = 0 → rawOf (p ++ q) = (rawOf p).bind fun l => (rawOf q).map (l ++ ·)
  | [], q, _ => by simp [rawOf]
  | [_], q, h => by simp at h
  | a :: b :: r, q, h => by
    have ih := rawOf_append r q (by simp at h; omega)
    simp only [List.cons_append, rawOf]
    cases pairV a.toNat b.toNat with
    | none => rfl
    | some v => simp only [ih]; cases rawOf r <;> cases rawOf q <;> simp
theorem rawOf_length : ∀ (p l : List UInt8), rawOf p = some l → p.length = 2 * l.length
  | [], l, h => by simp [rawOf] at h; subst h; rfl
  | [_], l, h => by simp [rawOf] at h
  | a :: b :: r, l, h => by
    simp only [rawOf] at h
    cases hp : pairV a.toNat b.toNat with
    | none => simp [hp] at h
    | some v =>
      simp only [hp] at h
      cases hr : rawOf r with
      | none => simp [hr] at h
      | some l' =>
        have := rawOf_length r l' hr
        simp [hr] at h; subst h; simp; omega
theorem rawOf_odd (p : List UInt8) (h : p.length % 2 = 1) : rawOf p = none := by
  cases hr : rawOf p with
  | none => rfl
  | some l => have := rawOf_length p l hr; omega

theorem hexDig_digV (i a : Nat) (hi : i < 16) (ha : a < 256) : (hexDig i = UInt8.ofNat a) ↔ digV a = some i := by
  have : ∀ i, i < 16 → ∀ a, a < 256 → ((hexDig i = UInt8.ofNat a) ↔ digV a = some i) := by decide +kernel
  exact this i hi a ha
theorem hex_pair (k : Nat) (hk : k < 256) (a b : UInt8) : (hexOf [UInt8.ofNat k] == [a, b]) = decide (pairV a.toNat b.toNat = some k) := by
  have h1 := hexDig_digV (k / 16) a.toNat (by omega) a.toNat_lt
  have h2 := hexDig_digV (k % 16) b.toNat (by omega) b.toNat_lt
  have hk' : (UInt8.ofNat k).toNat = k := by simp; omega
  rw [Bool.eq_iff_iff]
  simp only [hexOf, List.flatMap_cons, List.flatMap_nil, List.append_nil, hk', beq_iff_eq, List.cons.injEq, and_true, decide_eq_true_eq]
  simp only [UInt8.ofNat_toNat] at h1 h2
  rw [h1, h2]
  unfold pairV
  constructor
  · rintro ⟨ha, hb⟩; rw [ha, hb]; simp; omega
  · intro h
    split at h
    · rename_i x y hx hy
      have := digV_lt hx; have := digV_lt hy
      simp at h
      rw [hx, hy]; simp; omega
    · cases h
theorem hexDig_digit (i : Nat) (hi : i < 16) : digV (hexDig i).toNat = some i := by
  have : ∀ i, i < 16 → digV (hexDig i).toNat = some i := by decide +kernel
  exact this i hi
theorem rawOf_hexOf (l : List UInt8) : rawOf (hexOf l) = some l := by
  induction l with
  | nil => rfl
  | cons c l ih =>
    have hc := c.toNat_lt
    have : pairV (hexDig (c.toNat / 16)).toNat (hexDig (c.toNat % 16)).toNat = some c.toNat := by
      unfold pairV; rw [hexDig_digit _ (by omega), hexDig_digit _ (by omega)]; simp; omega
    show rawOf (hexDig (c.toNat / 16) :: hexDig (c.toNat % 16) :: hexOf l) = _
    simp only [rawOf, this, ih]; simp
theorem hexOf_rawOf : ∀ (p l : List UInt8), rawOf p = some l → hexOf l = p
  | [], l, h => by simp [rawOf] at h; subst h; rfl
  | [_], l, h => by simp [rawOf] at h
  | a :: b :: r, l, h => by
    simp only [rawOf] at h
    cases hp : pairV a.toNat b.toNat with
    | none => simp [hp] at h
    | some v =>
      simp only [hp] at h
      cases hr : rawOf r with
      | none => simp [hr] at h
      | some l' =>
        have ih := hexOf_rawOf r l' hr
        simp [hr] at h; subst h
        have h2 := hex_pair v (pairV_lt hp) a b
        rw [hp] at h2; simp at h2
        show hexOf ([UInt8.ofNat v] ++ l') = _
        unfold hexOf at h2 ih ⊢
        rw [List.flatMap_append, h2, ih]; rfl
end Go.Proofs.YtohjnhekkifhbaaDoor
