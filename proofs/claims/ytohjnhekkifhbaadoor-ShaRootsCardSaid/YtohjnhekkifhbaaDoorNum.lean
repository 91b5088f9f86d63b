/- Numbers as lists of digits to the base 10000: no program. -/
import Derived.Test.YtohjnhekkifhbaaDoorLib
namespace Go.Proofs.YtohjnhekkifhbaaDoor

def val : List Nat → Nat
  | [] => 0
  | d :: l => d + 10000 * val l
structure Canon (l : List Nat) : Prop where
  dig : ∀ d ∈ l, d < 10000
  top : ∀ d, l.getLast? = some d → d ≠ 0
theorem val_append (a b : List Nat) : val (a ++ b) = val a + 10000 ^ a.length * val b := by
  induction a with
  | nil => simp [val]
  | cons d a ih =>
    simp only [List.cons_append, val, List.length_cons, ih, Nat.pow_succ, Nat.mul_add]
    have : 10000 * (10000 ^ a.length * val b) = 10000 ^ a.length * 10000 * val b := by rw [Nat.mul_comm (10000 ^ a.length) 10000, Nat.mul_assoc]
    omega
theorem val_lt (l : List Nat) (h : ∀ d ∈ l, d < 10000) : val l < 10000 ^ l.length := by
  induction l with
  | nil => simp [val]
  | cons d l ih =>
    have h1 := ih (fun x hx => h x (List.mem_cons_of_mem _ hx))
    have h2 := h d (List.mem_cons_self ..)
    simp only [val, List.length_cons, Nat.pow_succ]
    omega
theorem Canon.le {l : List Nat} (h : Canon l) (hl : l ≠ []) : 10000 ^ (l.length - 1) ≤ val l := by
  obtain ⟨a, d, rfl⟩ : ∃ a d, l = a ++ [d] := ⟨l.dropLast, l.getLast hl, (List.dropLast_concat_getLast hl).symm⟩
  have hd : d ≠ 0 := h.top d (by simp)
  rw [val_append]
  simp only [List.length_append, List.length_cons, List.length_nil, Nat.zero_add, Nat.add_sub_cancel, val, Nat.mul_zero, Nat.add_zero]
  have : 10000 ^ a.length * 1 ≤ 10000 ^ a.length * d := Nat.mul_le_mul_left _ (by omega)
  omega
theorem Canon.len_lt {a b : List Nat} (ha : Canon a) (hb : Canon b) (h : a.length < b.length) : val a < val b := by
  have h1 := val_lt a ha.dig
  have h2 := hb.le (by intro e; subst e; simp at h)
  have h3 : 10000 ^ a.length ≤ 10000 ^ (b.length - 1) := Nat.pow_le_pow_right (by omega) (by omega)
  omega
/-- Of two numbers of one length the first digit from above at which they part decides. -/
theorem val_digit {a b : List Nat} (ha : ∀ d ∈ a, d < 10000) (hl : a.length = b.length) (i : Nat) (hi : i < a.length)
    (hab : ∀ j, i < j → j < a.length → a.getD j 0 = b.getD j 0) (h : a.getD i 0 < b.getD i 0) : val a < val b := by
  have hib : i < b.length := by omega
  have e1 : a = a.take i ++ a.getD i 0 :: a.drop (i + 1) := by
    have : a.getD i 0 = a[i] := by simp [List.getD, hi]
    rw [this, ← List.drop_eq_getElem_cons hi, List.take_append_drop]
  have e2 : b = b.take i ++ b.getD i 0 :: b.drop (i + 1) := by
    have : b.getD i 0 = b[i] := by simp [List.getD, hib]
    rw [this, ← List.drop_eq_getElem_cons hib, List.take_append_drop]
  have e3 : a.drop (i + 1) = b.drop (i + 1) := by
    apply List.ext_getElem (by simp; omega)
    intro j h1 h2
    simp at h1 h2
    have := hab (i + 1 + j) (by omega) (by omega)
    simpa [List.getD, show i + 1 + j < a.length by omega, show i + 1 + j < b.length by omega] using this
  have v1 : val a = val (a.take i) + 10000 ^ i * (a.getD i 0 + 10000 * val (a.drop (i + 1))) := by
    conv => lhs; rw [e1]
    rw [val_append, List.length_take, Nat.min_eq_left (by omega)]; rfl
  have v2 : val b = val (b.take i) + 10000 ^ i * (b.getD i 0 + 10000 * val (b.drop (i + 1))) := by
    conv => lhs; rw [e2]
    rw [val_append, List.length_take, Nat.min_eq_left (by omega)]; rfl
  have t1 := val_lt (a.take i) (fun d hd => ha d (List.mem_of_mem_take hd))
  rw [List.length_take, Nat.min_eq_left (by omega)] at t1
  rw [v1, v2, e3]
  generalize 10000 * val (b.drop (i + 1)) = m
  have : 10000 ^ i * (a.getD i 0 + m + 1) ≤ 10000 ^ i * (b.getD i 0 + m) := Nat.mul_le_mul_left _ (by omega)
  rw [Nat.mul_add, Nat.mul_one] at this
  omega

/-- The value of the first n of the digits f. -/
def valF (f : Nat → Nat) : Nat → Nat
  | 0 => 0
  | n + 1 => valF f n + f n * 10000 ^ n
theorem valF_congr {f g : Nat → Nat} : ∀ n, (∀ k, k < n → f k = g k) → valF f n = valF g n
  | 0, _ => rfl
  | n + 1, h => by unfold valF; rw [valF_congr n (fun k hk => h k (by omega)), h n (by omega)]
theorem valF_add {f g : Nat → Nat} {i x : Nat} (hg : ∀ k, g k = if k = i then f i + x else f k) : ∀ n, i < n → valF g n = valF f n + x * 10000 ^ i
  | 0, h => by omega
  | n + 1, h => by
    unfold valF
    by_cases hn : n = i
    · subst hn
      rw [valF_congr (f := g) (g := f) n (fun k hk => by rw [hg k, if_neg (by omega)]), hg n, if_pos rfl, Nat.add_mul]; omega
    · rw [valF_add hg n (by omega), hg n, if_neg hn]; omega
theorem valF_zero {f : Nat → Nat} (h : ∀ k, f k = 0) : ∀ n, valF f n = 0
  | 0 => rfl
  | n + 1 => by unfold valF; rw [valF_zero h n, h n]; simp
theorem valF_drop {f : Nat → Nat} (m : Nat) : ∀ n, m ≤ n → (∀ k, m ≤ k → k < n → f k = 0) → valF f n = valF f m
  | 0, h, _ => by rw [show m = 0 by omega]
  | n + 1, h, h2 => by
    by_cases e : m = n + 1
    · rw [e]
    · show valF f n + f n * 10000 ^ n = _
      rw [valF_drop m n (by omega) (fun k h3 h4 => h2 k h3 (by omega)), h2 n (by omega) (by omega)]; simp
theorem valF_succ (f : Nat → Nat) : ∀ n, valF f (n + 1) = f 0 + 10000 * valF (fun k => f (k + 1)) n
  | 0 => by simp [valF]
  | n + 1 => by
    have ih := valF_succ f n
    have e1 : valF f (n + 1 + 1) = valF f (n + 1) + f (n + 1) * 10000 ^ (n + 1) := rfl
    have e2 : valF (fun k => f (k + 1)) (n + 1) = valF (fun k => f (k + 1)) n + f (n + 1) * 10000 ^ n := rfl
    rw [e1, ih, e2, Nat.mul_add, Nat.pow_succ]
    have : 10000 * (f (n + 1) * 10000 ^ n) = f (n + 1) * (10000 ^ n * 10000) := by rw [Nat.mul_comm 10000, Nat.mul_assoc]
    omega
theorem valF_list : ∀ l : List Nat, valF (fun k => l.getD k 0) l.length = val l
  | [] => rfl
  | d :: l => by
    rw [List.length_cons, valF_succ]
    have ih := valF_list l
    simp only [List.getD_cons_zero, List.getD_cons_succ, val]
    rw [ih]
theorem valF_range (f : Nat → Nat) (m : Nat) : val ((List.range m).map f) = valF f m := by
  rw [← valF_list]
  rw [show ((List.range m).map f).length = m by simp]
  exact valF_congr m (fun k hk => by simp [List.getD, hk])
theorem valF_ge {f : Nat → Nat} {i : Nat} : ∀ n, i < n → f i * 10000 ^ i ≤ valF f n
  | 0, h => by omega
  | n + 1, h => by
    unfold valF
    by_cases hn : i = n
    · subst hn; omega
    · have := valF_ge (f := f) (i := i) n (by omega); omega
/-- What is carried on leaves the value. -/
theorem valF_carry {f g : Nat → Nat} {i : Nat} (hi : 0 < i) (hg : ∀ k, g k = if k = i then f i + f (i - 1) / 10000 else if k = i - 1 then f (i - 1) % 10000 else f k) : ∀ n, i < n → valF g n = valF f n
  | 0, h => by omega
  | n + 1, h => by
    unfold valF
    by_cases hn : n = i
    · subst hn
      obtain ⟨m, rfl⟩ : ∃ m, n = m + 1 := ⟨n - 1, by omega⟩
      unfold valF
      have e1 : valF g m = valF f m := valF_congr m (fun k hk => by rw [hg k, if_neg (by omega), if_neg (by omega)])
      have e2 : g m = f m % 10000 := by rw [hg m, if_neg (by omega), if_pos (by omega)]; rfl
      have e3 : g (m + 1) = f (m + 1) + f m / 10000 := by rw [hg (m + 1), if_pos rfl]; rfl
      rw [e1, e2, e3, Nat.pow_succ, Nat.add_mul]
      have h1 := Nat.div_add_mod (f m) 10000
      have h2 : f m * 10000 ^ m = f m / 10000 * (10000 ^ m * 10000) + f m % 10000 * 10000 ^ m := by
        conv => lhs; rw [← h1]
        rw [Nat.add_mul, Nat.mul_comm 10000 (f m / 10000), Nat.mul_assoc, Nat.mul_comm 10000 (10000 ^ m)]
      omega
    · rw [valF_carry hi hg n (by omega), hg n, if_neg hn, if_neg (by omega)]
theorem canon_range {f : Nat → Nat} {m : Nat} (hd : ∀ k, k < m → f k < 10000) (ht : 0 < m → f (m - 1) ≠ 0) : Canon ((List.range m).map f) := by
  refine ⟨fun d hd' => ?_, fun d hd' => ?_⟩
  · obtain ⟨k, hk, rfl⟩ := List.mem_map.1 hd'
    exact hd k (List.mem_range.1 hk)
  · cases m with
    | zero => simp at hd'
    | succ m =>
      rw [List.range_succ, List.map_append] at hd'
      simp at hd'
      subst hd'
      simpa using ht (by omega)
theorem len_le {l : List Nat} {n k : Nat} (h : Canon l) (hv : val l = n) (hn : n < 10000 ^ k) : l.length ≤ k := by
  by_cases hl : l = []
  · subst hl; simp
  · have h1 := h.le hl
    by_cases hk : l.length ≤ k
    · exact hk
    · have : 10000 ^ k ≤ 10000 ^ (l.length - 1) := Nat.pow_le_pow_right (by omega) (by omega)
      omega

/-! The roots. -/
def gr (M w : Nat) : Nat → Nat → Nat
  | 0, x => x
  | k + 1, x => gr M w k (if (x + 2 ^ k) ^ w ≤ M then x + 2 ^ k else x)
def root (p w : Nat) : Nat := gr (p * 4294967296 ^ w) w 37 0
def allG (p : Nat) : Nat → Bool
  | 0 => true
  | k + 1 => allG p k && decide (0 < p % (k + 2))
def outF (w : Nat) : Nat → List Nat
  | 0 => []
  | k + 1 => if allG (k + 2) k then outF w k ++ [root (k + 2) w % 4294967296] else outF w k
theorem outF_prefix (w k : Nat) : ∀ m, outF w k <+: outF w (k + m)
  | 0 => List.prefix_refl _
  | m + 1 => by
    refine (outF_prefix w k m).trans ?_
    show _ <+: (if allG (k + m + 2) (k + m) then outF w (k + m) ++ [root (k + m + 2) w % 4294967296] else outF w (k + m))
    split
    · exact List.prefix_append _ _
    · exact List.prefix_refl _
theorem outF_same (w a b : Nat) (h : (outF w a).length = (outF w b).length) : outF w a = outF w b := by
  rcases Nat.le_total a b with hab | hab
  · obtain ⟨m, rfl⟩ := Nat.exists_eq_add_of_le hab
    exact (outF_prefix w a m).eq_of_length h
  · obtain ⟨m, rfl⟩ := Nat.exists_eq_add_of_le hab
    exact ((outF_prefix w b m).eq_of_length h.symm).symm
theorem outF_mono (w a b : Nat) (h : a ≤ b) : (outF w a).length ≤ (outF w b).length := by
  obtain ⟨m, rfl⟩ := Nat.exists_eq_add_of_le h
  exact (outF_prefix w a m).length_le
end Go.Proofs.YtohjnhekkifhbaaDoor
