/- Nodes as forests, their bytes, and how bytes are read: plain mathematics, over no program. -/
import Derived.WalkKit
namespace Go.Proofs.Ytgdlnjhbencjkaa

/-- Lists of nodes: a node's kind, number, text and kids; what stands behind it. -/
inductive F where
  | nil
  | cons (k n : Int) (s : ByteArray) (kids rest : F)

structure Nd where
  k : Int
  n : Int
  s : ByteArray
  kids : F

def F.len : F → Nat
  | .nil => 0
  | .cons _ _ _ _ r => r.len + 1
def F.deep : F → Nat
  | .nil => 0
  | .cons _ _ _ c r => max (c.deep + 1) r.deep
def F.size : F → Nat
  | .nil => 0
  | .cons _ _ _ c r => c.size + r.size + 1

def szL (n : Nat) : List UInt8 := if n < 128 then [UInt8.ofNat n] else UInt8.ofNat (n % 128 + 128) :: szL (n / 128)
termination_by n
def numL (n : Nat) : List UInt8 := if n = 0 then [] else numL (n / 256) ++ [UInt8.ofNat (n % 256)]
termination_by n
theorem szL_lt {n : Nat} (h : n < 128) : szL n = [UInt8.ofNat n] := by rw [szL, if_pos h]
theorem szL_ge {n : Nat} (h : 128 ≤ n) : szL n = UInt8.ofNat (n % 128 + 128) :: szL (n / 128) := by rw [szL, if_neg (by omega)]
theorem numL_zero : numL 0 = [] := by rw [numL, if_pos rfl]
theorem numL_pos {n : Nat} (h : 0 < n) : numL n = numL (n / 256) ++ [UInt8.ofNat (n % 256)] := by rw [numL, if_neg (by omega)]

def nodeL (k n : Int) (s : ByteArray) (len : Nat) (kb : List UInt8) : List UInt8 :=
  if k = 0 then 110 :: (szL (numL n.toNat).length ++ numL n.toNat)
  else if k = 1 then 115 :: (szL s.size ++ s.data.toList)
  else 108 :: (szL len ++ kb)
def F.bytes : F → List UInt8
  | .nil => []
  | .cons k n s c r => nodeL k n s c.len c.bytes ++ r.bytes
def Nd.bytes (x : Nd) : List UInt8 := nodeL x.k x.n x.s x.kids.len x.kids.bytes

def plainB (k n : Int) (s : ByteArray) (len : Nat) : Bool :=
  if k = 0 then s.size == 0 && len == 0 else if k = 1 then n == 0 && len == 0 else k == 2 && n == 0 && s.size == 0
def F.right : F → Nat → Bool
  | .nil, _ => true
  | .cons k n s c r, d => plainB k n s c.len && (decide (0 < d) && (c.right (d - 1) && r.right d))
def Nd.right (x : Nd) (d : Nat) : Bool := plainB x.k x.n x.s x.kids.len && (decide (0 < d) && x.kids.right (d - 1))
def F.plain : F → Bool
  | .nil => true
  | .cons k n s c r => plainB k n s c.len && (c.plain && r.plain)
def F.ok : F → Prop
  | .nil => True
  | .cons _ n s c r => (0 ≤ n ∧ n < 18446744073709551616) ∧ s.size < 268435456 ∧ c.len < 268435456 ∧ c.ok ∧ r.ok
def Nd.ok (x : Nd) : Prop := (0 ≤ x.n ∧ x.n < 18446744073709551616) ∧ x.s.size < 268435456 ∧ x.kids.len < 268435456 ∧ x.kids.ok

theorem F.len_zero {f : F} (h : f.len = 0) : f = .nil := by cases f <;> simp [F.len] at h ⊢
theorem right_iff : ∀ (f : F) (d : Nat), f.right d = (decide (f.deep ≤ d) && f.plain)
  | .nil, d => by simp [F.right, F.deep, F.plain]
  | .cons k n s c r, d => by
    rw [F.right, right_iff c, right_iff r, F.deep, F.plain]
    rw [Bool.eq_iff_iff]
    simp only [Bool.and_eq_true, decide_eq_true_eq]
    constructor
    · rintro ⟨h1, h2, ⟨h3, h4⟩, h5, h6⟩; exact ⟨by omega, h1, h4, h6⟩
    · rintro ⟨h1, h2, h3, h4⟩; exact ⟨h2, by omega, ⟨by omega, h3⟩, by omega, h4⟩

/-! ### numbers -/
def valB (l : List UInt8) : Nat := l.foldl (fun a b => a * 256 + b.toNat) 0
theorem valB_snoc (l : List UInt8) (b : UInt8) : valB (l ++ [b]) = valB l * 256 + b.toNat := by simp [valB]
theorem ofNat_toNat (n : Nat) (h : n < 256) : (UInt8.ofNat n).toNat = n := by simp; omega
theorem valB_numL (n : Nat) : valB (numL n) = n := by
  induction n using Nat.strongRecOn with
  | _ n ih =>
    by_cases h : n = 0
    · subst h; rw [numL_zero]; rfl
    · rw [numL_pos (by omega), valB_snoc, ih _ (by omega), ofNat_toNat _ (by omega)]; omega
theorem numL_len (n k : Nat) (h : n < 256 ^ k) : (numL n).length ≤ k := by
  induction k generalizing n with
  | zero => simp at h; subst h; rw [numL_zero]; simp
  | succ k ih =>
    by_cases h0 : n = 0
    · subst h0; rw [numL_zero]; simp
    · rw [numL_pos (by omega)]; have := ih (n / 256) (by rw [Nat.pow_succ] at h; omega); simp; omega
theorem numL_head (n : Nat) : (numL n).head? ≠ some 0 := by
  induction n using Nat.strongRecOn with
  | _ n ih =>
    by_cases h : n = 0
    · subst h; rw [numL_zero]; simp
    · rw [numL_pos (by omega)]
      by_cases h1 : n < 256
      · have : n / 256 = 0 := by omega
        rw [this, numL_zero]
        simp
        intro hc
        have := congrArg UInt8.toNat hc
        simp at this; omega
      · have := ih (n / 256) (by omega)
        cases hq : numL (n / 256) with
        | nil =>
          have e := valB_numL (n / 256); rw [hq] at e; simp [valB] at e; omega
        | cons a l => rw [hq] at this; simpa using this
theorem valB_lt (l : List UInt8) : valB l < 256 ^ l.length := by
  have H : ∀ (m : List UInt8), valB m.reverse < 256 ^ m.length := by
    intro m
    induction m with
    | nil => simp [valB]
    | cons b m ih => rw [List.reverse_cons, valB_snoc, List.length_cons, Nat.pow_succ]; have := b.toNat_lt; omega
  have := H l.reverse
  simpa using this
theorem numL_valB (l : List UInt8) (h : l.head? ≠ some 0) : numL (valB l) = l := by
  have H : ∀ (m : List UInt8), m.reverse.head? ≠ some 0 → numL (valB m.reverse) = m.reverse ∧ (m ≠ [] → 0 < valB m.reverse) := by
    intro m
    induction m with
    | nil => intro _; exact ⟨by simp [valB, numL_zero], by simp⟩
    | cons b m ih =>
      intro hh
      rw [List.reverse_cons] at hh ⊢
      rw [valB_snoc]
      have hb := b.toNat_lt
      by_cases hm : m = []
      · subst hm
        simp at hh
        have h0 : 0 < b.toNat := by
          rcases Nat.eq_zero_or_pos b.toNat with h0 | h0
          · exact absurd (UInt8.toNat_inj.1 (by simpa using h0)) hh
          · exact h0
        refine ⟨?_, fun _ => by simp [valB]; omega⟩
        simp only [valB, List.reverse_nil, List.foldl_nil, Nat.zero_mul, Nat.zero_add, List.nil_append]
        rw [numL_pos h0, show b.toNat / 256 = 0 by omega, numL_zero, Nat.mod_eq_of_lt hb]
        simp
      · have hr : m.reverse.head? ≠ some 0 := by
          cases hq : m.reverse with
          | nil => simp at hq; exact absurd hq hm
          | cons a t => rw [hq] at hh; simpa using hh
        obtain ⟨h1, h2⟩ := ih hr
        have h2 := h2 hm
        refine ⟨?_, fun _ => by omega⟩
        rw [numL_pos (by omega), show (valB m.reverse * 256 + b.toNat) / 256 = valB m.reverse by omega, show (valB m.reverse * 256 + b.toNat) % 256 = b.toNat by omega, h1]
        simp
  have := (H l.reverse (by simpa using h)).1
  simpa using this

/-! ### how bytes are read -/
def szP : Nat → List UInt8 → Option (Nat × List UInt8)
  | 0, _ => none
  | _ + 1, [] => none
  | f + 1, c :: r => if c.toNat < 128 then some (c.toNat, r) else
      match szP f r with
      | none => none
      | some (m, q) => if m = 0 then none else some (c.toNat % 128 + 128 * m, q)
def numP (m : Nat) (l : List UInt8) : Option (Int × List UInt8) :=
  if 8 < m ∨ l.length < m ∨ (0 < m ∧ l.head? = some 0) then none else some ((valB (l.take m) : Int), l.drop m)
def txtP (m : Nat) (l : List UInt8) : Option (ByteArray × List UInt8) :=
  if l.length < m then none else some (⟨(l.take m).toArray⟩, l.drop m)
def kidsP (p : List UInt8 → Option (Nd × List UInt8)) : Nat → List UInt8 → Option (F × List UInt8)
  | 0, l => some (.nil, l)
  | m + 1, l => match p l with
    | none => none
    | some (x, q) => match kidsP p m q with
      | none => none
      | some (f, t) => some (.cons x.k x.n x.s x.kids f, t)
def bodyP (p : List UInt8 → Option (Nd × List UInt8)) (c : UInt8) (m : Nat) (q : List UInt8) : Option (Nd × List UInt8) :=
  if c.toNat = 110 then (match numP m q with | none => none | some (n, t) => some (⟨0, n, ⟨#[]⟩, .nil⟩, t))
  else if c.toNat = 115 then (match txtP m q with | none => none | some (s, t) => some (⟨1, 0, s, .nil⟩, t))
  else if c.toNat = 108 then (match kidsP p m q with | none => none | some (f, t) => some (⟨2, 0, ⟨#[]⟩, f⟩, t))
  else none
def parse : Nat → List UInt8 → Option (Nd × List UInt8)
  | 0, _ => none
  | _ + 1, [] => none
  | d + 1, c :: r => match szP 4 r with
    | none => none
    | some (m, q) => bodyP (parse d) c m q

theorem szP_szL (f n : Nat) (r : List UInt8) (hf : 0 < f) (h : n < 128 ^ f) : szP f (szL n ++ r) = some (n, r) := by
  induction f generalizing n with
  | zero => omega
  | succ f ih =>
    by_cases h1 : n < 128
    · rw [szL_lt h1, List.singleton_append, szP, ofNat_toNat _ (by omega), if_pos h1]
    · rw [szL_ge (by omega)]
      have hf : 0 < f := by
        rcases Nat.eq_zero_or_pos f with h0 | h0
        · subst h0; simp at h; omega
        · exact h0
      simp only [List.cons_append, szP]
      rw [ofNat_toNat _ (by omega), if_neg (by omega), ih (n / 128) hf (by rw [Nat.pow_succ] at h; omega)]
      simp only []
      rw [if_neg (by omega)]
      congr 2; omega
theorem szP_inv (f : Nat) (l : List UInt8) (n : Nat) (r : List UInt8) (h : szP f l = some (n, r)) : l = szL n ++ r ∧ n < 128 ^ f := by
  induction f generalizing l n with
  | zero => simp [szP] at h
  | succ f ih =>
    cases l with
    | nil => simp [szP] at h
    | cons c l =>
      rw [szP] at h
      have hc := c.toNat_lt
      split at h
      · rename_i h1
        simp at h
        obtain ⟨rfl, rfl⟩ := h
        exact ⟨by rw [szL_lt h1]; simp, by rw [Nat.pow_succ]; have h0 : 0 < 128 ^ f := Nat.pow_pos (by decide); omega⟩
      · rename_i h1
        cases hq : szP f l with
        | none => rw [hq] at h; simp at h
        | some p =>
          obtain ⟨m, q⟩ := p
          rw [hq] at h
          simp only [] at h
          split at h
          · simp at h
          · rename_i h2
            simp at h
            obtain ⟨rfl, rfl⟩ := h
            obtain ⟨e1, e2⟩ := ih l m hq
            refine ⟨?_, by rw [Nat.pow_succ]; omega⟩
            rw [szL_ge (by omega), show (c.toNat % 128 + 128 * m) / 128 = m by omega, show (c.toNat % 128 + 128 * m) % 128 + 128 = c.toNat by omega]
            simp; exact e1

theorem numP_numL (n : Nat) (r : List UInt8) (h : n < 256 ^ 8) : numP (numL n).length (numL n ++ r) = some ((n : Int), r) := by
  have h1 := numL_len n 8 h
  rw [numP, if_neg]
  · simp [valB_numL]
  · rintro (h2 | h2 | ⟨h2, h3⟩)
    · omega
    · simp at h2; omega
    · have := numL_head n
      cases hq : numL n with
      | nil => rw [hq] at h2; simp at h2
      | cons a l => rw [hq] at h3 this; simp at h3 this; exact this h3
theorem numP_inv (m : Nat) (l : List UInt8) (n : Int) (r : List UInt8) (h : numP m l = some (n, r)) : 0 ≤ n ∧ n < 18446744073709551616 ∧ m = (numL n.toNat).length ∧ l = numL n.toNat ++ r := by
  rw [numP] at h
  split at h
  · simp at h
  · rename_i hc
    simp at h
    obtain ⟨rfl, rfl⟩ := h
    have h1 : m ≤ 8 := by omega
    have h2 : m ≤ l.length := by omega
    have h3 : (l.take m).head? ≠ some 0 := by
      intro h4
      cases l with
      | nil => simp at h4
      | cons a l =>
        cases m with
        | zero => simp at h4
        | succ m => simp at h4; exact hc (.inr (.inr ⟨by omega, by simp [h4]⟩))
    have h4 := valB_lt (l.take m)
    have h5 : (l.take m).length = m := by simp; omega
    rw [h5] at h4
    have h6 : 256 ^ m ≤ 256 ^ 8 := Nat.pow_le_pow_right (by omega) h1
    refine ⟨by omega, by have : (256 : Nat) ^ 8 = 18446744073709551616 := by decide
                         omega, ?_, ?_⟩
    · rw [Int.toNat_natCast, numL_valB _ h3, h5]
    · rw [Int.toNat_natCast, numL_valB _ h3, List.take_append_drop]

theorem txtP_app (s : ByteArray) (r : List UInt8) : txtP s.size (s.data.toList ++ r) = some (s, r) := by
  have : s.size = s.data.toList.length := by simp
  rw [txtP, if_neg (by simp), this, List.take_left, List.drop_left]
theorem txtP_inv (m : Nat) (l : List UInt8) (s : ByteArray) (r : List UInt8) (h : txtP m l = some (s, r)) : m = s.size ∧ l = s.data.toList ++ r := by
  rw [txtP] at h
  split at h
  · simp at h
  · simp at h
    obtain ⟨rfl, rfl⟩ := h
    refine ⟨?_, by simp⟩
    show m = (l.take m).toArray.size
    simp; omega


theorem parse_app : ∀ (d : Nat) (k n : Int) (s : ByteArray) (c : F) (r : List UInt8), Nd.right ⟨k, n, s, c⟩ d = true → Nd.ok ⟨k, n, s, c⟩ → parse d (nodeL k n s c.len c.bytes ++ r) = some (⟨k, n, s, c⟩, r) := by
  intro d
  induction d with
  | zero => intro k n s c r h _; simp [Nd.right] at h
  | succ d ih =>
    have hk : ∀ (f : F) (r : List UInt8), f.right d = true → f.ok → kidsP (parse d) f.len (f.bytes ++ r) = some (f, r) := by
      intro f
      induction f with
      | nil => intro r _ _; rfl
      | cons k n s c g _ ihg =>
        intro r h ho
        rw [F.right] at h
        simp only [Bool.and_eq_true] at h
        obtain ⟨h1, h2, h3, h4⟩ := h
        obtain ⟨o1, o2, o3, o4, o5⟩ := ho
        rw [F.len, F.bytes, kidsP, List.append_assoc, ih k n s c _ (by simp [Nd.right, h1, h3]; simpa using h2) ⟨o1, o2, o3, o4⟩]
        simp only []
        rw [ihg r h4 o5]
    intro k n s c r h ho
    obtain ⟨⟨o1, o1'⟩, o2, o3, o4⟩ := ho
    simp only at o1 o1' o2 o3 o4
    rw [Nd.right] at h
    simp only [Bool.and_eq_true] at h
    obtain ⟨h1, _, h3⟩ := h
    rw [plainB] at h1
    split at h1
    · rename_i hk0
      subst hk0
      simp at h1
      obtain ⟨e1, e2⟩ := h1
      obtain rfl := F.len_zero e2
      have hn : n.toNat < 256 ^ 8 := by have : (256 : Nat) ^ 8 = 18446744073709551616 := by decide
                                        omega
      have hl := numL_len _ 8 hn
      obtain rfl : s = ⟨#[]⟩ := by
        exact e1
      rw [nodeL, if_pos rfl, List.cons_append, parse, List.append_assoc, szP_szL 4 _ _ (by omega) (by omega)]
      simp only [bodyP]
      rw [if_pos (by decide), numP_numL _ _ hn]
      simp only [Int.toNat_of_nonneg o1]
    · rename_i hk0
      split at h1
      · rename_i hk1
        subst hk1
        simp at h1
        obtain ⟨rfl, e2⟩ := h1
        obtain rfl := F.len_zero e2
        rw [nodeL, if_neg (by decide), if_pos rfl, List.cons_append, parse, List.append_assoc, szP_szL 4 _ _ (by omega) (by omega)]
        simp only [bodyP]
        rw [if_neg (by decide), if_pos (by decide), txtP_app]
      · simp at h1
        obtain ⟨⟨rfl, rfl⟩, e1⟩ := h1
        obtain rfl : s = ⟨#[]⟩ := by
          exact e1
        rw [nodeL, if_neg (by decide), if_neg (by decide), List.cons_append, parse, List.append_assoc, szP_szL 4 _ _ (by omega) (by omega)]
        simp only [bodyP]
        rw [if_neg (by decide), if_neg (by decide), if_pos (by decide), hk c r h3 o4]

theorem parse_inv : ∀ (d : Nat) (l : List UInt8) (x : Nd) (r : List UInt8), parse d l = some (x, r) → l = x.bytes ++ r ∧ x.right d = true ∧ (l.length < 268435456 → x.ok) := by
  intro d
  induction d with
  | zero => intro l x r h; simp [parse] at h
  | succ d ih =>
    have hk : ∀ (m : Nat) (l : List UInt8) (f : F) (r : List UInt8), kidsP (parse d) m l = some (f, r) → m = f.len ∧ l = f.bytes ++ r ∧ f.right d = true ∧ (l.length < 268435456 → f.ok) := by
      intro m
      induction m with
      | zero => intro l f r h; simp [kidsP] at h; obtain ⟨rfl, rfl⟩ := h; exact ⟨rfl, rfl, rfl, fun _ => trivial⟩
      | succ m ihm =>
        intro l f r h
        rw [kidsP] at h
        cases hp : parse d l with
        | none => rw [hp] at h; simp at h
        | some p =>
          obtain ⟨y, q⟩ := p
          rw [hp] at h
          simp only [] at h
          cases hq : kidsP (parse d) m q with
          | none => rw [hq] at h; simp at h
          | some p2 =>
            obtain ⟨g, t⟩ := p2
            rw [hq] at h
            simp at h
            obtain ⟨rfl, rfl⟩ := h
            obtain ⟨a1, a2, a3⟩ := ih l y q hp
            obtain ⟨b1, b2, b3, b4⟩ := ihm q g t hq
            refine ⟨by rw [F.len, b1], ?_, ?_, ?_⟩
            · rw [F.bytes, a1, b2, List.append_assoc]; rfl
            · rw [F.right, b3]
              rw [Nd.right] at a2
              simpa using a2
            · intro hl
              obtain ⟨o1, o2, o3, o4⟩ := a3 hl
              exact ⟨o1, o2, o3, o4, b4 (by rw [a1] at hl; simp at hl; omega)⟩
    intro l x r h
    cases l with
    | nil => simp [parse] at h
    | cons c l =>
      rw [parse] at h
      cases hs : szP 4 l with
      | none => rw [hs] at h; simp at h
      | some p =>
        obtain ⟨m, q⟩ := p
        rw [hs] at h
        simp only [bodyP] at h
        obtain ⟨e1, e2⟩ := szP_inv 4 l m q hs
        have hc : ∀ u : UInt8, c.toNat = u.toNat → c = u := fun u hu => UInt8.toNat_inj.1 hu
        split at h
        · rename_i h0
          cases hp : numP m q with
          | none => rw [hp] at h; simp at h
          | some p2 =>
            obtain ⟨n, t⟩ := p2
            rw [hp] at h
            simp at h
            obtain ⟨rfl, rfl⟩ := h
            obtain ⟨a1, a2, a3, a4⟩ := numP_inv m q n t hp
            refine ⟨?_, by simp [Nd.right, plainB, F.len, F.right]; rfl, fun _ => ⟨⟨a1, a2⟩, by show (0 : Nat) < _; omega, by simp [F.len], trivial⟩⟩
            rw [hc 110 h0, e1, a4, a3]; simp [Nd.bytes, nodeL]
        · split at h
          · rename_i h0
            cases hp : txtP m q with
            | none => rw [hp] at h; simp at h
            | some p2 =>
              obtain ⟨s, t⟩ := p2
              rw [hp] at h
              simp at h
              obtain ⟨rfl, rfl⟩ := h
              obtain ⟨a1, a2⟩ := txtP_inv m q s t hp
              refine ⟨?_, by simp [Nd.right, plainB, F.len, F.right], fun hl => ⟨⟨by simp, by simp⟩, ?_, by simp [F.len], trivial⟩⟩
              · rw [hc 115 h0, e1, a2, a1]; simp [Nd.bytes, nodeL]
              · rw [e1, a2] at hl; simp at hl; show s.size < _; omega
          · split at h
            · rename_i h0
              cases hp : kidsP (parse d) m q with
              | none => rw [hp] at h; simp at h
              | some p2 =>
                obtain ⟨f, t⟩ := p2
                rw [hp] at h
                simp at h
                obtain ⟨rfl, rfl⟩ := h
                obtain ⟨a1, a2, a3, a4⟩ := hk m q f t hp
                refine ⟨?_, by simp [Nd.right, plainB, a3]; rfl, fun hl => ⟨⟨by simp, by simp⟩, by show (0 : Nat) < _; omega, by show f.len < _; rw [← a1]; omega, a4 (by rw [e1] at hl; simp at hl; omega)⟩⟩
                rw [hc 108 h0, e1, a2, a1]; simp [Nd.bytes, nodeL]
            · simp at h
end Go.Proofs.Ytgdlnjhbencjkaa
