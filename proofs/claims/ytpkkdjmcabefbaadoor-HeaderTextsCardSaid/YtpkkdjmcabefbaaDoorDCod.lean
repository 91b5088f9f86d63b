/- Nodes as forests, their bytes, and how bytes are read: plain mathematics, over no program. Appending to a slice of the call's own, and where the new slice lies; elements of any number of cells. How nodes lie in memory. codec.withSize; a slice of bytes that the call owns. codec: Len64, withNumber. codec.plain. codec.written. -/
import Derived.WalkKit
import Derived.Test.YtpkkdjmcabefbaaDoorDLib
import Derived.IntWalk
import Derived.Lib.AppendStr
import Derived.Test.YtpkkdjmcabefbaaDoorChecked
import Derived.BigQuiet
import Derived.Deep.RegionHeld3
import Derived.Deep.DeepCutAuto
import Derived.Deep.CutBlock
namespace Go.Proofs.YtpkkdjmcabefbaaDoor.Cod

/-- Lists of nodes: a node's kind, number, text and kids; what stands behind it. -/
inductive F where
  | nil
  | cons (k n : Int) (s : ByteArray) (kids rest : F)

structure Nd where
  k : Int
  n : Int
  s : ByteArray
  kids : F

def F.len : F → Nat
  | .nil => 0
  | .cons _ _ _ _ r => r.len + 1
def F.deep : F → Nat
  | .nil => 0
  | .cons _ _ _ c r => max (c.deep + 1) r.deep
def F.size : F → Nat
  | .nil => 0
  | .cons _ _ _ c r => c.size + r.size + 1

def szL (n : Nat) : List UInt8 := if n < 128 then [UInt8.ofNat n] else UInt8.ofNat (n % 128 + 128) :: szL (n / 128)
termination_by n
def numL (n : Nat) : List UInt8 := if n = 0 then [] else numL (n / 256) ++ [UInt8.ofNat (n % 256)]
termination_by n
theorem szL_lt {n : Nat} (h : n < 128) : szL n = [UInt8.ofNat n] := by rw [szL, if_pos h]
theorem szL_ge {n : Nat} (h : 128 ≤ n) : szL n = UInt8.ofNat (n % 128 + 128) :: szL (n / 128) := by rw [szL, if_neg (by omega)]
theorem numL_zero : numL 0 = [] := by rw [numL, if_pos rfl]
theorem numL_pos {n : Nat} (h : 0 < n) : numL n = numL (n / 256) ++ [UInt8.ofNat (n % 256)] := by rw [numL, if_neg (by omega)]

def nodeL (k n : Int) (s : ByteArray) (len : Nat) (kb : List UInt8) : List UInt8 :=
  if k = 0 then 110 :: (szL (numL n.toNat).length ++ numL n.toNat)
  else if k = 1 then 115 :: (szL s.size ++ s.data.toList)
  else 108 :: (szL len ++ kb)
def F.bytes : F → List UInt8
  | .nil => []
  | .cons k n s c r => nodeL k n s c.len c.bytes ++ r.bytes
def Nd.bytes (x : Nd) : List UInt8 := nodeL x.k x.n x.s x.kids.len x.kids.bytes

def plainB (k n : Int) (s : ByteArray) (len : Nat) : Bool :=
  if k = 0 then s.size == 0 && len == 0 else if k = 1 then n == 0 && len == 0 else k == 2 && n == 0 && s.size == 0
def F.right : F → Nat → Bool
  | .nil, _ => true
  | .cons k n s c r, d => plainB k n s c.len && (decide (0 < d) && (c.right (d - 1) && r.right d))
def Nd.right (x : Nd) (d : Nat) : Bool := plainB x.k x.n x.s x.kids.len && (decide (0 < d) && x.kids.right (d - 1))
def F.plain : F → Bool
  | .nil => true
  | .cons k n s c r => plainB k n s c.len && (c.plain && r.plain)
def F.ok : F → Prop
  | .nil => True
  | .cons _ n s c r => (0 ≤ n ∧ n < 18446744073709551616) ∧ s.size < 268435456 ∧ c.len < 268435456 ∧ c.ok ∧ r.ok
def Nd.ok (x : Nd) : Prop := (0 ≤ x.n ∧ x.n < 18446744073709551616) ∧ x.s.size < 268435456 ∧ x.kids.len < 268435456 ∧ x.kids.ok

theorem F.len_zero {f : F} (h : f.len = 0) : f = .nil := by cases f <;> simp [F.len] at h ⊢
theorem right_iff : ∀ (f : F) (d : Nat), f.right d = (decide (f.deep ≤ d) && f.plain)
  | .nil, d => by simp [F.right, F.deep, F.plain]
  | .cons k n s c r, d => by
    rw [F.right, right_iff c, right_iff r, F.deep, F.plain]
    rw [Bool.eq_iff_iff]
    simp only [Bool.and_eq_true, decide_eq_true_eq]
    constructor
    · rintro ⟨h1, h2, ⟨h3, h4⟩, h5, h6⟩; exact ⟨by omega, h1, h4, h6⟩
    · rintro ⟨h1, h2, h3, h4⟩; exact ⟨h2, by omega, ⟨by omega, h3⟩, by omega, h4⟩

/-! ### numbers -/
def valB (l : List UInt8) : Nat := l.foldl (fun a b => a * 256 + b.toNat) 0
theorem valB_snoc (l : List UInt8) (b : UInt8) : valB (l ++ [b]) = valB l * 256 + b.toNat := by simp [valB]
theorem ofNat_toNat (n : Nat) (h : n < 256) : (UInt8.ofNat n).toNat = n := by simp; omega
theorem valB_numL (n : Nat) : valB (numL n) = n := by
  induction n using Nat.strongRecOn with
  | _ n ih =>
    by_cases h : n = 0
    · subst h; rw [numL_zero]; rfl
    · rw [numL_pos (by omega), valB_snoc, ih _ (by omega), ofNat_toNat _ (by omega)]; omega
theorem numL_len (n k : Nat) (h : n < 256 ^ k) : (numL n).length ≤ k := by
  induction k generalizing n with
  | zero => simp at h; subst h; rw [numL_zero]; simp
  | succ k ih =>
    by_cases h0 : n = 0
    · subst h0; rw [numL_zero]; simp
    · rw [numL_pos (by omega)]; have := ih (n / 256) (by rw [Nat.pow_succ] at h; omega); simp; omega
theorem numL_head (n : Nat) : (numL n).head? ≠ some 0 := by
  induction n using Nat.strongRecOn with
  | _ n ih =>
    by_cases h : n = 0
    · subst h; rw [numL_zero]; simp
    · rw [numL_pos (by omega)]
      by_cases h1 : n < 256
      · have : n / 256 = 0 := by omega
        rw [this, numL_zero]
        simp
        intro hc
        have := congrArg UInt8.toNat hc
        simp at this; omega
      · have := ih (n / 256) (by omega)
        cases hq : numL (n / 256) with
        | nil =>
          have e := valB_numL (n / 256); rw [hq] at e; simp [valB] at e; omega
        | cons a l => rw [hq] at this; simpa using this
theorem valB_lt (l : List UInt8) : valB l < 256 ^ l.length := by
  have H : ∀ (m : List UInt8), valB m.reverse < 256 ^ m.length := by
    intro m
    induction m with
    | nil => simp [valB]
    | cons b m ih => rw [List.reverse_cons, valB_snoc, List.length_cons, Nat.pow_succ]; have := b.toNat_lt; omega
  have := H l.reverse
  simpa using this
theorem numL_valB (l : List UInt8) (h : l.head? ≠ some 0) : numL (valB l) = l := by
  have H : ∀ (m : List UInt8), m.reverse.head? ≠ some 0 → numL (valB m.reverse) = m.reverse ∧ (m ≠ [] → 0 < valB m.reverse) := by
    intro m
    induction m with
    | nil => intro _; exact ⟨by simp [valB, numL_zero], by simp⟩
    | cons b m ih =>
      intro hh
      rw [List.reverse_cons] at hh ⊢
      rw [valB_snoc]
      have hb := b.toNat_lt
      by_cases hm : m = []
      · subst hm
        simp at hh
        have h0 : 0 < b.toNat := by
          rcases Nat.eq_zero_or_pos b.toNat with h0 | h0
          · exact absurd (UInt8.toNat_inj.1 (by simpa using h0)) hh
          · exact h0
        refine ⟨?_, fun _ => by simp [valB]; omega⟩
        simp only [valB, List.reverse_nil, List.foldl_nil, Nat.zero_mul, Nat.zero_add, List.nil_append]
        rw [numL_pos h0, show b.toNat / 256 = 0 by omega, numL_zero, Nat.mod_eq_of_lt hb]
        simp
      · have hr : m.reverse.head? ≠ some 0 := by
          cases hq : m.reverse with
          | nil => simp at hq; exact absurd hq hm
          | cons a t => rw [hq] at hh; simpa using hh
        obtain ⟨h1, h2⟩ := ih hr
        have h2 := h2 hm
        refine ⟨?_, fun _ => by omega⟩
        rw [numL_pos (by omega), show (valB m.reverse * 256 + b.toNat) / 256 = valB m.reverse by omega, show (valB m.reverse * 256 + b.toNat) % 256 = b.toNat by omega, h1]
        simp
  have := (H l.reverse (by simpa using h)).1
  simpa using this

/-! ### how bytes are read -/
def szP : Nat → List UInt8 → Option (Nat × List UInt8)
  | 0, _ => none
  | _ + 1, [] => none
  | f + 1, c :: r => if c.toNat < 128 then some (c.toNat, r) else
      match szP f r with
      | none => none
      | some (m, q) => if m = 0 then none else some (c.toNat % 128 + 128 * m, q)
def numP (m : Nat) (l : List UInt8) : Option (Int × List UInt8) :=
  if 8 < m ∨ l.length < m ∨ (0 < m ∧ l.head? = some 0) then none else some ((valB (l.take m) : Int), l.drop m)
def txtP (m : Nat) (l : List UInt8) : Option (ByteArray × List UInt8) :=
  if l.length < m then none else some (⟨(l.take m).toArray⟩, l.drop m)
def kidsP (p : List UInt8 → Option (Nd × List UInt8)) : Nat → List UInt8 → Option (F × List UInt8)
  | 0, l => some (.nil, l)
  | m + 1, l => match p l with
    | none => none
    | some (x, q) => match kidsP p m q with
      | none => none
      | some (f, t) => some (.cons x.k x.n x.s x.kids f, t)
def bodyP (p : List UInt8 → Option (Nd × List UInt8)) (c : UInt8) (m : Nat) (q : List UInt8) : Option (Nd × List UInt8) :=
  if c.toNat = 110 then (match numP m q with | none => none | some (n, t) => some (⟨0, n, ⟨#[]⟩, .nil⟩, t))
  else if c.toNat = 115 then (match txtP m q with | none => none | some (s, t) => some (⟨1, 0, s, .nil⟩, t))
  else if c.toNat = 108 then (match kidsP p m q with | none => none | some (f, t) => some (⟨2, 0, ⟨#[]⟩, f⟩, t))
  else none
def parse : Nat → List UInt8 → Option (Nd × List UInt8)
  | 0, _ => none
  | _ + 1, [] => none
  | d + 1, c :: r => match szP 4 r with
    | none => none
    | some (m, q) => bodyP (parse d) c m q

theorem szP_szL (f n : Nat) (r : List UInt8) (hf : 0 < f) (h : n < 128 ^ f) : szP f (szL n ++ r) = some (n, r) := by
  induction f generalizing n with
  | zero => omega
  | succ f ih =>
    by_cases h1 : n < 128
    · rw [szL_lt h1, List.singleton_append, szP, ofNat_toNat _ (by omega), if_pos h1]
    · rw [szL_ge (by omega)]
      have hf : 0 < f := by
        rcases Nat.eq_zero_or_pos f with h0 | h0
        · subst h0; simp at h; omega
        · exact h0
      simp only [List.cons_append, szP]
      rw [ofNat_toNat _ (by omega), if_neg (by omega), ih (n / 128) hf (by rw [Nat.pow_succ] at h; omega)]
      simp only []
      rw [if_neg (by omega)]
      congr 2; omega
theorem szP_inv (f : Nat) (l : List UInt8) (n : Nat) (r : List UInt8) (h : szP f l = some (n, r)) : l = szL n ++ r ∧ n < 128 ^ f := by
  induction f generalizing l n with
  | zero => simp [szP] at h
  | succ f ih =>
    cases l with
    | nil => simp [szP] at h
    | cons c l =>
      rw [szP] at h
      have hc := c.toNat_lt
      split at h
      · rename_i h1
        simp at h
        obtain ⟨rfl, rfl⟩ := h
        exact ⟨by rw [szL_lt h1]; simp, by rw [Nat.pow_succ]; have h0 : 0 < 128 ^ f := Nat.pow_pos (by decide); omega⟩
      · rename_i h1
        cases hq : szP f l with
        | none => rw [hq] at h; simp at h
        | some p =>
          obtain ⟨m, q⟩ := p
          rw [hq] at h
          simp only [] at h
          split at h
          · simp at h
          · rename_i h2
            simp at h
            obtain ⟨rfl, rfl⟩ := h
            obtain ⟨e1, e2⟩ := ih l m hq
            refine ⟨?_, by rw [Nat.pow_succ]; omega⟩
            rw [szL_ge (by omega), show (c.toNat % 128 + 128 * m) / 128 = m by omega, show (c.toNat % 128 + 128 * m) % 128 + 128 = c.toNat by omega]
            simp; exact e1

theorem numP_numL (n : Nat) (r : List UInt8) (h : n < 256 ^ 8) : numP (numL n).length (numL n ++ r) = some ((n : Int), r) := by
  have h1 := numL_len n 8 h
  rw [numP, if_neg]
  · simp [valB_numL]
  · rintro (h2 | h2 | ⟨h2, h3⟩)
    · omega
    · simp at h2; omega
    · have := numL_head n
      cases hq : numL n with
      | nil => rw [hq] at h2; simp at h2
      | cons a l => rw [hq] at h3 this; simp at h3 this; exact this h3
theorem numP_inv (m : Nat) (l : List UInt8) (n : Int) (r : List UInt8) (h : numP m l = some (n, r)) : 0 ≤ n ∧ n < 18446744073709551616 ∧ m = (numL n.toNat).length ∧ l = numL n.toNat ++ r := by
  rw [numP] at h
  split at h
  · simp at h
  · rename_i hc
    simp at h
    obtain ⟨rfl, rfl⟩ := h
    have h1 : m ≤ 8 := by omega
    have h2 : m ≤ l.length := by omega
    have h3 : (l.take m).head? ≠ some 0 := by
      intro h4
      cases l with
      | nil => simp at h4
      | cons a l =>
        cases m with
        | zero => simp at h4
        | succ m => simp at h4; exact hc (.inr (.inr ⟨by omega, by simp [h4]⟩))
    have h4 := valB_lt (l.take m)
    have h5 : (l.take m).length = m := by simp; omega
    rw [h5] at h4
    have h6 : 256 ^ m ≤ 256 ^ 8 := Nat.pow_le_pow_right (by omega) h1
    refine ⟨by omega, by have : (256 : Nat) ^ 8 = 18446744073709551616 := by decide
                         omega, ?_, ?_⟩
    · rw [Int.toNat_natCast, numL_valB _ h3, h5]
    · rw [Int.toNat_natCast, numL_valB _ h3, List.take_append_drop]

theorem txtP_app (s : ByteArray) (r : List UInt8) : txtP s.size (s.data.toList ++ r) = some (s, r) := by
  have : s.size = s.data.toList.length := by simp
  rw [txtP, if_neg (by simp), this, List.take_left, List.drop_left]
theorem txtP_inv (m : Nat) (l : List UInt8) (s : ByteArray) (r : List UInt8) (h : txtP m l = some (s, r)) : m = s.size ∧ l = s.data.toList ++ r := by
  rw [txtP] at h
  split at h
  · simp at h
  · simp at h
    obtain ⟨rfl, rfl⟩ := h
    refine ⟨?_, by simp⟩
    show m = (l.take m).toArray.size
    simp; omega


theorem parse_app : ∀ (d : Nat) (k n : Int) (s : ByteArray) (c : F) (r : List UInt8), Nd.right ⟨k, n, s, c⟩ d = true → Nd.ok ⟨k, n, s, c⟩ → parse d (nodeL k n s c.len c.bytes ++ r) = some (⟨k, n, s, c⟩, r) := by
  intro d
  induction d with
  | zero => intro k n s c r h _; simp [Nd.right] at h
  | succ d ih =>
    have hk : ∀ (f : F) (r : List UInt8), f.right d = true → f.ok → kidsP (parse d) f.len (f.bytes ++ r) = some (f, r) := by
      intro f
      induction f with
      | nil => intro r _ _; rfl
      | cons k n s c g _ ihg =>
        intro r h ho
        rw [F.right] at h
        simp only [Bool.and_eq_true] at h
        obtain ⟨h1, h2, h3, h4⟩ := h
        obtain ⟨o1, o2, o3, o4, o5⟩ := ho
        rw [F.len, F.bytes, kidsP, List.append_assoc, ih k n s c _ (by simp [Nd.right, h1, h3]; simpa using h2) ⟨o1, o2, o3, o4⟩]
        simp only []
        rw [ihg r h4 o5]
    intro k n s c r h ho
    obtain ⟨⟨o1, o1'⟩, o2, o3, o4⟩ := ho
    simp only at o1 o1' o2 o3 o4
    rw [Nd.right] at h
    simp only [Bool.and_eq_true] at h
    obtain ⟨h1, _, h3⟩ := h
    rw [plainB] at h1
    split at h1
    · rename_i hk0
      subst hk0
      simp at h1
      obtain ⟨e1, e2⟩ := h1
      obtain rfl := F.len_zero e2
      have hn : n.toNat < 256 ^ 8 := by have : (256 : Nat) ^ 8 = 18446744073709551616 := by decide
                                        omega
      have hl := numL_len _ 8 hn
      obtain rfl : s = ⟨#[]⟩ := by
        exact e1
      rw [nodeL, if_pos rfl, List.cons_append, parse, List.append_assoc, szP_szL 4 _ _ (by omega) (by omega)]
      simp only [bodyP]
      rw [if_pos (by decide), numP_numL _ _ hn]
      simp only [Int.toNat_of_nonneg o1]
    · rename_i hk0
      split at h1
      · rename_i hk1
        subst hk1
        simp at h1
        obtain ⟨rfl, e2⟩ := h1
        obtain rfl := F.len_zero e2
        rw [nodeL, if_neg (by decide), if_pos rfl, List.cons_append, parse, List.append_assoc, szP_szL 4 _ _ (by omega) (by omega)]
        simp only [bodyP]
        rw [if_neg (by decide), if_pos (by decide), txtP_app]
      · simp at h1
        obtain ⟨⟨rfl, rfl⟩, e1⟩ := h1
        obtain rfl : s = ⟨#[]⟩ := by
          exact e1
        rw [nodeL, if_neg (by decide), if_neg (by decide), List.cons_append, parse, List.append_assoc, szP_szL 4 _ _ (by omega) (by omega)]
        simp only [bodyP]
        rw [if_neg (by decide), if_neg (by decide), if_pos (by decide), hk c r h3 o4]

theorem parse_inv : ∀ (d : Nat) (l : List UInt8) (x : Nd) (r : List UInt8), parse d l = some (x, r) → l = x.bytes ++ r ∧ x.right d = true ∧ (l.length < 268435456 → x.ok) := by
  intro d
  induction d with
  | zero => intro l x r h; simp [parse] at h
  | succ d ih =>
    have hk : ∀ (m : Nat) (l : List UInt8) (f : F) (r : List UInt8), kidsP (parse d) m l = some (f, r) → m = f.len ∧ l = f.bytes ++ r ∧ f.right d = true ∧ (l.length < 268435456 → f.ok) := by
      intro m
      induction m with
      | zero => intro l f r h; simp [kidsP] at h; obtain ⟨rfl, rfl⟩ := h; exact ⟨rfl, rfl, rfl, fun _ => trivial⟩
      | succ m ihm =>
        intro l f r h
        rw [kidsP] at h
        cases hp : parse d l with
        | none => rw [hp] at h; simp at h
        | some p =>
          obtain ⟨y, q⟩ := p
          rw [hp] at h
          simp only [] at h
          cases hq : kidsP (parse d) m q with
          | none => rw [hq] at h; simp at h
          | some p2 =>
            obtain ⟨g, t⟩ := p2
            rw [hq] at h
            simp at h
            obtain ⟨rfl, rfl⟩ := h
            obtain ⟨a1, a2, a3⟩ := ih l y q hp
            obtain ⟨b1, b2, b3, b4⟩ := ihm q g t hq
            refine ⟨by rw [F.len, b1], ?_, ?_, ?_⟩
            · rw [F.bytes, a1, b2, List.append_assoc]; rfl
            · rw [F.right, b3]
              rw [Nd.right] at a2
              simpa using a2
            · intro hl
              obtain ⟨o1, o2, o3, o4⟩ := a3 hl
              exact ⟨o1, o2, o3, o4, b4 (by rw [a1] at hl; simp at hl; omega)⟩
    intro l x r h
    cases l with
    | nil => simp [parse] at h
    | cons c l =>
      rw [parse] at h
      cases hs : szP 4 l with
      | none => rw [hs] at h; simp at h
      | some p =>
        obtain ⟨m, q⟩ := p
        rw [hs] at h
        simp only [bodyP] at h
        obtain ⟨e1, e2⟩ := szP_inv 4 l m q hs
        have hc : ∀ u : UInt8, c.toNat = u.toNat → c = u := fun u hu => UInt8.toNat_inj.1 hu
        split at h
        · rename_i h0
          cases hp : numP m q with
          | none => rw [hp] at h; simp at h
          | some p2 =>
            obtain ⟨n, t⟩ := p2
            rw [hp] at h
            simp at h
            obtain ⟨rfl, rfl⟩ := h
            obtain ⟨a1, a2, a3, a4⟩ := numP_inv m q n t hp
            refine ⟨?_, by simp [Nd.right, plainB, F.len, F.right]; rfl, fun _ => ⟨⟨a1, a2⟩, by show (0 : Nat) < _; omega, by simp [F.len], trivial⟩⟩
            rw [hc 110 h0, e1, a4, a3]; simp [Nd.bytes, nodeL]
        · split at h
          · rename_i h0
            cases hp : txtP m q with
            | none => rw [hp] at h; simp at h
            | some p2 =>
              obtain ⟨s, t⟩ := p2
              rw [hp] at h
              simp at h
              obtain ⟨rfl, rfl⟩ := h
              obtain ⟨a1, a2⟩ := txtP_inv m q s t hp
              refine ⟨?_, by simp [Nd.right, plainB, F.len, F.right], fun hl => ⟨⟨by simp, by simp⟩, ?_, by simp [F.len], trivial⟩⟩
              · rw [hc 115 h0, e1, a2, a1]; simp [Nd.bytes, nodeL]
              · rw [e1, a2] at hl; simp at hl; show s.size < _; omega
          · split at h
            · rename_i h0
              cases hp : kidsP (parse d) m q with
              | none => rw [hp] at h; simp at h
              | some p2 =>
                obtain ⟨f, t⟩ := p2
                rw [hp] at h
                simp at h
                obtain ⟨rfl, rfl⟩ := h
                obtain ⟨a1, a2, a3, a4⟩ := hk m q f t hp
                refine ⟨?_, by simp [Nd.right, plainB, a3]; rfl, fun hl => ⟨⟨by simp, by simp⟩, by show (0 : Nat) < _; omega, by show f.len < _; rw [← a1]; omega, a4 (by rw [e1] at hl; simp at hl; omega)⟩⟩
                rw [hc 108 h0, e1, a2, a1]; simp [Nd.bytes, nodeL]
            · simp at h
end Go.Proofs.YtpkkdjmcabefbaaDoor.Cod
namespace Go.Proofs.YtpkkdjmcabefbaaDoor.Cod
open Go.RowKit

/-- From w to w' the block of v alone has turned, beside new blocks; v' lies in v's block or in a new one. -/
structure Grew (w : World) (v : Value) (w' : World) (v' : Value) : Prop where
  grow : w.grownBy w' v.ownBlock
  loc : ∀ k, v'.ownBlock = some k → v.ownBlock = some k ∨ w.heap.size ≤ k
theorem Grew.refl (w : World) (v : Value) : Grew w v w v := ⟨⟨rfl, rfl, rfl, Nat.le_refl _, fun _ _ _ => rfl⟩, fun _ h => .inl h⟩
theorem Grew.trans {w1 w2 w3 : World} {v1 v2 v3 : Value} (h : Grew w1 v1 w2 v2) (k : Grew w2 v2 w3 v3) : Grew w1 v1 w3 v3 := by
  refine ⟨⟨k.grow.os.trans h.grow.os, k.grow.tape.trans h.grow.tape, k.grow.output.trans h.grow.output, Nat.le_trans h.grow.size k.grow.size, fun b hb hne => ?_⟩, fun b hb => ?_⟩
  · refine (k.grow.block b (Nat.lt_of_lt_of_le hb h.grow.size) (fun e => ?_)).trans (h.grow.block b hb hne)
    rcases h.loc b e.symm with h1 | h1
    · exact hne h1.symm
    · omega
  · rcases k.loc b hb with h1 | h1
    · exact h.loc b h1
    · exact .inr (Nat.le_trans h.grow.size h1)
theorem Grew.alloc (w : World) (o : Obj) (v : Value) : Grew w v (w.alloc o) v := ⟨World.grownBy_alloc w o _, fun _ h => .inl h⟩
theorem Grew.drew (w : World) (v : Value) : Grew w v w.drew v := ⟨⟨rfl, rfl, rfl, Nat.le_refl _, fun _ _ _ => rfl⟩, fun _ h => .inl h⟩
theorem Grew.drewN (w : World) (v : Value) (n : Nat) : Grew w v (w.drewN n) v := ⟨⟨rfl, rfl, rfl, Nat.le_refl _, fun _ _ _ => rfl⟩, fun _ h => .inl h⟩
theorem Grew.ofBelow {w w' : World} (v : Value) (h : Below w.heap.size w w') : Grew w v w' v := ⟨⟨h.os, h.tape, h.output, h.size, fun k hk _ => h.block k hk⟩, fun _ h => .inl h⟩
theorem Grew.size {w w' : World} {v v' : Value} (h : Grew w v w' v') : w.heap.size ≤ w'.heap.size := h.grow.size
theorem Grew.block {w w' : World} {v v' : Value} (h : Grew w v w' v') {b : Nat} (hb : b < w.heap.size) (hne : v.ownBlock ≠ some b) : w'.heap[b]? = w.heap[b]? := h.grow.block b hb (Ne.symm hne)
theorem Grew.cell {w w' : World} {v v' : Value} (h : Grew w v w' v') {b o : Nat} {x : Value} (hc : w.cell? ⟨b, o, none⟩ = some x) (hne : v.ownBlock ≠ some b) : w'.cell? ⟨b, o, none⟩ = some x := by
  have hlt := World.block_lt_of_cell? w _ hc
  rw [← hc]; exact World.cell?_of_block (w := w) (h.block hlt hne)
theorem Grew.below {w w' : World} {v v' : Value} {B : Nat} (h : Grew w v w' v') (hB : B ≤ w.heap.size) (hv : ∀ k, v.ownBlock = some k → B ≤ k) : Below B w w' :=
  ⟨h.grow.os, h.grow.tape, h.grow.output, h.grow.size, fun k hk => h.grow.block k (by omega) (fun e => by have := hv k e.symm; omega)⟩

/-- What a slice type's tables say. -/
structure SlN (P : Program) (t e : TypeId) (z : Value) (size bytes : Nat) : Prop where
  und : P.underlying t = some (.slice e)
  info : (P.info? e).map (fun i => (i.zero, i.size, i.bytes)) = some (some z, size, bytes)
  zc : z.cells.size = size
  pos : 0 < size

theorem ownN_low {w : World} {B : Nat} {e : TypeId} {size n : Nat} {v : Value} {xs : List Value} (h : w.ownsRow B e size v n xs) : ∀ k, v.ownBlock = some k → B ≤ k := fun k hk => (World.ownsRow.lt h k hk).1
theorem ownN_ne {w : World} {B : Nat} {e : TypeId} {size n : Nat} {v : Value} {xs : List Value} (h : w.ownsRow B e size v n xs) {b : Nat} (hb : w.heap.size ≤ b) : v.ownBlock ≠ some b := fun hk => by have := (World.ownsRow.lt h b hk).2; omega

section
variable {P : Program} {w : World} {t e : TypeId} {z : Value} {size bytes : Nat}

/-- append at a plain region's list: what is appended lies in a block that is known whole. -/
theorem list_appN {ops : Array Oper} {rest : List Oper} {o : Oper} {a : Act} {Q : Exit → Act → World → Prop} (S : SlN P t e z size bytes) (hgd : o.guard = none) (s x : Operand)
    (ho : o.op = .call { callee := .builtin .append, args := #[s, x], argTypes := #[t, t] })
    (B : Nat) (v : Value) (n : Nat) (xs : List Value) (hs : a.eval s = v) (hown : w.ownsRow B e size v n xs)
    (g0 m c : Nat) (news : List Value) (hx : a.eval x = .slice (some ⟨g0, 0, none⟩) m c) (hblk : w.heap[g0]? = some (.cells news.toArray e (0, 0))) (hl : news.length = m * size) (h1 : ∀ u ∈ news, u.oneCell' = true)
    (hm : 0 < m) (h63 : n + m ≤ maxLen) (hbytes : (n + m) * bytes ≤ 140737488355328) (hbase : B ≤ w.heap.size)
    (h : ∀ g cap w', w'.ownsRow B e size (.slice (some ⟨g, 0, none⟩) (n + m) cap) (n + m) (xs ++ news) → Grew w v w' (.slice (some ⟨g, 0, none⟩) (n + m) cap) → wpList P ops Q rest (a.put o.dst (.slice (some ⟨g, 0, none⟩) (n + m) cap)) w') :
    wpList P ops Q (o :: rest) a w := by
  obtain ⟨i, hi, hz, hsz, hby⟩ := info_parts S.info
  refine wpList_append_lies w hgd s x t ho B e i z size bytes S.und hi hz hsz hby S.zc S.pos v n xs hs hown ⟨g0, 0, none⟩ m c news hx hl
    (by simpa using World.news_of_block hblk) h1 hm h63 hbytes hbase _ rfl ?_
  intro g cap w' h2 h3 h4 _
  refine h g cap w' h2 ⟨h3, fun k hk => ?_⟩
  have : g = k := by simpa [Value.ownBlock] using hk
  subst this
  rcases h4 with h4 | h4
  · exact .inl h4
  · exact .inr (by omega)
/-- .. at a step of a region that draws. -/
theorem step_appN {ops : Array Oper} {o : Oper} {a : Act} {K : Act → World → Prop} {Q : Exit → Act → World → Prop} {E : Prop} (S : SlN P t e z size bytes) (hgd : o.guard = none) (s x : Operand)
    (ho : o.op = .call { callee := .builtin .append, args := #[s, x], argTypes := #[t, t] })
    (B : Nat) (v : Value) (n : Nat) (xs : List Value) (hs : a.eval s = v) (hown : w.ownsRow B e size v n xs)
    (g0 m c : Nat) (news : List Value) (hx : a.eval x = .slice (some ⟨g0, 0, none⟩) m c) (hblk : w.heap[g0]? = some (.cells news.toArray e (0, 0))) (hl : news.length = m * size) (h1 : ∀ u ∈ news, u.oneCell' = true)
    (hm : 0 < m) (h63 : n + m ≤ maxLen) (hbytes : (n + m) * bytes ≤ 140737488355328) (hbase : B ≤ w.heap.size)
    (h : ∀ g cap w', w'.ownsRow B e size (.slice (some ⟨g, 0, none⟩) (n + m) cap) (n + m) (xs ++ news) → Grew w v w' (.slice (some ⟨g, 0, none⟩) (n + m) cap) → K (a.put o.dst (.slice (some ⟨g, 0, none⟩) (n + m) cap)) w') :
    if Region.wanted o (yielded ops a.tmps) = true then Oper.wp P o a w K Q else E := by
  obtain ⟨i, hi, hz, hsz, hby⟩ := info_parts S.info
  refine step_append_lies w hgd s x t ho B e i z size bytes S.und hi hz hsz hby S.zc S.pos v n xs hs hown ⟨g0, 0, none⟩ m c news hx hl
    (by simpa using World.news_of_block hblk) h1 hm h63 hbytes hbase _ rfl ?_
  intro g cap w' h2 h3 h4 _
  refine h g cap w' h2 ⟨h3, fun k hk => ?_⟩
  have : g = k := by simpa [Value.ownBlock] using hk
  subst this
  rcases h4 with h4 | h4
  · exact .inl h4
  · exact .inr (by omega)

/-- append(b, s...), s a string: where the new slice lies. -/
theorem run_append_string_grew (base : Nat) (t u ty e : TypeId) (i : TypeInfo) (ht : P.underlying t = some (.slice e)) (hu : P.underlying u = some .string) (hi : P.info? e = some i) (hz : i.zero = some (.int .u8 0))
    (hsize : i.size = 1) (hby : i.bytes = 1)
    (v : Value) (n : Nat) (xs : List Value) (hown : w.ownsRow base e 1 v n xs) (s : ByteArray)
    (h63 : n + s.size ≤ maxLen) (hbytes : n + s.size ≤ 140737488355328) (hbase : base ≤ w.heap.size) :
    ∃ v' w', (Builtin.append_ #[t, u] ty #[v, .string s]).run P w = .ok v' w' ∧ w'.ownsRow base e 1 v' (n + s.size) (xs ++ Lib.strCells s) ∧ Grew w v w' v' := by
  obtain ⟨v', w', hr, h2, h3, _⟩ := Lib.run_append_own_string (P := P) w base t u ty e i ht hu hi hz hsize hby v n xs hown s h63 hbytes hbase
  refine ⟨v', w', hr, h2, h3, ?_⟩
  rcases hown.2 with ⟨rfl, rfl⟩ | ⟨g, cap, cur, rfl, hbg, hg, hnc, hcm, hcs, htake⟩
  · have hown' : w.ownsRow w.heap.size e 1 (.slice none 0 0) 0 xs := by
      have hx : xs = [] := List.eq_nil_of_length_eq_zero (by simpa using hown.1)
      subst hx
      exact World.ownsRow_nil _ _ _ _
    obtain ⟨v2, w2, hr2, h22, _, _⟩ := Lib.run_append_own_string (P := P) w w.heap.size t u ty e i ht hu hi hz hsize hby _ 0 xs hown' s h63 hbytes (Nat.le_refl _)
    rw [hr] at hr2
    obtain ⟨rfl, rfl⟩ : v' = v2 ∧ w' = w2 := by injection hr2 with a b; exact ⟨a, b⟩
    exact fun k hk => .inr (ownN_low h22 k hk)
  · by_cases hroom : n + s.size ≤ cap
    · have hr2 := Lib.run_append_room_string (P := P) w t u ty e i ht hu hi hsize g n cap cur hg s hroom (by omega)
      rw [hr] at hr2
      injection hr2 with a b
      subst a
      exact fun k hk => .inl hk
    · have holds : ∀ j u, xs[j]? = some u → w.cell? ((⟨g, 0, none⟩ : Addr).add j) = some u := hown.cells (g := g) rfl
      have hr2 := Lib.run_append_grow_string (P := P) w t u ty e i (.int .u8 0) ht hu hi hz ⟨g, 0, none⟩ n cap xs (by rw [hsize]; simpa using hown.1) holds s (by omega) (by unfold maxLen at h63; omega) (by rw [hby]; exact growslice_fits (by omega) (by omega))
      rw [hr] at hr2
      injection hr2 with a b
      subst a
      intro k hk
      have : w.heap.size = k := by simpa [Value.ownBlock] using hk
      exact .inr (by omega)
theorem wp_app_str {o : Oper} {a : Act} {K : Act → World → Prop} {Q : Exit → Act → World → Prop} (sl x : Operand) (t u : TypeId)
    (ho : o.op = .call { callee := .builtin .append, args := #[sl, x], argTypes := #[t, u] })
    (base : Nat) (e : TypeId) (S : SlN P t e (.int .u8 0) 1 1) (hu : P.underlying u = some .string)
    (v : Value) (n : Nat) (xs : List Value) (hs : a.eval sl = v) (hown : w.ownsRow base e 1 v n xs) (s : ByteArray) (hx : a.eval x = .string s)
    (h63 : n + s.size ≤ maxLen) (hbytes : n + s.size ≤ 140737488355328) (hbase : base ≤ w.heap.size)
    (h : ∀ v' w', w'.ownsRow base e 1 v' (n + s.size) (xs ++ Lib.strCells s) → Grew w v w' v' → K (a.put o.dst v') w') : o.wp P a w K Q := by
  obtain ⟨i, hi, hz, hsz, hby⟩ := info_parts S.info
  obtain ⟨v', w', hr, h2, h3⟩ := run_append_string_grew (P := P) base t u o.type e i S.und hu hi hz hsz hby v n xs hown s h63 hbytes hbase
  unfold Oper.wp execOp
  simp only [ho, resolve, invoke, builtin, Sem.run_bind, Sem.run_pure, Result.andThen_ok, List.map_toArray, List.map_cons, List.map_nil, hs, hx, hr]
  exact h v' w' h2 h3
end
end Go.Proofs.YtpkkdjmcabefbaaDoor.Cod
namespace Go.Proofs.YtpkkdjmcabefbaaDoor.Cod
open Go.RowKit

/-- Block g is of cells, none of them frozen. -/
def Unf (w : World) (g : Nat) : Prop := ∃ c t, w.heap[g]? = some (.cells c t (0, 0))
theorem Unf.of {w w' : World} {g : Nat} (h : Unf w g) (hb : w'.heap[g]? = w.heap[g]?) : Unf w' g := by obtain ⟨c, t, e⟩ := h; exact ⟨c, t, by rw [hb]; exact e⟩
/-- The nodes f lie, one behind the other, from the cell o of block g on; kids' blocks are in S. -/
def Lies (w : World) (S : Nat → Prop) : F → Nat → Nat → Prop
  | .nil, _, _ => True
  | .cons k n s c r, g, o => (w.cell? ⟨g, o, none⟩ = some (.int .i64 k) ∧ w.cell? ⟨g, o + 1, none⟩ = some (.int .u64 n) ∧ w.cell? ⟨g, o + 2, none⟩ = some (.string s) ∧
      ∃ v, w.cell? ⟨g, o + 3, none⟩ = some v ∧ ((v = .slice none 0 0 ∧ c.len = 0) ∨ ∃ g' o' cap, v = .slice (some ⟨g', o', none⟩) c.len cap ∧ S g' ∧ Unf w g' ∧ c.len ≤ cap ∧ Lies w S c g' o')) ∧ Lies w S r g (o + 4)
/-- The slice v is the nodes f. -/
def KidsAt (w : World) (S : Nat → Prop) (f : F) (v : Value) : Prop :=
  (v = .slice none 0 0 ∧ f.len = 0) ∨ ∃ g o cap, v = .slice (some ⟨g, o, none⟩) f.len cap ∧ S g ∧ Unf w g ∧ f.len ≤ cap ∧ Lies w S f g o

def nodeV (k n : Int) (s : ByteArray) (v : Value) : Value := .agg #[.int .i64 k, .int .u64 n, .string s, v]

theorem lies_cons {w : World} {S : Nat → Prop} {k n : Int} {s : ByteArray} {c r : F} {g o : Nat} : Lies w S (.cons k n s c r) g o ↔
    (∃ v, w.cell? ⟨g, o, none⟩ = some (.int .i64 k) ∧ w.cell? ⟨g, o + 1, none⟩ = some (.int .u64 n) ∧ w.cell? ⟨g, o + 2, none⟩ = some (.string s) ∧ w.cell? ⟨g, o + 3, none⟩ = some v ∧ KidsAt w S c v) ∧ Lies w S r g (o + 4) := by
  constructor
  · rintro ⟨⟨h1, h2, h3, v, h4, h5⟩, h6⟩; exact ⟨⟨v, h1, h2, h3, h4, h5⟩, h6⟩
  · rintro ⟨⟨v, h1, h2, h3, h4, h5⟩, h6⟩; exact ⟨⟨h1, h2, h3, v, h4, h5⟩, h6⟩

theorem Lies.mono {w w' : World} {S S' : Nat → Prop} (hS : ∀ b, S b → S' b) (hw : ∀ b, S b → w'.heap[b]? = w.heap[b]?) :
    ∀ (f : F) (g o : Nat), w'.heap[g]? = w.heap[g]? → Lies w S f g o → Lies w' S' f g o
  | .nil, _, _, _, _ => trivial
  | .cons k n s c r, g, o, hg, h => by
    obtain ⟨⟨h1, h2, h3, v, h4, h5⟩, h6⟩ := h
    have e : ∀ j, w'.cell? ⟨g, j, none⟩ = w.cell? ⟨g, j, none⟩ := fun j => World.cell?_of_block (a := ⟨g, j, none⟩) hg
    refine ⟨⟨by rw [e]; exact h1, by rw [e]; exact h2, by rw [e]; exact h3, v, by rw [e]; exact h4, ?_⟩, Lies.mono hS hw r g (o + 4) hg h6⟩
    rcases h5 with h5 | ⟨g', o', cap, hv, hs, hu, hcp, hl⟩
    · exact .inl h5
    · exact .inr ⟨g', o', cap, hv, hS _ hs, hu.of (hw _ hs), hcp, Lies.mono hS hw c g' o' (hw _ hs) hl⟩
theorem KidsAt.mono {w w' : World} {S S' : Nat → Prop} {f : F} {v : Value} (h : KidsAt w S f v) (hS : ∀ b, S b → S' b) (hw : ∀ b, S b → w'.heap[b]? = w.heap[b]?) : KidsAt w' S' f v := by
  rcases h with h | ⟨g, o, cap, hv, hs, hu, hcp, hl⟩
  · exact .inl h
  · exact .inr ⟨g, o, cap, hv, hS _ hs, hu.of (hw _ hs), hcp, Lies.mono hS hw f g o (hw _ hs) hl⟩
/-- Nothing below B has turned. -/
theorem KidsAt.below {w w' : World} {B : Nat} {f : F} {v : Value} (h : KidsAt w (· < B) f v) (hb : Below B w w') : KidsAt w' (· < B) f v := h.mono (fun _ h => h) (fun b h => hb.block b h)
theorem Lies.below {w w' : World} {B : Nat} {f : F} {g o : Nat} (h : Lies w (· < B) f g o) (hg : g < B) (hb : Below B w w') : Lies w' (· < B) f g o :=
  Lies.mono (fun _ h => h) (fun b h => hb.block b h) f g o (hb.block g hg) h
theorem KidsAt.up {w w' : World} {B B' : Nat} {f : F} {v : Value} (h : KidsAt w (· < B) f v) (hB : B ≤ B') (hb : Below B w w') : KidsAt w' (· < B') f v := h.mono (fun _ h => Nat.lt_of_lt_of_le h hB) (fun b h => hb.block b h)

theorem KidsAt.shape {w : World} {S : Nat → Prop} {f : F} {v : Value} (h : KidsAt w S f v) : ∃ a cap, v = .slice a f.len cap := by
  rcases h with ⟨hv, h0⟩ | ⟨g, o, cap, hv, _⟩
  · exact ⟨none, 0, by rw [hv, h0]⟩
  · exact ⟨_, cap, hv⟩
theorem KidsAt.nil (w : World) (S : Nat → Prop) : KidsAt w S .nil (.slice none 0 0) := .inl ⟨rfl, rfl⟩
theorem KidsAt.lies {w : World} {S : Nat → Prop} {f : F} {v : Value} (h : KidsAt w S f v) (h0 : 0 < f.len) : ∃ g o cap, v = .slice (some ⟨g, o, none⟩) f.len cap ∧ S g ∧ Lies w S f g o := by
  rcases h with ⟨_, h1⟩ | ⟨g, o, cap, hv, hs, _, _, hl⟩
  · omega
  · exact ⟨g, o, cap, hv, hs, hl⟩
theorem KidsAt.unf {w : World} {S : Nat → Prop} {f : F} {v : Value} (h : KidsAt w S f v) (h0 : 0 < f.len) : ∃ g o cap, v = .slice (some ⟨g, o, none⟩) f.len cap ∧ S g ∧ Unf w g ∧ Lies w S f g o := by
  rcases h with ⟨_, h1⟩ | ⟨g, o, cap, hv, hs, hu, _, hl⟩
  · omega
  · exact ⟨g, o, cap, hv, hs, hu, hl⟩
theorem KidsAt.full {w : World} {S : Nat → Prop} {f : F} {v : Value} (h : KidsAt w S f v) (h0 : 0 < f.len) : ∃ g o cap, v = .slice (some ⟨g, o, none⟩) f.len cap ∧ S g ∧ Unf w g ∧ f.len ≤ cap ∧ Lies w S f g o := by
  rcases h with ⟨_, h1⟩ | h
  · omega
  · exact h

/-- What stands from the place i on. -/
def F.drop : F → Nat → F
  | f, 0 => f
  | .nil, _ => .nil
  | .cons _ _ _ _ r, i + 1 => r.drop i
theorem F.drop_len : ∀ (f : F) (i : Nat), (f.drop i).len = f.len - i
  | f, 0 => by simp [F.drop]
  | .nil, i + 1 => by simp [F.drop, F.len]
  | .cons _ _ _ _ r, i + 1 => by simp only [F.drop, F.len]; rw [F.drop_len r i]; omega
theorem F.drop_nil (i : Nat) : F.nil.drop i = .nil := by cases i <;> rfl
theorem F.drop_at : ∀ (f : F) (i : Nat), i < f.len → ∃ k n s c, f.drop i = .cons k n s c (f.drop (i + 1))
  | .nil, i, h => by simp [F.len] at h
  | .cons k n s c r, 0, h => ⟨k, n, s, c, by simp [F.drop]⟩
  | .cons k n s c r, i + 1, h => by
    obtain ⟨k', n', s', c', e⟩ := F.drop_at r i (by simp [F.len] at h; omega)
    exact ⟨k', n', s', c', by simpa [F.drop] using e⟩
theorem Lies.drop {w : World} {S : Nat → Prop} : ∀ (i : Nat) (f : F) (g o : Nat), Lies w S f g o → Lies w S (f.drop i) g (o + i * 4)
  | 0, f, g, o, h => by simpa [F.drop] using h
  | i + 1, .nil, g, o, _ => by simp [F.drop_nil, Lies]
  | i + 1, .cons k n s c r, g, o, h => by
    have := Lies.drop i r g (o + 4) h.2
    rw [show o + 4 + i * 4 = o + (i + 1) * 4 by omega] at this
    simpa [F.drop] using this
theorem F.drop_deep : ∀ (f : F) (i : Nat), (f.drop i).deep ≤ f.deep
  | f, 0 => by simp [F.drop]
  | .nil, i + 1 => by simp [F.drop]
  | .cons _ _ _ _ r, i + 1 => by have := F.drop_deep r i; simp [F.drop, F.deep]; omega
theorem F.drop_ok : ∀ (f : F) (i : Nat), f.ok → (f.drop i).ok
  | f, 0, h => by simpa [F.drop] using h
  | .nil, i + 1, h => by simp [F.drop, F.ok]
  | .cons _ _ _ _ r, i + 1, h => F.drop_ok r i h.2.2.2.2
theorem F.drop_end (f : F) : f.drop f.len = .nil := F.len_zero (by rw [F.drop_len]; omega)
end Go.Proofs.YtpkkdjmcabefbaaDoor.Cod
namespace Go.Proofs.YtpkkdjmcabefbaaDoor.Cod
open Go.RowKit

theorem Tryd.bytesSl : Sl Tryd.prog 57 5 (.int .u8 0) 1 := ⟨Tryd.underlying57, by kernel_rfl, rfl⟩
theorem Tryd.bytesSlN : SlN Tryd.prog 57 5 (.int .u8 0) 1 1 := ⟨Tryd.underlying57, by kernel_rfl, rfl, by decide⟩

/-- A slice that owns bytes. -/
def OwnsB (w : World) (B : Nat) (v : Value) (xs : List UInt8) : Prop := w.ownsRow B 5 1 v xs.length (xs.map byteV)
theorem OwnsB.owns {w : World} {B : Nat} {v : Value} {xs : List UInt8} (h : OwnsB w B v xs) : Owns w B 5 v (xs.map byteV) := by unfold Owns; rw [List.length_map]; exact h
theorem OwnsB.of {w : World} {B : Nat} {v : Value} {xs : List UInt8} (h : Owns w B 5 v (xs.map byteV)) : OwnsB w B v xs := by unfold Owns at h; rw [List.length_map] at h; exact h
theorem OwnsB.nil (w : World) (B : Nat) : OwnsB w B (.slice none 0 0) [] := World.ownsRow_nil _ _ _ _
theorem OwnsB.alloc {w : World} {B : Nat} {v : Value} {xs : List UInt8} (h : OwnsB w B v xs) (o : Obj) : OwnsB (w.alloc o) B v xs := World.ownsRow.alloc h o
theorem OwnsB.drew {w : World} {B : Nat} {v : Value} {xs : List UInt8} (h : OwnsB w B v xs) : OwnsB w.drew B v xs := h
theorem OwnsB.ne {w : World} {B : Nat} {v : Value} {xs : List UInt8} (h : OwnsB w B v xs) {b : Nat} (hb : w.heap.size ≤ b) : v.ownBlock ≠ some b := ownN_ne h hb
theorem OwnsB.low {w : World} {B : Nat} {v : Value} {xs : List UInt8} (h : OwnsB w B v xs) : ∀ k, v.ownBlock = some k → B ≤ k := ownN_low h
theorem Grew.belowB {w w' : World} {v v' : Value} {B : Nat} {xs : List UInt8} (h : Grew w v w' v') (hB : B ≤ w.heap.size) (ho : OwnsB w B v xs) : Below B w w' := h.below hB ho.low

theorem byteV_ofNat (n : Nat) (h : n < 256) : byteV (UInt8.ofNat n) = .int .u8 (n : Int) := by
  rw [byteV, ofNat_toNat _ h]

/-- Bounds behind a name: great numerals in the context end the walk. -/
def Lim (m : Nat) : Prop := m < 268435456
def Room (m : Nat) : Prop := m ≤ 67108864
theorem Room.le {a b : Nat} (h : Room b) (hab : a ≤ b) : Room a := Nat.le_trans hab h

/-- append of one byte to owned bytes. -/
theorem list_app1 {ops : Array Oper} {rest : List Oper} {o : Oper} {a : Act} {Q : Exit → Act → World → Prop} {w : World} (hgd : o.guard = none) (s x : Operand)
    (ho : o.op = .call { callee := .builtin .append, args := #[s, x], argTypes := #[57, 57] })
    (B : Nat) (v : Value) (xs : List UInt8) (hs : a.eval s = v) (hown : OwnsB w B v xs)
    (g0 c : Nat) (y : Value) (b : UInt8) (hx : a.eval x = .slice (some ⟨g0, 0, none⟩) 1 c) (hblk : w.heap[g0]? = some (.cells #[y] 5 (0, 0))) (hy : y = byteV b) (hr : Room (xs.length + 1)) (hbase : B ≤ w.heap.size)
    (h : ∀ v' w', OwnsB w' B v' (xs ++ [b]) → Grew w v w' v' → wpList Tryd.prog ops Q rest (a.put o.dst v') w') : wpList Tryd.prog ops Q (o :: rest) a w := by
  unfold Room at hr
  subst hy
  refine list_appN Tryd.bytesSlN hgd s x ho B v xs.length _ hs hown g0 1 c [byteV b] hx hblk (by simp) (by simp [byteV, Value.oneCell']) (by omega) (by unfold maxLen; omega) (by omega) hbase ?_
  intro g cap w' h2 h3
  refine h _ w' ?_ h3
  unfold OwnsB
  simpa using h2
theorem step_app1 {ops : Array Oper} {o : Oper} {a : Act} {K : Act → World → Prop} {Q : Exit → Act → World → Prop} {E : Prop} {w : World} (hgd : o.guard = none) (s x : Operand)
    (ho : o.op = .call { callee := .builtin .append, args := #[s, x], argTypes := #[57, 57] })
    (B : Nat) (v : Value) (xs : List UInt8) (hs : a.eval s = v) (hown : OwnsB w B v xs)
    (g0 c : Nat) (y : Value) (b : UInt8) (hx : a.eval x = .slice (some ⟨g0, 0, none⟩) 1 c) (hblk : w.heap[g0]? = some (.cells #[y] 5 (0, 0))) (hy : y = byteV b) (hr : Room (xs.length + 1)) (hbase : B ≤ w.heap.size)
    (h : ∀ v' w', OwnsB w' B v' (xs ++ [b]) → Grew w v w' v' → K (a.put o.dst v') w') : if Region.wanted o (yielded ops a.tmps) = true then Oper.wp Tryd.prog o a w K Q else E := by
  unfold Room at hr
  subst hy
  refine step_appN Tryd.bytesSlN hgd s x ho B v xs.length _ hs hown g0 1 c [byteV b] hx hblk (by simp) (by simp [byteV, Value.oneCell']) (by omega) (by unfold maxLen; omega) (by omega) hbase ?_
  intro g cap w' h2 h3
  refine h _ w' ?_ h3
  unfold OwnsB
  simpa using h2

theorem intOf_int (k : IntKind) (x : Int) : intOf (.int k x) = x := rfl
theorem meas_div (j : Nat) (x : Int) (h : 128 ≤ j) (hx : x = (j : Int) / 128) : x.toNat < (j : Int).toNat := by subst hx; omega

def SzRes (B : Nat) (w : World) (v : Value) (zs : List UInt8) (e : Ending) (w' : World) : Prop := ∃ v', e = .returned v' ∧ OwnsB w' B v' zs ∧ Grew w v w' v'
def SzRel (B : Nat) (w : World) (v0 : Value) (zs : List UInt8) (v i : Value) (wr : World) : Prop :=
  ∃ (ys : List UInt8) (m : Nat), Lim m ∧ i = .int .i64 m ∧ OwnsB wr B v ys ∧ Hid (ys ++ szL m = zs) ∧ Grew w v0 wr v

set_option maxRecDepth 30000 in
set_option maxHeartbeats 1000000 in
theorem withSize_prog (xs : List UInt8) (m : Nat) (B : Nat) (v : Value) (w : World) (hown : OwnsB w B v xs) (hB : B ≤ w.heap.size) (hm : Lim m) (hx : Room (xs.length + (szL m).length)) :
    Calls Tryd.prog 59 #[v, .int .i64 m] w (SzRes B w v (xs ++ szL m)) := by
  obtain ⟨zs, hzs⟩ : ∃ zs, xs ++ szL m = zs := ⟨_, rfl⟩
  have hzl : Room zs.length := by rw [← hzs, List.length_append]; exact hx
  rw [hzs]
  have HZ := Lib.hid hzs
  have HOWN := Lib.hid hown
  clear hzs hx hown
  go_enter Tryd.func59, Tryd.ntmps59
  go_wp2_with fail
  go_loopw [0, 1] (SzRel B w v zs) (fun _ i _ => (intOf i).toNat)
  case atStart => exact ⟨xs, m, hm, rfl, HOWN.out, HZ, Grew.refl _ _⟩
  case round =>
    obtain ⟨ys, j, hj, rfl, how, hz, hb⟩ := hrel
    have HOW := Lib.hid how
    have hBr : B ≤ wr.heap.size := Nat.le_trans hB hb.size
    clear how
    by_cases hge : 128 ≤ j
    · have hsz := szL_ge hge
      have h0 : (0 : Int) ≤ (j : Int) := by omega
      have h1 : (128 : Int) ≤ (j : Int) := by omega
      have HQ := Lib.hid <| show wrap64 ((j : Int) / 128) = (j : Int) / 128 from IntWalk.wrap64_in _ (by unfold Lim at hj; omega)
      have hz' : Hid ((ys ++ [UInt8.ofNat (j % 128 + 128)]) ++ szL (j / 128) = zs) := Lib.hid (by rw [← hz.out, hsz]; simp)
      have hzl' : Room (ys.length + 1) := hzl.le (by rw [← hz'.out]; simp)
      have HBY : Hid (Value.int .u8 ((j : Int) % 128 + 128) = byteV (UInt8.ofNat (j % 128 + 128))) := Lib.hid (by rw [byteV_ofNat _ (by omega)]; go_num)
      clear hsz
      go_wp2_with (at_builtin; refine list_app1 rfl _ _ rfl B _ _ rfl (HOW.out.alloc _) wr.heap.size 1 _ _ rfl (heap_at_alloc wr _) HBY.out hzl' (by simp; omega) ?_; intro v2 w2 hown2 hb2)
      go_roundw
      case rel => exact ⟨_, j / 128, by unfold Lim at hj ⊢; omega, by rw [HQ.out]; go_num, hown2, hz', (hb.trans (Grew.alloc _ _ _)).trans hb2⟩
      case measure => rw [intOf_int, intOf_int]; exact meas_div j _ hge HQ.out
    · have hsz := szL_lt (n := j) (by omega)
      have h0 : (0 : Int) ≤ (j : Int) := by omega
      have HBY : Hid (Value.int .u8 (j : Int) = byteV (UInt8.ofNat j)) := Lib.hid (by rw [byteV_ofNat _ (by omega)])
      have h1 : ¬ ((128 : Int) ≤ (j : Int)) := by omega
      clear hge
      have hz' : Hid (ys ++ [UInt8.ofNat j] = zs) := Lib.hid (by rw [← hz.out, hsz])
      have hzl' : Room (ys.length + 1) := hzl.le (by rw [← hz'.out]; simp)
      clear hsz
      go_wp2_with (at_builtin; refine list_app1 rfl _ _ rfl B _ _ rfl (HOW.out.alloc _) wr.heap.size 1 _ _ rfl (heap_at_alloc wr _) HBY.out hzl' (by simp; omega) ?_; intro v2 w2 hown2 hb2)
      go_ret
      exact ⟨_, rfl, by rw [← hz'.out]; exact hown2, (hb.trans (Grew.alloc _ _ _)).trans hb2⟩
end Go.Proofs.YtpkkdjmcabefbaaDoor.Cod
namespace Go.Proofs.YtpkkdjmcabefbaaDoor.Cod
open Go.RowKit

def blen (n : Nat) : Nat := if n = 0 then 0 else blen (n / 2) + 1
termination_by n
theorem blen_zero : blen 0 = 0 := by rw [blen, if_pos rfl]
theorem blen_pos {n : Nat} (h : 0 < n) : blen n = blen (n / 2) + 1 := by rw [blen, if_neg (by omega)]
theorem blen_up : ∀ (k n : Nat), 2 ^ k ≤ n → blen n = k + blen (n / 2 ^ k)
  | 0, n, _ => by simp
  | k + 1, n, h => by
    have h0 : 0 < n := Nat.lt_of_lt_of_le (Nat.pow_pos (by decide)) h
    rw [blen_pos h0, blen_up k (n / 2) (by rw [Nat.pow_succ] at h; omega), Nat.div_div_eq_div_mul, Nat.pow_succ, Nat.mul_comm 2]; omega
theorem blen_one : blen 1 = 1 := by rw [blen_pos (by omega)]; simp [blen_zero]
theorem blen_is (k n : Nat) (h : 2 ^ k ≤ n) (h2 : n < 2 ^ (k + 1)) : blen n = k + 1 := by
  rw [blen_up k n h]
  have : n / 2 ^ k = 1 := by
    apply Nat.div_eq_of_lt_le
    · omega
    · rw [Nat.pow_succ] at h2; omega
  rw [this, blen_one]
def blen8 (n : Nat) : Nat := if n < 1 then 0 else if n < 2 then 1 else if n < 4 then 2 else if n < 8 then 3 else if n < 16 then 4 else if n < 32 then 5 else if n < 64 then 6 else if n < 128 then 7 else 8
theorem blen_small (n : Nat) (h : n < 256) : blen n = blen8 n := by
  unfold blen8
  split
  · have : n = 0 := by omega
    subst this; exact blen_zero
  split
  · exact blen_is 0 n (by omega) (by omega)
  split
  · exact blen_is 1 n (by omega) (by omega)
  split
  · exact blen_is 2 n (by omega) (by omega)
  split
  · exact blen_is 3 n (by omega) (by omega)
  split
  · exact blen_is 4 n (by omega) (by omega)
  split
  · exact blen_is 5 n (by omega) (by omega)
  split
  · exact blen_is 6 n (by omega) (by omega)
  exact blen_is 7 n (by omega) (by omega)
theorem blen8_le (n : Nat) : blen8 n ≤ 8 := by
  unfold blen8
  iterate 8 (split; · omega)
  omega
theorem blen8_pos (n : Nat) (h : 0 < n) : 1 ≤ blen8 n := by
  unfold blen8
  iterate 8 (split; · omega)
  omega
theorem blen_numL (n : Nat) : (blen n + 7) / 8 = (numL n).length := by
  induction n using Nat.strongRecOn with
  | _ n ih =>
    by_cases h0 : n = 0
    · subst h0; rw [blen_zero, numL_zero]; rfl
    · rw [numL_pos (by omega), List.length_append, ← ih _ (by omega)]
      by_cases h : n < 256
      · rw [blen_small n h, show n / 256 = 0 by omega, blen_zero]
        have := blen8_le n; have := blen8_pos n (by omega); simp; omega
      · rw [blen_up 8 n (by omega)]; simp; omega

def tabB : ByteArray := ⟨(([0, 1, 2, 2, 3, 3, 3, 3, 4, 4, 4, 4, 4, 4, 4, 4, 5, 5, 5, 5, 5, 5, 5, 5, 5, 5, 5, 5, 5, 5, 5, 5, 6, 6, 6, 6, 6, 6, 6, 6, 6, 6, 6, 6, 6, 6, 6, 6, 6, 6, 6, 6, 6, 6, 6, 6, 6, 6, 6, 6, 6, 6, 6, 6].append [7, 7, 7, 7, 7, 7, 7, 7, 7, 7, 7, 7, 7, 7, 7, 7, 7, 7, 7, 7, 7, 7, 7, 7, 7, 7, 7, 7, 7, 7, 7, 7, 7, 7, 7, 7, 7, 7, 7, 7, 7, 7, 7, 7, 7, 7, 7, 7, 7, 7, 7, 7, 7, 7, 7, 7, 7, 7, 7, 7, 7, 7, 7, 7]).append ([8, 8, 8, 8, 8, 8, 8, 8, 8, 8, 8, 8, 8, 8, 8, 8, 8, 8, 8, 8, 8, 8, 8, 8, 8, 8, 8, 8, 8, 8, 8, 8, 8, 8, 8, 8, 8, 8, 8, 8, 8, 8, 8, 8, 8, 8, 8, 8, 8, 8, 8, 8, 8, 8, 8, 8, 8, 8, 8, 8, 8, 8, 8, 8].append [8, 8, 8, 8, 8, 8, 8, 8, 8, 8, 8, 8, 8, 8, 8, 8, 8, 8, 8, 8, 8, 8, 8, 8, 8, 8, 8, 8, 8, 8, 8, 8, 8, 8, 8, 8, 8, 8, 8, 8, 8, 8, 8, 8, 8, 8, 8, 8, 8, 8, 8, 8, 8, 8, 8, 8, 8, 8, 8, 8, 8, 8, 8, 8])).toArray⟩
theorem tab_blen : ∀ k, (h : k < tabB.size) → (tabB[k]'h).toNat = blen8 k := by decide +kernel

theorem tab_at (T : ByteArray) (x : Int) (h : x.toNat < T.size) (hT : T = tabB) (hx : x < 256) : (T[x.toNat]'h).toNat = blen x.toNat := by
  subst hT
  rw [tab_blen _ h, blen_small _ (by omega)]
theorem len_ret {T : ByteArray} {x c : Int} {n : Nat} {h : x.toNat < T.size} (hT : T = tabB) (hx : x < 256) (hc : 0 ≤ c ∧ c ≤ 56) (hn : blen n = c.toNat + blen x.toNat) :
    Ending.returned (.int .i64 (wrap64 (c + wrap64 ((T[x.toNat]'h).toNat : Int)))) = .returned (.int .i64 (blen n : Nat)) := by
  rw [tab_at T x h hT hx, hn]
  have h1 := blen8_le x.toNat
  rw [blen_small x.toNat (by omega)]
  rw [IntWalk.wrap64_in (blen8 x.toNat) (by omega), IntWalk.wrap64_in _ (by omega)]
  congr 2; omega
theorem len_ret0 {T : ByteArray} {x : Int} {n : Nat} {h : x.toNat < T.size} (hT : T = tabB) (hx : x < 256) (hn : blen n = blen x.toNat) :
    Ending.returned (.int .i64 (wrap64 (wrap64 ((T[x.toNat]'h).toNat : Int)))) = .returned (.int .i64 (blen n : Nat)) := by
  have := len_ret (c := 0) (n := n) (h := h) hT hx (by omega) (by simpa using hn)
  simpa using this

theorem blen_div (n : Int) (k : Nat) (m : Int) (h0 : 0 ≤ n) (hm : m = 2 ^ k) (h : m ≤ n) : blen n.toNat = k + blen (n / m).toNat := by
  obtain ⟨j, rfl⟩ := Int.eq_ofNat_of_zero_le h0
  have hm' : m = ((2 ^ k : Nat) : Int) := by rw [hm]; simp
  rw [blen_up k _ (by rw [hm'] at h; simpa using Int.ofNat_le.1 h), hm']
  congr 2

set_option maxRecDepth 30000 in
set_option maxHeartbeats 1000000 in
theorem len64_prog (n : Int) (w : World) (h0 : 0 ≤ n) (h1 : n ≤ 18446744073709551615) :
    Calls Tryd.prog 76 #[.int .u64 n] w fun e w' => e = .returned (.int .i64 (blen n.toNat)) ∧ w = w' := by
  by_cases a : 4294967296 ≤ n
  all_goals
    first
      | (have e1 : Hid (blen n.toNat = 32 + blen (n / 4294967296).toNat) := Lib.hid (blen_div n 32 _ h0 (by decide) a)
         obtain ⟨x, hx⟩ : ∃ x, x = n / 4294967296 := ⟨_, rfl⟩
         have hx0 : 0 ≤ x := by omega
         have hx1 : x ≤ 4294967295 := by omega
         by_cases b : 65536 ≤ n / 4294967296
         · have e2 : Hid (blen (n / 4294967296).toNat = 16 + blen (n / 4294967296 / 65536).toNat) := Lib.hid (blen_div _ 16 _ (by omega) (by decide) b)
           by_cases c : 256 ≤ n / 4294967296 / 65536
           · have e3 : Hid (blen (n / 4294967296 / 65536).toNat = 8 + blen (n / 4294967296 / 65536 / 256).toNat) := Lib.hid (blen_div _ 8 _ (by omega) (by decide) c)
             clear hx hx0 hx1
             go_enter Tryd.func76, Tryd.ntmps76
             go_wp2
             go_ret
             exact ⟨len_ret (by kernel_rfl) (by omega) (by omega) (by rw [e1.out, e2.out, e3.out]; omega), rfl⟩
           · clear hx hx0 hx1
             go_enter Tryd.func76, Tryd.ntmps76
             go_wp2
             go_ret
             exact ⟨len_ret (by kernel_rfl) (by omega) (by omega) (by rw [e1.out, e2.out]; omega), rfl⟩
         · by_cases c : 256 ≤ n / 4294967296
           · have e3 : Hid (blen (n / 4294967296).toNat = 8 + blen (n / 4294967296 / 256).toNat) := Lib.hid (blen_div _ 8 _ (by omega) (by decide) c)
             clear hx hx0 hx1
             go_enter Tryd.func76, Tryd.ntmps76
             go_wp2
             go_ret
             exact ⟨len_ret (by kernel_rfl) (by omega) (by omega) (by rw [e1.out, e3.out]; omega), rfl⟩
           · clear hx hx0 hx1
             go_enter Tryd.func76, Tryd.ntmps76
             go_wp2
             go_ret
             exact ⟨len_ret (by kernel_rfl) (by omega) (by omega) (by rw [e1.out]; omega), rfl⟩)
      | (by_cases b : 65536 ≤ n
         · have e2 : Hid (blen n.toNat = 16 + blen (n / 65536).toNat) := Lib.hid (blen_div _ 16 _ (by omega) (by decide) b)
           by_cases c : 256 ≤ n / 65536
           · have e3 : Hid (blen (n / 65536).toNat = 8 + blen (n / 65536 / 256).toNat) := Lib.hid (blen_div _ 8 _ (by omega) (by decide) c)
             go_enter Tryd.func76, Tryd.ntmps76
             go_wp2
             go_ret
             exact ⟨len_ret (by kernel_rfl) (by omega) (by omega) (by rw [e2.out, e3.out]; omega), rfl⟩
           · go_enter Tryd.func76, Tryd.ntmps76
             go_wp2
             go_ret
             exact ⟨len_ret (by kernel_rfl) (by omega) (by omega) (by rw [e2.out]; omega), rfl⟩
         · by_cases c : 256 ≤ n
           · have e3 : Hid (blen n.toNat = 8 + blen (n / 256).toNat) := Lib.hid (blen_div _ 8 _ (by omega) (by decide) c)
             go_enter Tryd.func76, Tryd.ntmps76
             go_wp2
             go_ret
             exact ⟨len_ret (by kernel_rfl) (by omega) (by omega) (by rw [e3.out]; omega), rfl⟩
           · go_enter Tryd.func76, Tryd.ntmps76
             go_wp2
             go_ret
             exact ⟨len_ret0 (by kernel_rfl) (by omega) rfl, rfl⟩)

theorem numL_up (n m : Nat) (h : m < (numL n).length) : numL (n / 256 ^ m) = numL (n / 256 ^ (m + 1)) ++ [UInt8.ofNat (n / 256 ^ m % 256)] := by
  have h1 : 0 < n / 256 ^ m := by
    rcases Nat.eq_zero_or_pos (n / 256 ^ m) with h0 | h0
    · rcases Nat.div_eq_zero_iff.1 h0 with h2 | h2
      · have : 0 < 256 ^ m := Nat.pow_pos (by decide)
        omega
      · have := numL_len n m h2
        omega
    · exact h0
  rw [numL_pos h1, Nat.div_div_eq_div_mul, Nat.pow_succ]
theorem numL_done (n : Nat) : numL (n / 256 ^ (numL n).length) = [] := by
  have h : n < 256 ^ (numL n).length := by
    have := valB_lt (numL n)
    rwa [valB_numL] at this
  rw [Nat.div_eq_of_lt h, numL_zero]

theorem byte_at (n : Int) (m : Nat) (h0 : 0 ≤ n) : (Value.int .u8 (n / 2 ^ (8 * m) % 256)) = byteV (UInt8.ofNat (n.toNat / 256 ^ m % 256)) := by
  obtain ⟨j, rfl⟩ := Int.eq_ofNat_of_zero_le h0
  rw [byteV_ofNat _ (by omega)]
  have e : (2 : Int) ^ (8 * m) = ((256 ^ m : Nat) : Int) := by
    rw [Int.pow_mul]; simp
  rw [e]
  simp
def NumRel (B : Nat) (w : World) (v0 : Value) (ys : List UInt8) (n : Int) (L : Nat) (v i : Value) (wr : World) : Prop :=
  ∃ (k : Nat) (j : Int), j = (k : Int) - 1 ∧ i = .int .i64 j ∧ k ≤ L ∧ OwnsB wr B v (ys ++ numL (n.toNat / 256 ^ k)) ∧ Grew w v0 wr v

def LenRes (L : Nat) (w : World) (e : Ending) (w' : World) : Prop := ∃ b : Nat, b ≤ 64 ∧ ((b : Int) + 7) / 8 = (L : Int) ∧ e = .returned (.int .i64 b) ∧ w = w'
theorem blen_le (n : Nat) (h : n < 2 ^ 64) : blen n ≤ 64 := by
  have H : ∀ (k n : Nat), n < 2 ^ k → blen n ≤ k := by
    intro k
    induction k with
    | zero => intro n h; have : n = 0 := by simpa using h
              subst this; rw [blen_zero]; omega
    | succ k ih =>
      intro n h
      by_cases h0 : n = 0
      · subst h0; rw [blen_zero]; omega
      · rw [blen_pos (by omega)]; have := ih (n / 2) (by rw [Nat.pow_succ] at h; omega); omega
  exact H 64 n h
theorem len64_res (n : Int) (w : World) (h0 : 0 ≤ n) (h1 : n < 18446744073709551616) : Calls Tryd.prog 76 #[.int .u64 n] w (LenRes (numL n.toNat).length w) :=
  (len64_prog n w h0 (by omega)).mono fun e w' ⟨he, hw⟩ => ⟨blen n.toNat, blen_le _ (by have : (2 : Nat) ^ 64 = 18446744073709551616 := by decide
                                                                                        omega), by rw [← blen_numL]; omega, he, hw⟩

set_option maxRecDepth 30000 in
set_option maxHeartbeats 1000000 in
theorem withNumber_prog (xs : List UInt8) (n : Int) (B : Nat) (v : Value) (w : World) (hown : OwnsB w B v xs) (hB : B ≤ w.heap.size) (h0 : 0 ≤ n) (h1 : n < 18446744073709551616) (hx : Room (xs.length + 12)) :
    Calls Tryd.prog 58 #[v, .int .u64 n] w (SzRes B w v (xs ++ 110 :: (szL (numL n.toNat).length ++ numL n.toNat))) := by
  have hl := numL_len n.toNat 8 (by have : (256 : Nat) ^ 8 = 18446744073709551616 := by decide
                                    omega)
  have HL := len64_res n w h0 h1
  have hdone := numL_done n.toNat
  have hup := fun m => numL_up n.toNat m
  obtain ⟨L, hL⟩ : ∃ L, (numL n.toNat).length = L := ⟨_, rfl⟩
  rw [hL] at hl HL hdone hup ⊢
  have hsz : szL L = [UInt8.ofNat L] := szL_lt (by omega)
  have HL0 := Lib.hid hL
  have HLen := Lib.hid HL
  have HOWN := Lib.hid hown
  have HSZ := Lib.hid hsz
  have HDONE := Lib.hid hdone
  have HUP := Lib.hid hup
  have H1 := Lib.hid h1
  clear HL hown hL hsz hdone hup h1
  go_enter Tryd.func58, Tryd.ntmps58
  go_wp2_with fail
  refine HLen.out.mono ?_
  rintro e w1 ⟨b, hb64, hbL, rfl, rfl⟩
  have b0 : 0 ≤ (b : Int) := by omega
  have b1 : (b : Int) ≤ 64 := by omega
  go_wp2_with (at_builtin; refine list_app1 rfl _ _ rfl B _ _ rfl (HOWN.out.alloc _) w.heap.size 1 _ 110 rfl (heap_at_alloc w _) rfl (hx.le (by omega)) (by simp; omega) ?_; intro v2 w2 h110 hb2)
  have hb02 : Grew w v w2 v2 := (Grew.alloc _ _ _).trans hb2
  clear hb2
  refine (withSize_prog (xs ++ [110]) L B v2 w2 h110 (Nat.le_trans hB hb02.size) (by unfold Lim; omega) (hx.le (by rw [HSZ.out]; simp))).mono ?_
  rintro e w3 ⟨v3, rfl, hown3, hb3⟩
  have hb03 := hb02.trans hb3
  have HOWN3 := Lib.hid hown3
  clear hb3 hown3 h110 hb02
  have hLl : (L : Int) ≤ 8 := by omega
  go_wp2_with fail
  go_loopw [0, 6] (NumRel B w v (xs ++ 110 :: szL L) n L) (fun _ i _ => (intOf i + 1).toNat)
  case atStart => exact ⟨L, (L : Int) - 1, rfl, rfl, Nat.le_refl _, by rw [HDONE.out]; simpa using HOWN3.out, hb03⟩
  case round =>
    obtain ⟨k, j, hj, rfl, hk, how, hb⟩ := hrel
    have HJ := Lib.hid hj
    have HOW := Lib.hid how
    have hBr : B ≤ wr.heap.size := Nat.le_trans hB hb.size
    clear hj how
    rcases Nat.eq_zero_or_pos k with hk0 | hk0
    · obtain ⟨i, hi⟩ : ∃ i, i = j := ⟨_, rfl⟩
      have hneg : j < 0 := by have := HJ.out; omega
      clear hi
      go_wp2_with fail
      go_ret
      refine ⟨_, rfl, ?_, hb⟩
      have := HOW.out
      rw [hk0] at this
      simpa using this
    · obtain ⟨m, rfl⟩ : ∃ m, k = m + 1 := ⟨k - 1, by omega⟩
      obtain rfl : j = (m : Int) := by have := HJ.out; omega
      clear HJ
      have hm0 : 0 ≤ (m : Int) := by omega
      have hm8 : (m : Int) ≤ 7 := by omega
      clear hk0
      have hlen : (xs ++ 110 :: szL L ++ numL (n.toNat / 256 ^ (m + 1))).length + 1 ≤ xs.length + 12 := by
        have e1 := congrArg List.length (HUP.out m (by omega))
        have e2 := numL_len (n.toNat / 256 ^ m) (L - m) (by
          rw [Nat.div_lt_iff_lt_mul (Nat.pow_pos (by decide)), ← Nat.pow_add, show L - m + m = L by omega]
          have := valB_lt (numL n.toNat)
          rwa [valB_numL, HL0.out] at this)
        rw [HSZ.out]; simp at e1 e2 ⊢; omega
      have HBY := Lib.hid (byte_at n m h0)
      go_wp2_with (at_builtin; refine list_app1 rfl _ _ rfl B _ _ rfl (HOW.out.alloc _) wr.heap.size 1 _ _ rfl (heap_at_alloc wr _) HBY.out (hx.le hlen) (by simp; omega) ?_; intro v4 w4 hown4 hb4)
      go_roundw
      case rel => exact ⟨m, (m : Int) - 1, rfl, rfl, by omega, by rw [HUP.out m (by omega)]; simpa using hown4, (hb.trans (Grew.alloc _ _ _)).trans hb4⟩
      case measure => rw [intOf_int, intOf_int]; omega
end Go.Proofs.YtpkkdjmcabefbaaDoor.Cod
namespace Go.Proofs.YtpkkdjmcabefbaaDoor.Cod
open Go.RowKit

theorem toList_nil (s : ByteArray) : (s.toList = []) ↔ s.size = 0 := by
  rw [ByteArray.toList_eq]
  constructor
  · intro h; have := congrArg List.length h; simpa using this
  · intro h; exact List.eq_nil_of_length_eq_zero (by simpa using h)
theorem isEmpty_size (s : ByteArray) : s.toList.isEmpty = (s.size == 0) := by
  rw [Bool.eq_iff_iff, List.isEmpty_iff, toList_nil]; simp
theorem ret_bool {a b : Bool} (h : a = b) : Ending.returned (.bool a) = .returned (.bool b) := by rw [h]
theorem natInt_beq (n : Nat) : ((n : Int) == 0) = (n == 0) := by
  rw [Bool.eq_iff_iff]; simp

set_option maxRecDepth 30000 in
set_option maxHeartbeats 1000000 in
theorem plain_prog (k n : Int) (s : ByteArray) (a : Option Addr) (len cap : Nat) (w : World) :
    Calls Tryd.prog 57 #[nodeV k n s (.slice a len cap)] w fun e w' => e = .returned (.bool (plainB k n s len)) ∧ Below w.heap.size w w' := by
  unfold nodeV
  go_enter Tryd.func57, Tryd.ntmps57
  go_wp2
  all_goals
    go_ret
    refine ⟨ret_bool ?_, (Below.refl _ _).alloc (Nat.le_refl _) _⟩
    simp only [toList_nil, isEmpty_size, beq_iff_eq, beq_eq_false_iff_ne] at *
    simp_all [plainB, natInt_beq]
end Go.Proofs.YtpkkdjmcabefbaaDoor.Cod
namespace Go.Proofs.YtpkkdjmcabefbaaDoor.Cod
open Go.RowKit

def Fits (m : Nat) : Prop := m ≤ 16777216
theorem Fits.le {a b : Nat} (h : Fits b) (hab : a ≤ b) : Fits a := Nat.le_trans hab h
theorem Fits.room {a b : Nat} (h : Fits b) (hab : a ≤ b + 1000) : Room a := by unfold Fits at h; unfold Room; omega

theorem Grew.toNil (w : World) (v : Value) : Grew w v w (.slice none 0 0) := ⟨⟨rfl, rfl, rfl, Nat.le_refl _, fun _ _ _ => rfl⟩, (fun _ h => by cases h)⟩

theorem step_app_strB {ops : Array Oper} {o : Oper} {a : Act} {K : Act → World → Prop} {Q : Exit → Act → World → Prop} {E : Prop} {w : World} (hgd : o.guard = none) (sl x : Operand)
    (ho : o.op = .call { callee := .builtin .append, args := #[sl, x], argTypes := #[57, 9] })
    (B : Nat) (v : Value) (xs : List UInt8) (hs : a.eval sl = v) (hown : OwnsB w B v xs) (s : ByteArray) (hx : a.eval x = .string s) (hr : Room (xs.length + s.size)) (hbase : B ≤ w.heap.size)
    (h : ∀ v' w', OwnsB w' B v' (xs ++ s.data.toList) → Grew w v w' v' → K (a.put o.dst v') w') : if Region.wanted o (yielded ops a.tmps) = true then Oper.wp Tryd.prog o a w K Q else E := by
  have hw : Region.wanted o (yielded ops a.tmps) = true := by simp [Region.wanted, hgd]
  rw [if_pos hw]
  unfold Room at hr
  refine wp_app_str sl x _ _ ho B _ Tryd.bytesSlN Tryd.underlying9 v xs.length _ hs hown s hx (by unfold maxLen; omega) (by omega) hbase ?_
  intro v' w' h2 h3
  refine h v' w' ?_ h3
  unfold OwnsB
  rw [List.length_append, List.map_append]
  exact h2

theorem OwnsB.shape {w : World} {B : Nat} {v : Value} {xs : List UInt8} (h : OwnsB w B v xs) : ∃ a cap, v = .slice a xs.length cap := by
  obtain ⟨a, cap, e⟩ := h.owns.shape
  exact ⟨a, cap, by simpa using e⟩

theorem szL_len (n : Nat) (h : n < 268435456) : (szL n).length ≤ 4 := by
  have H : ∀ (k n : Nat), n < 128 ^ (k + 1) → (szL n).length ≤ k + 1 := by
    intro k
    induction k with
    | zero => intro n h; rw [szL_lt (by simpa using h)]; simp
    | succ k ih =>
      intro n h
      by_cases h1 : n < 128
      · rw [szL_lt h1]; simp
      · rw [szL_ge (by omega)]
        have := ih (n / 128) (by rw [Nat.pow_succ] at h; omega)
        simp; omega
  exact H 3 n (by simpa using h)

/-- A node's bytes without its kids'. -/
def headL (k n : Int) (s : ByteArray) (len : Nat) : List UInt8 :=
  if k = 0 then 110 :: (szL (numL n.toNat).length ++ numL n.toNat) else if k = 1 then 115 :: (szL s.size ++ s.data.toList) else 108 :: szL len
theorem nodeL_head {k n : Int} {s : ByteArray} {c : F} (h : plainB k n s c.len = true) : nodeL k n s c.len c.bytes = headL k n s c.len ++ c.bytes := by
  unfold plainB at h
  unfold nodeL headL
  split
  · rename_i hk; rw [if_pos hk] at h
    simp at h
    rw [F.len_zero h.2]; simp [F.bytes]
  · rename_i hk; rw [if_neg hk] at h
    split
    · rename_i hk1; rw [if_pos hk1] at h
      simp at h
      rw [F.len_zero h.2]; simp [F.bytes]
    · simp

def WrRes (B : Nat) (w : World) (v : Value) (zs : List UInt8) (r : Bool) (e : Ending) (w' : World) : Prop :=
  ∃ v', e = .returned (.tuple #[v', .bool r]) ∧ Grew w v w' v' ∧ (r = true → OwnsB w' B v' zs) ∧ (r = false → v' = .slice none 0 0)

def WrLoop (B : Nat) (w1 : World) (v : Value) (zs : List UInt8) (c : F) (d : Nat) (rb : Bool) (s0 s8 s9 : Value) (wr : World) : Prop :=
  ∃ (i : Nat) (ok : Bool), s8 = .bool ok ∧ s9 = .int .i64 i ∧ i ≤ c.len ∧ Grew w1 v wr s0 ∧
    (ok = true → Hid ((c.drop i).right d = rb) ∧ ∃ ys, OwnsB wr B s0 ys ∧ Hid (ys ++ (c.drop i).bytes = zs)) ∧ (ok = false → rb = false)

def WrOk (D : Nat) : Prop := ∀ (k n : Int) (s : ByteArray) (c : F) (kv : Value) (d : Nat) (lv : Int) (B : Nat) (v : Value) (xs : List UInt8) (w : World), c.deep < D → Nd.ok ⟨k, n, s, c⟩ → lv = 21 - (d : Int) → d ≤ 20 →
  KidsAt w (· < B) c kv → OwnsB w B v xs → B ≤ w.heap.size → Fits (xs.length + (nodeL k n s c.len c.bytes).length) →
  Calls Tryd.prog 40 #[v, nodeV k n s kv, .int .i64 lv] w (WrRes B w v (xs ++ nodeL k n s c.len c.bytes) (Nd.right ⟨k, n, s, c⟩ d))

set_option maxRecDepth 30000 in
set_option maxHeartbeats 1000000 in
theorem written_step (D : Nat) (IH : WrOk D) : WrOk (D + 1) := by
  intro k n s c kv d lv B v xs w hD hok hlv hd hk hown hB hfit
  have HIH := Lib.hid IH
  have HOWN := Lib.hid hown
  have HK := Lib.hid hk
  obtain ⟨ka, kc, rfl⟩ := hk.shape
  have HOK := Lib.hid hok
  clear IH hown hk hok
  rcases Nat.eq_zero_or_pos d with h0 | h0
  · subst h0
    obtain rfl : lv = 21 := by omega
    have hr : Nd.right ⟨k, n, s, c⟩ 0 = false := by simp [Nd.right]
    rw [hr]
    clear hr hlv
    unfold nodeV
    go_enter Tryd.func40, Tryd.ntmps40
    go_wp2_with fail
    go_ret2
    exact ⟨_, rfl, (Grew.alloc _ _ _).trans (Grew.toNil _ _), (fun h => by cases h), (fun _ => rfl)⟩
  · have hlv20 : lv ≤ 20 := by omega
    have HPL := Lib.hid (fun w => plain_prog k n s ka c.len kc w)
    obtain ⟨pb, hpb⟩ : ∃ pb, plainB k n s c.len = pb := ⟨_, rfl⟩
    cases pb with
    | false =>
      have hr : Nd.right ⟨k, n, s, c⟩ d = false := by simp [Nd.right, hpb]
      rw [hr]
      rw [hpb] at HPL
      clear hr hlv hpb
      unfold nodeV at HPL ⊢
      go_enter Tryd.func40, Tryd.ntmps40
      go_wp2_with fail
      refine (HPL.out _).mono ?_
      rintro e w1 ⟨rfl, hb1⟩
      go_wp2_with fail
      go_ret2
      exact ⟨_, rfl, ((Grew.alloc _ _ v).trans (Grew.ofBelow v hb1)).trans (Grew.toNil _ _), (fun h => by cases h), (fun _ => rfl)⟩
    | true =>
      rw [hpb] at HPL
      have hnl := nodeL_head (n := n) hpb
      rw [hnl] at hfit ⊢
      obtain ⟨rb, hrb⟩ : ∃ rb, c.right (d - 1) = rb := ⟨_, rfl⟩
      have hr : Nd.right ⟨k, n, s, c⟩ d = rb := by simp [Nd.right, hpb, h0, hrb]
      rw [hr]
      have HRB := Lib.hid hrb
      have hok2 := HOK.out
      obtain ⟨⟨hn0, hn1⟩, hs28, hc28, hck⟩ := hok2
      simp only at hn0 hn1 hs28 hc28 hck
      have hs24 : (s.size : Int) ≤ 16777216 := by
        unfold plainB at hpb
        by_cases k1 : k = 1
        · subst k1
          rw [if_neg (by decide), if_pos rfl] at hpb
          unfold Fits headL at hfit
          simp at hfit
          omega
        · by_cases k0 : k = 0
          · rw [if_pos k0] at hpb; simp at hpb; rw [hpb.1]; simp
          · rw [if_neg k0, if_neg k1] at hpb; simp at hpb; rw [hpb.2]; simp
      have HN1 := Lib.hid hn1
      have HS28 := Lib.hid hs28
      have HC28 := Lib.hid hc28
      have HCK := Lib.hid hck
      have HPB := Lib.hid hpb
      have HFIT := Lib.hid hfit
      have HNL := Lib.hid hnl
      have HLV := Lib.hid hlv
      clear hn1 hs28 hc28 hck hpb hfit hr hnl hrb hlv
      unfold nodeV at HPL ⊢
      go_enter Tryd.func40, Tryd.ntmps40
      go_wp2_with fail
      refine (HPL.out _).mono ?_
      rintro e w1 ⟨rfl, hb1⟩
      have g1 : Grew w v w1 v := (Grew.alloc _ _ v).trans (Grew.ofBelow v hb1)
      have cc : ∀ (o : Nat) (x : Value), (w.alloc (.cells #[.int .i64 k, .int .u64 n, .string s, .slice ka c.len kc] 46)).cell? ⟨w.heap.size, o, none⟩ = some x → w1.cell? ⟨w.heap.size, o, none⟩ = some x :=
        fun o x h => by rw [hb1.cell (p := ⟨w.heap.size, o, none⟩) (by simp)]; exact h
      have c0 := cc 0 (.int .i64 k) (by simp [World.cell?_alloc_new])
      have c1 := cc 1 (.int .u64 n) (by simp [World.cell?_alloc_new])
      have c2 := cc 2 (.string s) (by simp [World.cell?_alloc_new])
      have c3 := cc 3 (.slice ka c.len kc) (by simp [World.cell?_alloc_new])
      have hgt : w.heap.size < w1.heap.size := by have := hb1.size; simp at this; omega
      have H1 : Hid (OwnsB w1 B v xs) := Lib.hid (OwnsB.of ((HOWN.out.owns.alloc _).later hb1))
      have hne := HOWN.out.ne (Nat.le_refl _)
      have HG1 := Lib.hid g1
      have HNE := Lib.hid hne
      clear cc hb1 g1 hne
      go_upto_block 0 with (fail)
      go_cut [0] (fun s0 wx => OwnsB wx B s0 (xs ++ headL k n s c.len) ∧ Grew w1 v wx s0)
      case first =>
        have c2H := Lib.hid c2
        by_cases k0 : k = 0
        · subst k0
          go_wp2_with fail
          have hh : headL 0 n s c.len = 110 :: (szL (numL n.toNat).length ++ numL n.toNat) := by simp [headL]
          refine (withNumber_prog xs n B v w1 H1.out (by omega) hn0 HN1.out (HFIT.out.room (by rw [hh]; simp; omega))).mono ?_
          rintro e w2 ⟨v2, rfl, h2, g2⟩
          go_wp2_with fail
          go_meet
          rw [hh]
          exact ⟨h2, g2⟩
        · by_cases k1 : k = 1
          · subst k1
            have hh : headL 1 n s c.len = 115 :: (szL s.size ++ s.data.toList) := by simp [headL]
            have hsz := szL_len s.size HS28.out
            have hroom : Hid (Room (xs.length + 1 + (szL s.size).length + s.size + 100)) := Lib.hid (HFIT.out.room (by rw [hh]; simp; omega))
            have HSZ := Lib.hid hsz
            have HH := Lib.hid hh
            clear hsz hh
            go_wp2_with fail
            go_region_held3 (fun w' => w'.cell? ⟨w.heap.size, 2, none⟩ = some (.string s))
              (first
                | exact c2H.out
                | (exact (Grew.alloc _ _ (.slice none 0 0)).cell c2H.out (by simp [Value.ownBlock]))
                | exact G4.cell c2H.out HNE.out
                | exact G3.cell c2H.out HNE.out
                | exact G2.cell c2H.out HNE.out)
              (first
                | (refine step_app1 rfl _ _ (by rfl) B _ xs (by rfl) ((H1.out.alloc _).drew) w1.heap.size 1 _ 115 (by rfl) (heap_at_alloc w1 _) rfl (hroom.out.le (by omega)) (by simp [World.drew]; omega) ?_; intro v2 w2 hown2 hb2; have G2 : Grew w1 v w2 v2 := ((Grew.alloc _ _ _).trans (Grew.drew _ _)).trans hb2)
                | (go_at_call 59; refine (withSize_prog (xs ++ [115]) s.size B v2 w2 hown2 (by have := G2.size; omega) HS28.out (hroom.out.le (by simp <;> omega))).mono ?_; rintro e w3 ⟨v3, rfl, hown3, hb3⟩; have G3 : Grew w1 v w3 v3 := G2.trans hb3)
                | (refine step_app_strB rfl _ _ (by rfl) B _ _ (by rfl) hown3 s (by rfl) (hroom.out.le (by simp; omega)) (by have := G3.size; omega) ?_; intro v4 w4 hown4 hb4; have G4 : Grew w1 v w4 v4 := G3.trans hb4))
            go_wp2_with fail
            go_meet
            rw [HH.out]
            exact ⟨by simpa using hown4, G4⟩
          · have k2 : k = 2 := by
              have := HPB.out
              unfold plainB at this
              rw [if_neg k0, if_neg k1] at this
              simp at this; exact this.1.1
            subst k2
            have hh : headL 2 n s c.len = 108 :: szL c.len := by simp [headL]
            have hsz := szL_len c.len HC28.out
            have hroom : Hid (Room (xs.length + 1 + (szL c.len).length + 100)) := Lib.hid (HFIT.out.room (by rw [hh]; simp; omega))
            have HSZ := Lib.hid hsz
            have HH := Lib.hid hh
            have c3H := Lib.hid c3
            clear hsz hh
            go_wp2_with fail
            go_region_held3 (fun w' => w'.cell? ⟨w.heap.size, 3, none⟩ = some (.slice ka c.len kc))
              (first
                | exact c3H.out
                | (exact (Grew.alloc _ _ (.slice none 0 0)).cell c3H.out (by simp [Value.ownBlock]))
                | exact G3.cell c3H.out HNE.out
                | exact G2.cell c3H.out HNE.out)
              (first
                | (refine step_app1 rfl _ _ (by rfl) B _ xs (by rfl) ((H1.out.alloc _).drew) w1.heap.size 1 _ 108 (by rfl) (heap_at_alloc w1 _) rfl (hroom.out.le (by omega)) (by simp [World.drew]; omega) ?_; intro v2 w2 hown2 hb2; have G2 : Grew w1 v w2 v2 := ((Grew.alloc _ _ _).trans (Grew.drew _ _)).trans hb2)
                | (go_at_call 59; refine (withSize_prog (xs ++ [108]) c.len B v2 w2 hown2 (by have := G2.size; omega) HC28.out (hroom.out.le (by simp <;> omega))).mono ?_; rintro e w3 ⟨v3, rfl, hown3, hb3⟩; have G3 : Grew w1 v w3 v3 := G2.trans hb3))
            go_wp2_with fail
            go_meet
            rw [HH.out]
            exact ⟨by simpa using hown3, G3⟩
      case rest =>
        obtain ⟨ho, hg⟩ := hcut
        have hc3 : wc.cell? ⟨w.heap.size, 3, none⟩ = some (.slice ka c.len kc) := hg.cell c3 HNE.out
        obtain ⟨oa, ocap, rfl⟩ := ho.shape
        obtain ⟨N, hN⟩ : ∃ N, (xs ++ headL k n s c.len).length = N := ⟨_, rfl⟩
        have hN24 : (N : Int) ≤ 16777216 := by have := HFIT.out; unfold Fits at this; rw [← hN]; simp at this ⊢; omega
        rw [hN] at hg ⊢
        have HO := Lib.hid ho
        rw [hN] at HO
        clear ho hN
        go_wp2_with fail
        go_loopw [0, 8, 9] (WrLoop B w1 v (xs ++ (headL k n s c.len ++ c.bytes)) c (d - 1) rb) (fun _ _ i _ => c.len - (intOf i).toNat)
        case atStart =>
          exact ⟨0, true, rfl, rfl, by omega, hg, fun _ => ⟨by simpa [F.drop] using HRB, xs ++ headL k n s c.len, HO.out, Lib.hid (by simp [F.drop])⟩, (fun h => by cases h)⟩
        case round =>
          clear hc3
          obtain ⟨i, ok, rfl, rfl, hi, hg, h1, h2⟩ := hrel
          have hc3 := hg.cell c3 HNE.out
          have hBr : B ≤ wr.heap.size := by have := hg.size; omega
          cases ok with
          | false =>
            obtain rfl := h2 rfl
            clear h1 h2
            go_wp2_with fail
            go_ret2
            exact ⟨_, rfl, (HG1.out.trans hg).trans (Grew.toNil _ _), (fun h => by cases h), (fun _ => rfl)⟩
          | true =>
            obtain ⟨hri, ys, hys, hyz⟩ := h1 rfl
            have HYS := Lib.hid hys
            clear h1 h2 hys
            by_cases hlt : i < c.len
            · obtain ⟨g, o, cap, hkv, hgB, hl⟩ := HK.out.lies (by omega)
              injection hkv with e1 _ e2
              subst e1 e2
              have hbel : Below B w wr := (HG1.out.trans hg).belowB hB HOWN.out
              obtain ⟨k', n', s', c', hdrop⟩ := F.drop_at c i hlt
              have hli := (Lies.drop i c g o hl).below hgB hbel
              rw [hdrop] at hli
              obtain ⟨⟨kv', l0, l1, l2, l3, hk'⟩, _⟩ := lies_cons.1 hli
              obtain ⟨ka', kc', rfl⟩ := hk'.shape
              have HK' := Lib.hid hk'
              have HD := Lib.hid hdrop
              clear hdrop hli hl hk'
              have hi0 : (0 : Int) ≤ (i : Int) := by omega
              have hi1 : (i : Int) ≤ 268435456 := by have := HC28.out; omega
              have hlv1 : wrap64 (lv + 1) = lv + 1 := IntWalk.wrap64_in _ (by have := HLV.out; omega)
              have hdeep : c'.deep < D := by
                have e1 := F.drop_deep c i
                rw [HD.out] at e1
                simp only [F.deep] at e1
                omega
              have hok' : Hid (F.ok (.cons k' n' s' c' (c.drop (i + 1)))) := Lib.hid (by rw [← HD.out]; exact F.drop_ok c i HCK.out)
              have hyz' : Hid ((ys ++ nodeL k' n' s' c'.len c'.bytes) ++ (c.drop (i + 1)).bytes = xs ++ (headL k n s c.len ++ c.bytes)) := Lib.hid (by
                have := hyz.out
                rw [HD.out, F.bytes] at this
                rw [← this]; simp)
              have hri' : Hid ((Nd.right ⟨k', n', s', c'⟩ (d - 1) && (c.drop (i + 1)).right (d - 1)) = rb) := Lib.hid (by
                have := hri.out
                rw [HD.out, F.right] at this
                rw [← this, Nd.right]; simp [Bool.and_assoc])
              have hfit' : Hid (Fits (ys.length + (nodeL k' n' s' c'.len c'.bytes).length)) := Lib.hid (HFIT.out.le (by
                have := congrArg List.length hyz'.out
                simp at this ⊢; omega))
              have hlvd : Hid (lv + 1 = 21 - ((d - 1 : Nat) : Int)) := Lib.hid (by have := HLV.out; omega)
              have HBEL := Lib.hid hbel
              clear hbel
              go_wp2_with fail
              have hcall := HIH.out k' n' s' c' _ (d - 1) (lv + 1) B u0 ys wr hdeep ⟨hok'.out.1, hok'.out.2.1, hok'.out.2.2.1, hok'.out.2.2.2.1⟩ hlvd.out (by omega) HK'.out HYS.out hBr hfit'.out
              obtain ⟨rk, hrk⟩ : ∃ rk, Nd.right ⟨k', n', s', c'⟩ (d - 1) = rk := ⟨_, rfl⟩
              rw [hrk] at hcall hri'
              have HCALL := Lib.hid hcall
              clear hcall hrk
              refine HCALL.out.mono ?_
              rintro e w4 ⟨v4, rfl, g4, t4, f4⟩
              have HT := Lib.hid t4
              have HF := Lib.hid f4
              clear t4 f4 HCALL
              go_wp2
              clear hlv1
              go_roundw
              case rel =>
                refine ⟨i + 1, rk, rfl, by go_num, by omega, hg.trans g4, fun h => ?_, fun h => ?_⟩
                · subst h
                  exact ⟨Lib.hid (by simpa using hri'.out), _, HT.out rfl, hyz'⟩
                · subst h
                  simpa using hri'.out.symm
              case measure => rw [intOf_int, intOf_int]; omega
            · obtain rfl : i = c.len := by omega
              go_wp2_with fail
              go_ret2
              have e1 := hri.out
              have e2 := hyz.out
              rw [F.drop_end] at e1 e2
              obtain rfl : rb = true := by rw [← e1]; rfl
              refine ⟨_, rfl, HG1.out.trans hg, fun _ => ?_, (fun h => by cases h)⟩
              rw [← e2]; simpa [F.bytes] using HYS.out

theorem written_ok : ∀ D, WrOk D
  | 0 => fun _ _ _ _ _ _ _ _ _ _ _ h => by omega
  | D + 1 => written_step D (written_ok D)

set_option maxRecDepth 30000 in
set_option maxHeartbeats 1000000 in
theorem write_prog (k n : Int) (s : ByteArray) (c : F) (kv : Value) (w : World) (hok : Nd.ok ⟨k, n, s, c⟩) (hk : KidsAt w (· < w.heap.size) c kv) (hfit : Fits (nodeL k n s c.len c.bytes).length)
    (r : Bool) (S : ByteArray) (hr : Nd.right ⟨k, n, s, c⟩ 20 = r) (hS : S = if r then ⟨(nodeL k n s c.len c.bytes).toArray⟩ else ⟨#[]⟩) :
    Calls Tryd.prog 19 #[nodeV k n s kv] w fun e w' => e = .returned (.tuple #[.string S, .bool r]) ∧ Below w.heap.size w w' := by
  obtain ⟨ka, kc, rfl⟩ := hk.shape
  have hcall := written_ok (c.deep + 1) k n s c (.slice ka c.len kc) 20 1 w.heap.size (.slice none 0 0) [] (w.alloc (.cells #[.int .i64 k, .int .u64 n, .string s, .slice ka c.len kc] 46)) (by omega) hok (by omega) (by omega)
    (hk.below ((Below.refl _ _).alloc (Nat.le_refl _) _)) (OwnsB.nil _ _) (by simp) (by simpa using hfit)
  rw [hr] at hcall
  have HS := Lib.hid hS
  unfold nodeV at hcall
  have HC := Lib.hid hcall
  unfold nodeV
  clear hcall hS hr hok hk hfit
  go_enter Tryd.func19, Tryd.ntmps19
  go_wp2_with fail
  refine HC.out.mono ?_
  rintro e w1 ⟨v1, rfl, g1, t1, f1⟩
  have hb : Below w.heap.size w w1 := ((Below.refl _ _).alloc (Nat.le_refl _) _).trans (g1.below (by simp) (fun k h => by cases h))
  cases r with
  | false =>
    obtain rfl := f1 rfl
    have hcv : (convert 57 9 (.slice none 0 0)).run Tryd.prog w1 = .ok (.string ⟨#[]⟩) w1 := run_string_owned (l := []) Tryd.underlying57 Tryd.underlying5 Tryd.underlying9 (Owns.nil w1 0 5)
    clear t1 f1
    go_wp2
    go_ret2
    exact ⟨by rw [HS.out]; rfl, hb⟩
  | true =>
    have ho := (t1 rfl).owns
    have hcv := run_string_owned (src := 57) (dst := 9) Tryd.underlying57 Tryd.underlying5 Tryd.underlying9 ho
    simp only [List.nil_append] at hcv
    clear t1 f1 ho
    go_wp2
    go_ret2
    exact ⟨by rw [HS.out]; rfl, hb⟩
end Go.Proofs.YtpkkdjmcabefbaaDoor.Cod
