/- Maps as trees of one shape: one shape for one content, like roots, lengths, prefixes; the pure part. -/
import Derived.Test.YtohcackebmmikaaDoorIModel
namespace Go.Proofs.YtohcackebmmikaaDoor
open Go.Op


/-- What is hashed, node by node; and the values. -/
def Tr.texts : Tr → List (List UInt8)
  | .leaf k v => [ks v, leafT k v]
  | .fork p k z o => z.texts ++ o.texts ++ [forkT p k z.hash o.hash]
/-- The last of these. -/
def Tr.last : Tr → List UInt8
  | .leaf k v => leafT k v
  | .fork p k z o => forkT p k z.hash o.hash
theorem Tr.hash_last : ∀ t : Tr, t.hash = sumB t.last
  | .leaf _ _ => rfl
  | .fork _ _ _ _ => rfl
theorem Tr.last_mem : ∀ t : Tr, t.last ∈ t.texts
  | .leaf _ _ => by simp [Tr.texts, Tr.last]
  | .fork _ _ _ _ => by simp [Tr.texts, Tr.last]
theorem sumB_inj {a b : List UInt8} (h : sumB a = sumB b) : sumL a = sumL b := by rw [← ks_sumB, ← ks_sumB, h]

/-- Two unlike texts of one hash. -/
def ClashP (A : List (List UInt8)) : Prop := ∃ x ∈ A, ∃ y ∈ A, x ≠ y ∧ sumL x = sumL y

theorem app32 {a b c d : List UInt8} (h : a.length = c.length) (e : a ++ b = c ++ d) : a = c ∧ b = d := List.append_inj e h

theorem clash_or : ∀ (t u : Tr), t.sz → u.sz → t.hash = u.hash → t = u ∨ ∃ x ∈ t.texts, ∃ y ∈ u.texts, x ≠ y ∧ sumL x = sumL y
  | .leaf k v, .leaf k' v', ht, hu, h => by
    by_cases e : leafT k v = leafT k' v'
    · have e1 : ks k ++ sumL (ks v) = ks k' ++ sumL (ks v') := by simpa [leafT] using e
      obtain ⟨e2, e3⟩ := app32 (by rw [ks_length, ks_length, ht.1, hu.1]) e1
      by_cases e4 : ks v = ks v'
      · exact .inl (by rw [ks_inj e2, ks_inj e4])
      · exact .inr ⟨ks v, by simp [Tr.texts], ks v', by simp [Tr.texts], e4, e3⟩
    · exact .inr ⟨_, by simp [Tr.texts], _, by simp [Tr.texts], e, sumB_inj h⟩
  | .leaf k v, .fork p' k' z' o', _, _, h => .inr ⟨_, Tr.last_mem _, _, Tr.last_mem _, by simp [Tr.last, leafT, forkT], sumB_inj (by rw [← Tr.hash_last, ← Tr.hash_last]; exact h)⟩
  | .fork p k z o, .leaf k' v', _, _, h => .inr ⟨_, Tr.last_mem _, _, Tr.last_mem _, by simp [Tr.last, leafT, forkT], sumB_inj (by rw [← Tr.hash_last, ← Tr.hash_last]; exact h)⟩
  | .fork p k z o, .fork p' k' z' o', ht, hu, h => by
    by_cases e : forkT p k z.hash o.hash = forkT p' k' z'.hash o'.hash
    · have e0 : UInt8.ofNat (p / 256) = UInt8.ofNat (p' / 256) ∧ UInt8.ofNat (p % 256) = UInt8.ofNat (p' % 256) ∧ ks k ++ (ks z.hash ++ ks o.hash) = ks k' ++ (ks z'.hash ++ ks o'.hash) := by simpa [forkT] using e
      obtain ⟨_, e1, e2⟩ := e0
      have hp : p = p' := by
        have h1 := congrArg UInt8.toNat e1
        simp at h1
        have := ht.1; have := hu.1; omega
      obtain ⟨e3, e4⟩ := app32 (by rw [ks_length, ks_length, ht.2.1, hu.2.1]) e2
      obtain ⟨e5, e6⟩ := app32 (by rw [ks_length, ks_length, Tr.hash_size, Tr.hash_size]) e4
      subst hp
      have e3' := ks_inj e3; subst e3'
      rcases clash_or z z' ht.2.2.1 hu.2.2.1 (ks_inj e5) with rfl | ⟨x, hx, y, hy, h1, h2⟩
      · rcases clash_or o o' ht.2.2.2 hu.2.2.2 (ks_inj e6) with rfl | ⟨x, hx, y, hy, h1, h2⟩
        · exact .inl rfl
        · exact .inr ⟨x, by simp [Tr.texts, hx], y, by simp [Tr.texts, hy], h1, h2⟩
      · exact .inr ⟨x, by simp [Tr.texts, hx], y, by simp [Tr.texts, hy], h1, h2⟩
    · exact .inr ⟨_, Tr.last_mem _, _, Tr.last_mem _, e, sumB_inj h⟩

/-- The first pair's key. -/
def Tr.head : Tr → ByteArray
  | .leaf k _ => k
  | .fork _ _ z _ => z.head
def Tr.tail : Tr → ByteArray
  | .leaf k _ => k
  | .fork _ _ _ o => o.tail
theorem Tr.head_pairs : ∀ t : Tr, ∃ v r, t.pairs = (t.head, v) :: r
  | .leaf k v => ⟨v, [], rfl⟩
  | .fork _ _ z o => by
    obtain ⟨v, r, e⟩ := Tr.head_pairs z
    exact ⟨v, r ++ o.pairs, by rw [Tr.pairs, e]; rfl⟩
theorem Tr.tail_pairs : ∀ t : Tr, ∃ v r, t.pairs = r ++ [(t.tail, v)]
  | .leaf k v => ⟨v, [], rfl⟩
  | .fork _ _ z o => by
    obtain ⟨v, r, e⟩ := Tr.tail_pairs o
    exact ⟨v, z.pairs ++ r, by rw [Tr.pairs, e, List.append_assoc]; rfl⟩
theorem Tr.head_mem (t : Tr) : ∃ v, (t.head, v) ∈ t.pairs := by
  obtain ⟨v, r, e⟩ := t.head_pairs; exact ⟨v, by rw [e]; exact List.mem_cons_self ..⟩
theorem Tr.tail_mem (t : Tr) : ∃ v, (t.tail, v) ∈ t.pairs := by
  obtain ⟨v, r, e⟩ := t.tail_pairs; exact ⟨v, by rw [e]; simp⟩
/-- A fork's place is where its first and last keys part, and its key the first bits. -/
theorem fork_place {p : Nat} {k : ByteArray} {z o : Tr} (h : (Tr.fork p k z o).wf) : (∀ i, i < p → bitL (ks z.head) i = bitL (ks o.tail) i) ∧ bitL (ks z.head) p = false ∧ bitL (ks o.tail) p = true ∧ k = firstB z.head p ∧ z.head.size = 32 ∧ o.tail.size = 32 := by
  obtain ⟨v, hv⟩ := z.head_mem
  obtain ⟨u, hu⟩ := o.tail_mem
  have h1 := Tr.pairs_ok h (z.head, v) (by rw [Tr.pairs]; exact List.mem_append_left o.pairs hv)
  have h2 := Tr.pairs_ok h (o.tail, u) (by rw [Tr.pairs]; exact List.mem_append_right z.pairs hu)
  have h3 := Tr.pairs_ok h.2.2.2.2.2.2.2.1 (z.head, v) hv
  have e1 : ∀ i, i < p → bitL (ks z.head) i = bitL (ks k) i := fun i hi => h1.2.2 i hi
  have e2 : ∀ i, i < p → bitL (ks o.tail) i = bitL (ks k) i := fun i hi => h2.2.2 i hi
  have e3 : bitL (ks z.head) p = false := side_z h (z.head, v) hv
  have e4 : bitL (ks o.tail) p = true := side_o h (o.tail, u) hu
  have e5 : k = firstB z.head p := by
    have hz := Tr.wf_key h.2.2.2.2.2.2.2.1
    have hp := h.2.1
    have e6 : firstB z.key p = firstB z.head p := firstB_eq _ _ p (by rw [hz]; exact h3.1.symm) (fun i hi => (h3.2.2 i (Nat.lt_trans hi hp)).symm)
    exact h.2.2.2.1.trans e6
  exact ⟨fun i hi => (e1 i hi).trans (e2 i hi).symm, e3, e4, e5, h1.1, h2.1⟩

theorem filter_split {p : Nat} {k : ByteArray} {z o : Tr} (h : (Tr.fork p k z o).wf) : (Tr.fork p k z o).pairs.filter (fun x => !bitL (ks x.1) p) = z.pairs ∧ (Tr.fork p k z o).pairs.filter (fun x => bitL (ks x.1) p) = o.pairs := by
  simp only [Tr.pairs, List.filter_append]
  rw [List.filter_eq_self.2 (fun x hx => by rw [side_z h x hx]; rfl), List.filter_eq_nil_iff.2 (fun x hx => by rw [side_o h x hx]; simp),
    List.filter_eq_nil_iff.2 (fun x hx => by rw [side_z h x hx]; simp), List.filter_eq_self.2 (fun x hx => side_o h x hx)]
  exact ⟨List.append_nil _, rfl⟩
theorem Tr.pairs_two {p : Nat} {k : ByteArray} {z o : Tr} : 2 ≤ (Tr.fork p k z o).pairs.length := by
  have h1 := List.length_pos_iff.2 z.pairs_ne
  have h2 := List.length_pos_iff.2 o.pairs_ne
  rw [Tr.pairs, List.length_append]; omega
/-- One shape for one content. -/
theorem one_shape : ∀ (t u : Tr), t.wf → u.wf → t.pairs = u.pairs → t = u
  | .leaf k v, .leaf k' v', _, _, h => by simpa [Tr.pairs] using h
  | .leaf k v, .fork p k' z o, _, _, h => by
    have := congrArg List.length h
    have h2 := @Tr.pairs_two p k' z o
    rw [← this] at h2; simp [Tr.pairs] at h2
  | .fork p k' z o, .leaf k v, _, _, h => by
    have := congrArg List.length h
    have h2 := @Tr.pairs_two p k' z o
    rw [this] at h2; simp [Tr.pairs] at h2
  | .fork p k z o, .fork p' k' z' o', ht, hu, h => by
    obtain ⟨a1, a2, a3, a4, a5, a6⟩ := fork_place ht
    obtain ⟨b1, b2, b3, b4, b5, b6⟩ := fork_place hu
    have eh : z.head = z'.head := by
      obtain ⟨v, r, e⟩ := (Tr.fork p k z o).head_pairs
      obtain ⟨v', r', e'⟩ := (Tr.fork p' k' z' o').head_pairs
      rw [h, e'] at e
      simp only [List.cons.injEq, Prod.mk.injEq] at e
      exact e.1.1.symm
    have et : o.tail = o'.tail := by
      obtain ⟨v, r, e⟩ := (Tr.fork p k z o).tail_pairs
      obtain ⟨v', r', e'⟩ := (Tr.fork p' k' z' o').tail_pairs
      rw [h, e'] at e
      have := (List.append_inj' e rfl).2
      simp only [List.cons.injEq, Prod.mk.injEq] at this
      exact this.1.1.symm
    rw [← eh, ← et] at b1
    rw [← eh] at b2 b4
    rw [← et] at b3
    have hp : p = p' := by
      rcases Nat.lt_trichotomy p p' with h1 | h1 | h1
      · have := b1 p h1; rw [a2, a3] at this; cases this
      · exact h1
      · have := a1 p' h1; rw [b2, b3] at this; cases this
    subst hp
    rw [← b4] at a4
    subst a4
    have f1 := filter_split ht
    have f2 := filter_split hu
    rw [h] at f1
    rw [one_shape z z' ht.2.2.2.2.2.2.2.1 hu.2.2.2.2.2.2.2.1 (f1.1.symm.trans f2.1), one_shape o o' ht.2.2.2.2.2.2.2.2 hu.2.2.2.2.2.2.2.2 (f1.2.symm.trans f2.2)]

/-- Maps: a tree, or none. -/
def MT.pairs : Option Tr → List Pr
  | none => []
  | some t => t.pairs
def MT.wf : Option Tr → Prop
  | none => True
  | some t => t.wf
def MT.root : Option Tr → ByteArray
  | none => noneH
  | some t => t.hash
def MT.texts : Option Tr → List (List UInt8)
  | none => []
  | some t => t.texts
def MT.withM (k v : ByteArray) : Option Tr → Option Tr
  | none => some (.leaf k v)
  | some t => some (withT k v t)
def MT.put (k v : ByteArray) (m : Option Tr) : Option Tr := if k.size = 32 then MT.withM k v m else m
def MT.del (k : ByteArray) (m : Option Tr) : Option Tr := if k.size = 32 then (if getL k (MT.pairs m) = none then m else m.bind (withoutT (ks k))) else m

theorem MT.one {m n : Option Tr} (hm : MT.wf m) (hn : MT.wf n) (h : MT.pairs m = MT.pairs n) : m = n := by
  match m, n with
  | none, none => rfl
  | none, some t => exact absurd h.symm t.pairs_ne
  | some t, none => exact absurd h t.pairs_ne
  | some t, some u => rw [one_shape t u hm hn h]
theorem noneH_size : noneH.size = 32 := rfl
/-- Like roots: like maps, or a clash. -/
theorem MT.clash {m n : Option Tr} (hm : MT.wf m) (hn : MT.wf n) (h : MT.root m = MT.root n) : m = n ∨ (∃ x ∈ MT.texts m ++ MT.texts n, sumB x = noneH) ∨ ClashP (MT.texts m ++ MT.texts n) := by
  match m, n with
  | none, none => exact .inl rfl
  | none, some t => exact .inr (.inl ⟨t.last, by simp [MT.texts, Tr.last_mem], by rw [← Tr.hash_last]; exact h.symm⟩)
  | some t, none => exact .inr (.inl ⟨t.last, by simp [MT.texts, Tr.last_mem], by rw [← Tr.hash_last]; exact h⟩)
  | some t, some u =>
    rcases clash_or t u (Tr.wf_sz hm) (Tr.wf_sz hn) h with e | ⟨x, hx, y, hy, h1, h2⟩
    · exact .inl (by rw [e])
    · exact .inr (.inr ⟨x, by simp [MT.texts, hx], y, by simp [MT.texts, hy], h1, h2⟩)

theorem getL_mem (k : ByteArray) (A : List Pr) (h : getL k A ≠ none) : ∃ x ∈ A, x.1 = k := by
  cases e : getL k A with
  | none => exact absurd e h
  | some v => exact ⟨_, getL_some k v A e, rfl⟩
theorem getL_isNone (k : ByteArray) : ∀ (A : List Pr), getL k A = none → ∀ x ∈ A, x.1 ≠ k
  | [], _, _, h => by cases h
  | x :: A, h, y, hy => by
    rw [getL] at h
    split at h
    · cases h
    · rename_i hne
      rcases List.mem_cons.1 hy with rfl | hy
      · exact hne
      · exact getL_isNone k A h y hy
theorem MT.put_ok (k v : ByteArray) (hk : k.size = 32) (hv : v.size ≤ 100) (m : Option Tr) (hm : MT.wf m) : MT.wf (MT.put k v m) ∧ MT.pairs (MT.put k v m) = putL k v (MT.pairs m) := by
  unfold MT.put
  rw [if_pos hk]
  match m with
  | none => exact ⟨⟨hk, hv⟩, rfl⟩
  | some t => exact ⟨(with_ok k v hk hv t hm).1, (with_ok k v hk hv t hm).2.1⟩
theorem MT.del_ok (k : ByteArray) (hk : k.size = 32) (m : Option Tr) (hm : MT.wf m) : MT.wf (MT.del k m) ∧ MT.pairs (MT.del k m) = delL k (MT.pairs m) := by
  unfold MT.del
  rw [if_pos hk]
  split
  · rename_i h
    exact ⟨hm, (delL_ne k _ (getL_isNone k _ h)).symm⟩
  · rename_i h
    match m with
    | none => exact absurd rfl h
    | some t =>
      obtain ⟨x, hx, e⟩ := getL_mem k _ h
      rcases without_ok k t hm ⟨x, hx, e⟩ with ⟨g1, g2⟩ | ⟨t', g1, g2, g3, _, _⟩
      · rw [Option.bind_some, g1]; exact ⟨trivial, g2.symm⟩
      · rw [Option.bind_some, g1]; exact ⟨g2, g3⟩

/-- Lengths. -/
theorem length_put (k v : ByteArray) : ∀ (l : List Pr), l.Pairwise (fun a b => ltK a.1 b.1) → (putL k v l).length = l.length + if getL k l = none then 1 else 0
  | [], _ => rfl
  | x :: r, h => by
    obtain ⟨h1, h2⟩ := List.pairwise_cons.1 h
    rw [putL, getL]
    by_cases e : x.1 = k
    · have hne : r.filter (fun y => decide (y.1 ≠ k)) = r := filter_ne k r (fun y hy e2 => ltK_ne (h1 y hy) (by rw [e, e2]))
      rw [if_pos e, e, leK_self, if_pos rfl, List.filter_cons, e, if_neg (by simp), hne]
      simp
    · rw [if_neg e]
      split
      · rename_i hle
        have hlt : ltK k x.1 := by
          rw [leK_eq] at hle
          exact Std.lt_of_le_of_ne (of_decide_eq_true hle) (fun e2 => e (ks_inj e2.symm))
        have hall : ∀ y ∈ r, y.1 ≠ k := fun y hy e2 => ltK_ne (List.lt_trans hlt (h1 y hy)) e2.symm
        have hne : (x :: r).filter (fun y => decide (y.1 ≠ k)) = x :: r := filter_ne k _ (fun y hy => by
          rcases List.mem_cons.1 hy with rfl | hy
          · exact e
          · exact hall y hy)
        rw [hne, getL_none k r hall]
        simp
      · rw [List.length_cons, length_put k v r h2, List.length_cons]; omega
theorem length_del (k : ByteArray) : ∀ (l : List Pr), l.Pairwise (fun a b => ltK a.1 b.1) → getL k l ≠ none → (delL k l).length + 1 = l.length
  | [], _, h => absurd rfl h
  | x :: r, h, hn => by
    obtain ⟨h1, h2⟩ := List.pairwise_cons.1 h
    rw [getL] at hn
    by_cases e : x.1 = k
    · have hne : r.filter (fun y => decide (y.1 ≠ k)) = r := filter_ne k r (fun y hy e2 => ltK_ne (h1 y hy) (by rw [e, e2]))
      rw [delL, List.filter_cons, if_neg (by simp [e]), hne]; rfl
    · rw [if_neg e] at hn
      have := length_del k r h2 hn
      rw [delL, List.filter_cons, if_pos (by simpa using e), List.length_cons, List.length_cons]
      unfold delL at this; omega
theorem MT.sorted {m : Option Tr} (hm : MT.wf m) : (MT.pairs m).Pairwise (fun a b => ltK a.1 b.1) := by
  match m with
  | none => exact List.Pairwise.nil
  | some t => exact Tr.sorted hm

/-- A pair that is put twice; one that is put and taken away. -/
theorem putL_twice (k v u : ByteArray) : ∀ (l : List Pr), putL k u (putL k v l) = putL k u l
  | [] => by simp [putL, leK_self]
  | x :: r => by
    rw [putL, putL]
    split
    · rw [putL, leK_self, if_pos rfl, List.filter_cons, if_neg (by simp), List.filter_filter]
      simp
    · rename_i h
      rw [putL, if_neg h, putL_twice k v u r]
theorem putL_same (k v : ByteArray) : ∀ (l : List Pr), l.Pairwise (fun a b => ltK a.1 b.1) → getL k l = some v → putL k v l = l
  | [], _, h => by cases h
  | x :: r, h, hg => by
    obtain ⟨h1, h2⟩ := List.pairwise_cons.1 h
    rw [getL] at hg
    by_cases e : x.1 = k
    · rw [if_pos e] at hg
      have hne : r.filter (fun y => decide (y.1 ≠ k)) = r := filter_ne k r (fun y hy e2 => ltK_ne (h1 y hy) (by rw [e, e2]))
      rw [putL, e, leK_self, if_pos rfl, List.filter_cons, if_neg (by simp [e]), hne]
      obtain rfl : x.2 = v := by simpa using hg
      rw [← e]
    · rw [if_neg e] at hg
      have hm := getL_some k v r hg
      have := h1 _ hm
      rw [putL, ltK_nle this, putL_same k v r h2 hg]; rfl
theorem del_put (k v : ByteArray) : ∀ (l : List Pr), delL k (putL k v l) = delL k l
  | [] => by simp [putL, delL]
  | x :: r => by
    rw [putL]
    split
    · unfold delL
      rw [List.filter_cons, if_neg (by simp), List.filter_filter]; simp
    · have := del_put k v r
      unfold delL at this ⊢
      rw [List.filter_cons, this, List.filter_cons]
theorem get_put (k v : ByteArray) : ∀ (l : List Pr), getL k (putL k v l) = some v
  | [] => by simp [putL, getL]
  | x :: r => by
    rw [putL]
    split
    · simp [getL]
    · rename_i h
      have hne : x.1 ≠ k := fun e => by rw [e, leK_self] at h; exact h rfl
      rw [getL, if_neg hne, get_put k v r]
theorem get_del (k : ByteArray) (l : List Pr) : getL k (delL k l) = none := getL_none k _ (fun x hx => by
  have := (List.mem_filter.1 hx).2
  simpa using this)

/-- What stands under a prefix. -/
theorem filter_parts {α : Type} (R : α → α → Prop) (P Q S : α → Bool) (hS : ∀ x, S x = (P x || Q x)) (hR : ∀ x y, P x = true → Q y = true → ¬ R y x) (hd : ∀ x, P x = true → Q x = false) : ∀ (l : List α), l.Pairwise R → l.filter S = l.filter P ++ l.filter Q
  | [], _ => rfl
  | x :: r, h => by
    obtain ⟨h1, h2⟩ := List.pairwise_cons.1 h
    have ih := filter_parts R P Q S hS hR hd r h2
    rw [List.filter_cons, List.filter_cons, List.filter_cons, hS]
    cases hp : P x with
    | true => simp [hd x hp, ih]
    | false =>
      cases hq : Q x with
      | false => simpa using ih
      | true =>
        have hn : r.filter P = [] := by
          rw [List.filter_eq_nil_iff]
          intro y hy hy2
          exact hR y x hy2 hq (h1 y hy)
        rw [hn] at ih
        simp [hn, ih]
theorem under_parts (l l0 l1 : List UInt8) (n : Nat) (hn : n < 256) (e0 : ∀ i, i < n → bitL l0 i = bitL l i) (e1 : ∀ i, i < n → bitL l1 i = bitL l i) (b0 : bitL l0 n = false) (b1 : bitL l1 n = true) (L : List Pr) (hL : L.Pairwise (fun a b => ltK a.1 b.1)) (hk : ∀ x ∈ L, x.1.size = 32) :
    underL l n L = underL l0 (n + 1) L ++ underL l1 (n + 1) L := by
  have each : ∀ (m : List UInt8) (b : Bool), (∀ i, i < n → bitL m i = bitL l i) → bitL m n = b → ∀ a, hasL a m (n + 1) = true ↔ hasL a l n = true ∧ bitL a n = b := fun m b e eb a => by
    rw [hasL_iff, hasL_iff]
    constructor
    · intro h
      exact ⟨fun i hi => (h i (by omega)).trans (e i hi), (h n (by omega)).trans eb⟩
    · rintro ⟨h1, h2⟩ i hi
      by_cases h3 : i < n
      · exact (h1 i h3).trans (e i h3).symm
      · rw [show i = n by omega, h2, eb]
  have z := each l0 false e0 b0
  have o := each l1 true e1 b1
  have hL' : L.Pairwise (fun a b => ltK a.1 b.1 ∧ a.1.size = 32 ∧ b.1.size = 32) := by
    rw [List.pairwise_iff_forall_sublist] at hL ⊢
    intro a b hab
    have := hab.subset
    exact ⟨hL hab, hk a (this (by simp)), hk b (this (by simp))⟩
  refine filter_parts (fun a b => ltK a.1 b.1 ∧ a.1.size = 32 ∧ b.1.size = 32) _ _ _ (fun x => ?_) (fun x y hx hy h => ?_) (fun x hx => ?_) L hL'
  · rw [Bool.eq_iff_iff, Bool.or_eq_true, z, o]
    cases bitL (ks x.1) n <;> simp
  · obtain ⟨x1, x2⟩ := (z _).1 hx
    obtain ⟨y1, y2⟩ := (o _).1 hy
    have := ltK_of_bit (a := x.1) (b := y.1) n h.2.2 h.2.1 hn (fun i hi => ((hasL_iff _ _ _).1 x1 i hi).trans ((hasL_iff _ _ _).1 y1 i hi).symm) x2 y2
    exact List.lt_asymm this h.1
  · rw [Bool.eq_false_iff]
    intro h2
    have := ((z _).1 hx).2
    rw [((o _).1 h2).2] at this; cases this
end Go.Proofs.YtohcackebmmikaaDoor
