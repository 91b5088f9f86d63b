/- Parts of maps as trees: what is known, put, taken away of them, and how they go with the map's tree; the pure part. -/
import Derived.Test.YtmpjpaomgifpcaaGreatDoorBTree
namespace Go.Proofs.YtmpjpaomgifpcaaGreatDoor
open Go.Op

/-- A part's tree: hashes told alone, leaves, forks. -/
inductive PT where
  | stub (h : ByteArray)
  | leaf (k v : ByteArray)
  | fork (p : Nat) (k : ByteArray) (z o : PT)
def PT.hash : PT → ByteArray
  | .stub h => h
  | .leaf k v => leafH k v
  | .fork p k z o => forkH p k z.hash o.hash
def PT.key : PT → ByteArray
  | .stub _ => ⟨#[]⟩
  | .leaf k _ => k
  | .fork _ k _ _ => k
def PT.span : PT → Nat
  | .stub _ => 0
  | .leaf _ _ => 256
  | .fork p _ _ _ => p
def PT.open : PT → Bool
  | .stub _ => false
  | _ => true
/-- May it stand on that side below a fork? -/
def fitB (p : Nat) (k : List UInt8) (s : Bool) (t : PT) : Bool := !t.open || (decide (p < t.span) && decide (p ≤ comL (ks t.key) k) && (bitL (ks t.key) p == s))
def PT.ok : PT → Prop
  | .stub h => h.size = 32
  | .leaf k v => k.size = 32 ∧ v.size ≤ 5000
  | .fork p k z o => p < 256 ∧ k.size = 32 ∧ z.ok ∧ o.ok
theorem PT.hash_size : ∀ t : PT, t.ok → t.hash.size = 32
  | .stub _, h => h
  | .leaf _ _, _ => sumB_size _
  | .fork _ _ _ _, _ => sumB_size _
theorem PT.key_size : ∀ (t : PT), t.ok → t.open = true → t.key.size = 32
  | .leaf _ _, h, _ => h.1
  | .fork _ _ _ _, h, _ => h.2.1
theorem PT.span_le : ∀ (t : PT), t.ok → t.span ≤ 256
  | .stub _, _ => Nat.zero_le _
  | .leaf _ _, _ => Nat.le_refl _
  | .fork _ _ _ _, h => Nat.le_of_lt h.1

def PT.leaves : PT → Nat
  | .stub _ => 0
  | .leaf _ _ => 1
  | .fork _ _ z o => z.leaves + o.leaves
/-- A map's tree as a part's. -/
def Tr.pt : Tr → PT
  | .leaf k v => .leaf k v
  | .fork p k z o => .fork p k z.pt o.pt
theorem Tr.pt_hash : ∀ t : Tr, t.pt.hash = t.hash
  | .leaf _ _ => rfl
  | .fork p k z o => by rw [Tr.pt, PT.hash, Tr.hash, Tr.pt_hash z, Tr.pt_hash o]

/-- Does a prefix lead to that side below a fork of a place and first bits? -/
def leadB (l : List UInt8) (n : Nat) (k : List UInt8) (p : Nat) (s : Bool) : Bool := !decide (comL l k < min n p) && (decide (n ≤ p) || (bitL l p == s))
def catO : Option (List Pr) → Option (List Pr) → Option (List Pr)
  | some a, some b => some (a ++ b)
  | _, _ => none
/-- What is known to stand under a prefix. -/
def undP (l : List UInt8) (n : Nat) : PT → Option (List Pr)
  | .stub _ => none
  | .leaf k v => if comL l (ks k) < n then some [] else some [(k, v)]
  | .fork p k z o => catO (if leadB l n (ks k) p false then undP l n z else some []) (if leadB l n (ks k) p true then undP l n o else some [])
theorem catO_some {a b : Option (List Pr)} {c : List Pr} (h : catO a b = some c) : ∃ x y, a = some x ∧ b = some y ∧ c = x ++ y := by
  match a, b, h with
  | some x, some y, h => exact ⟨x, y, rfl, rfl, by simpa [catO] using h.symm⟩
  | none, _, h => cases h
  | some _, none, h => cases h

/-- The part's tree is the map's, but for what is told by its hash. -/
def Prune : PT → Tr → Prop
  | .stub h, t => h = t.hash
  | .leaf k v, t => t = .leaf k v
  | .fork p k z o, t => ∃ z' o', t = .fork p k z' o' ∧ Prune z z' ∧ Prune o o'
theorem prune_hash : ∀ (x : PT) (t : Tr), Prune x t → x.hash = t.hash
  | .stub _, _, h => h
  | .leaf _ _, _, h => by rw [show _ = _ from h]; rfl
  | .fork p k z o, _, ⟨z', o', e, hz, ho⟩ => by rw [e, PT.hash, Tr.hash, prune_hash z z' hz, prune_hash o o' ho]
theorem prune_key : ∀ (x : PT) (t : Tr), Prune x t → x.open = true → x.key = t.key ∧ x.span = t.span
  | .leaf _ _, _, h, _ => by rw [show _ = _ from h]; exact ⟨rfl, rfl⟩
  | .fork p k z o, _, ⟨z', o', e, _, _⟩, _ => by rw [e]; exact ⟨rfl, rfl⟩
theorem prune_self : ∀ t : Tr, Prune t.pt t
  | .leaf _ _ => rfl
  | .fork _ _ z o => ⟨z, o, rfl, prune_self z, prune_self o⟩

/-- What stands under a prefix, by sides. -/
theorem under_fork {p : Nat} {k : ByteArray} {z o : Tr} (h : (Tr.fork p k z o).wf) (l : ByteArray) (hl : l.size = 32) (n : Nat) (hn : n ≤ 256) :
    underL (ks l) n (Tr.fork p k z o).pairs = (if leadB (ks l) n (ks k) p false then underL (ks l) n z.pairs else []) ++ (if leadB (ks l) n (ks k) p true then underL (ks l) n o.pairs else []) := by
  rw [Tr.pairs, underL_append]
  have hk := Tr.wf_key h
  have hkk : k.size = 32 := hk
  have hlen : (ks l).length = (ks k).length := by rw [ks_length, ks_length, hl, hkk]
  have h8 : 8 * (ks l).length = 256 := by rw [ks_length, hl]
  have side : ∀ (s : Bool) (A : List Pr), (∀ x ∈ A, x ∈ (Tr.fork p k z o).pairs) → (∀ x ∈ A, bitL (ks x.1) p = s) → leadB (ks l) n (ks k) p s = false → underL (ks l) n A = [] := by
    intro s A hA hs hb
    unfold underL
    rw [List.filter_eq_nil_iff]
    intro x hx h1
    have g := (hasL_iff _ _ _).1 h1
    obtain ⟨x1, x2, x3⟩ := Tr.pairs_ok h x (hA x hx)
    have hge : min n p ≤ comL (ks l) (ks k) := by
      refine comL_ge _ _ _ hlen (by omega) (fun i hi => ?_)
      rw [← g i (by omega), x3 i (by show i < p; omega)]; rfl
    unfold leadB at hb
    have hc : ¬ comL (ks l) (ks k) < min n p := by omega
    simp only [hc, decide_false, Bool.not_false, Bool.true_and, Bool.or_eq_false_iff, decide_eq_false_iff_not] at hb
    have h2 := g p (by omega)
    rw [hs x hx] at h2
    rw [← h2] at hb
    simp at hb
  congr 1
  · split
    · rfl
    · rename_i hb
      exact side false z.pairs (fun x hx => List.mem_append_left _ hx) (side_z h) (by simpa using hb)
  · split
    · rfl
    · rename_i hb
      exact side true o.pairs (fun x hx => List.mem_append_right _ hx) (side_o h) (by simpa using hb)
theorem has_leaf (l k : ByteArray) (hl : l.size = 32) (hk : k.size = 32) (n : Nat) (hn : n ≤ 256) : hasL (ks k) (ks l) n = !decide (comL (ks l) (ks k) < n) := by
  have hlen : (ks l).length = (ks k).length := by rw [ks_length, ks_length, hl, hk]
  rw [Bool.eq_iff_iff, hasL_iff]
  simp only [Bool.not_eq_true', decide_eq_false_iff_not, Nat.not_lt]
  constructor
  · intro h
    exact comL_ge _ _ n hlen (by rw [ks_length, hl]; omega) (fun i hi => (h i hi).symm)
  · intro h i hi
    exact (comL_same _ _ i (by omega)).symm
/-- What is known is so. -/
theorem prune_und (l : ByteArray) (hl : l.size = 32) (n : Nat) (hn : n ≤ 256) : ∀ (x : PT) (t : Tr) (a : List Pr), Prune x t → t.wf → undP (ks l) n x = some a → a = underL (ks l) n t.pairs
  | .stub _, _, _, _, _, h => by cases h
  | .leaf k v, _, a, e, hw, h => by
    obtain rfl : _ = Tr.leaf k v := e
    rw [undP] at h
    simp only [Tr.pairs, underL, List.filter_cons, List.filter_nil, has_leaf l k hl hw.1 n hn]
    split at h
    · rename_i hc; simp [hc]; simpa using h.symm
    · rename_i hc; simp [hc]; simpa using h.symm
  | .fork p k z o, _, a, ⟨z', o', e, hz, ho⟩, hw, h => by
    subst e
    rw [undP] at h
    obtain ⟨u, v, h1, h2, rfl⟩ := catO_some h
    rw [under_fork hw l hl n hn]
    congr 1
    · split at h1
      · rename_i hb
        rw [if_pos hb]
        exact prune_und l hl n hn z z' u hz hw.2.2.2.2.2.2.2.1 h1
      · rename_i hb
        rw [if_neg hb]; simpa using h1.symm
    · split at h2
      · rename_i hb
        rw [if_pos hb]
        exact prune_und l hl n hn o o' v ho hw.2.2.2.2.2.2.2.2 h2
      · rename_i hb
        rw [if_neg hb]; simpa using h2.symm
/-- Of the whole all is known. -/
theorem und_pt (l : List UInt8) (n : Nat) : ∀ t : Tr, ∃ a, undP l n t.pt = some a
  | .leaf k v => by
    rw [Tr.pt, undP]
    split
    · exact ⟨_, rfl⟩
    · exact ⟨_, rfl⟩
  | .fork p k z o => by
    obtain ⟨a, ha⟩ := und_pt l n z
    obtain ⟨b, hb⟩ := und_pt l n o
    rw [Tr.pt, undP, ha, hb]
    split <;> split <;> exact ⟨_, rfl⟩

/-- With a leaf, where that is known. -/
def joinP (p : Nat) (a b : PT) : PT := if bitL (ks a.key) p then .fork p (firstB b.key p) b a else .fork p (firstB a.key p) a b
def withP (k v : ByteArray) : PT → PT
  | .stub h => .stub h
  | .leaf k' v' => if comL (ks k') (ks k) < 256 then joinP (comL (ks k') (ks k)) (.leaf k' v') (.leaf k v) else .leaf k v
  | .fork p k' z o => if comL (ks k') (ks k) < p then joinP (comL (ks k') (ks k)) (.fork p k' z o) (.leaf k v) else
      if bitL (ks k) p then .fork p k' z (withP k v o) else .fork p k' (withP k v z) o
/-- Without a key whose leaf is open. -/
def withoutP (l : List UInt8) : PT → Option PT
  | .stub _ => none
  | .leaf _ _ => none
  | .fork p k z o => if bitL l p then (match withoutP l o with | none => some z | some o' => some (.fork p k z o')) else
      (match withoutP l z with | none => some o | some z' => some (.fork p k z' o))

theorem join_prune {x : PT} {t : Tr} (k v : ByteArray) (c : Nat) (h : Prune x t) (hx : x.open = true) : Prune (joinP c x (.leaf k v)) (joinT c t (.leaf k v)) := by
  obtain ⟨e, _⟩ := prune_key x t h hx
  unfold joinP joinT
  rw [e]
  split
  · exact ⟨_, _, rfl, rfl, h⟩
  · exact ⟨_, _, rfl, h, rfl⟩
/-- The way of a key of 256 bits. -/
theorem lead_key (l k : List UInt8) (p : Nat) (s : Bool) (hp : p < 256) : leadB l 256 k p s = (!decide (comL l k < p) && (bitL l p == s)) := by
  unfold leadB
  rw [show min 256 p = p by omega]
  have : decide (256 ≤ p) = false := by simp; omega
  rw [this, Bool.false_or]
theorem known_side {l : List UInt8} {p : Nat} {k : ByteArray} {z o : PT} (hp : p < 256) (h : undP l 256 (.fork p k z o) ≠ none) (hc : ¬ comL l (ks k) < p) :
    (bitL l p = true → undP l 256 o ≠ none) ∧ (bitL l p = false → undP l 256 z ≠ none) := by
  rw [undP, lead_key _ _ _ _ hp, lead_key _ _ _ _ hp] at h
  simp only [hc, decide_false, Bool.not_false, Bool.true_and] at h
  constructor
  · intro hb e; rw [hb, e] at h; simp [catO] at h
  · intro hb e; rw [hb, e] at h; simp [catO] at h
theorem prune_with (k v : ByteArray) : ∀ (x : PT) (t : Tr), Prune x t → t.wf → undP (ks k) 256 x ≠ none → Prune (withP k v x) (withT k v t)
  | .stub _, _, _, _, h => absurd rfl h
  | .leaf k' v', _, e, hw, _ => by
    obtain rfl : _ = Tr.leaf k' v' := e
    unfold withP withT
    split
    · exact join_prune k v _ (show Prune (.leaf k' v') (.leaf k' v') from rfl) rfl
    · exact rfl
  | .fork p k' z o, _, ⟨z', o', e, hz, ho⟩, hw, h => by
    subst e
    unfold withP withT
    split
    · exact join_prune k v _ (show Prune (.fork p k' z o) (.fork p k' z' o') from ⟨z', o', rfl, hz, ho⟩) rfl
    · rename_i hc
      obtain ⟨k1, k2⟩ := known_side hw.1 h (by rw [comL_sym]; exact hc)
      cases hb : bitL (ks k) p with
      | true => rw [if_pos rfl, if_pos rfl]; exact ⟨_, _, rfl, hz, prune_with k v o o' ho hw.2.2.2.2.2.2.2.2 (k1 hb)⟩
      | false => rw [if_neg (by simp), if_neg (by simp)]; exact ⟨_, _, rfl, prune_with k v z z' hz hw.2.2.2.2.2.2.2.1 (k2 hb), ho⟩
theorem there_side {l : List UInt8} {p : Nat} {k : ByteArray} {z o : PT} (hp : p < 256) {a : List Pr} (h : undP l 256 (.fork p k z o) = some a) (ha : a ≠ []) :
    (bitL l p = true ∧ undP l 256 o = some a) ∨ (bitL l p = false ∧ undP l 256 z = some a) := by
  rw [undP, lead_key _ _ _ _ hp, lead_key _ _ _ _ hp] at h
  by_cases hc : comL l (ks k) < p
  · simp only [hc, decide_true, Bool.not_true, Bool.false_and] at h
    exact absurd (by simpa [catO] using h.symm) ha
  · simp only [hc, decide_false, Bool.not_false, Bool.true_and] at h
    obtain ⟨u, v, h1, h2, rfl⟩ := catO_some h
    cases hb : bitL l p with
    | true =>
      rw [hb] at h1 h2
      simp only [show (true == false) = false from rfl, Bool.false_eq_true, if_false, Option.some.injEq] at h1
      subst h1
      exact .inl ⟨rfl, by simpa using h2⟩
    | false =>
      rw [hb] at h1 h2
      simp only [show (false == true) = false from rfl, Bool.false_eq_true, if_false, Option.some.injEq] at h2
      subst h2
      exact .inr ⟨rfl, by simpa using h1⟩
def PruneM : Option PT → Option Tr → Prop
  | none, none => True
  | some x, some t => Prune x t
  | _, _ => False
theorem prune_without (l : List UInt8) : ∀ (x : PT) (t : Tr) (a : List Pr), Prune x t → t.wf → undP l 256 x = some a → a ≠ [] → PruneM (withoutP l x) (withoutT l t)
  | .stub _, _, _, _, _, h, _ => by cases h
  | .leaf k v, _, _, e, _, _, _ => by
    obtain rfl : _ = Tr.leaf k v := e
    exact trivial
  | .fork p k z o, _, a, ⟨z', o', e, hz, ho⟩, hw, h, ha => by
    subst e
    unfold withoutP withoutT
    rcases there_side hw.1 h ha with ⟨hb, hu⟩ | ⟨hb, hu⟩
    · rw [hb, if_pos rfl, if_pos rfl]
      have ih := prune_without l o o' a ho hw.2.2.2.2.2.2.2.2 hu ha
      revert ih
      cases withoutP l o <;> cases withoutT l o' <;> intro ih
      · exact hz
      · exact ih.elim
      · exact ih.elim
      · exact ⟨_, _, rfl, hz, ih⟩
    · rw [hb, if_neg (by simp), if_neg (by simp)]
      have ih := prune_without l z z' a hz hw.2.2.2.2.2.2.2.1 hu ha
      revert ih
      cases withoutP l z <;> cases withoutT l z' <;> intro ih
      · exact ho
      · exact ih.elim
      · exact ih.elim
      · exact ⟨_, _, rfl, ih, ho⟩

/-- What is hashed for what is open. -/
def PT.texts : PT → List (List UInt8)
  | .stub _ => []
  | .leaf k v => [ks v, leafT k v]
  | .fork p k z o => z.texts ++ o.texts ++ [forkT p k z.hash o.hash]
/-- A part of that hash goes with the map, or two unlike texts have one hash. -/
theorem prune_or : ∀ (x : PT) (t : Tr), x.ok → t.sz → x.hash = t.hash → Prune x t ∨ ∃ a ∈ x.texts, ∃ b ∈ t.texts, a ≠ b ∧ sumL a = sumL b
  | .stub _, _, _, _, h => .inl h
  | .leaf k v, .leaf k' v', ht, hu, h => by
    by_cases e : leafT k v = leafT k' v'
    · have e1 : ks k ++ sumL (ks v) = ks k' ++ sumL (ks v') := by simpa [leafT] using e
      obtain ⟨e2, e3⟩ := app32 (by rw [ks_length, ks_length, ht.1, hu.1]) e1
      by_cases e4 : ks v = ks v'
      · exact .inl (by show _ = _; rw [ks_inj e2, ks_inj e4])
      · exact .inr ⟨ks v, by simp [PT.texts], ks v', by simp [Tr.texts], e4, e3⟩
    · exact .inr ⟨_, by simp [PT.texts], _, by simp [Tr.texts], e, sumB_inj h⟩
  | .leaf k v, .fork p' k' z' o', _, _, h => .inr ⟨leafT k v, by simp [PT.texts], _, Tr.last_mem _, by simp [Tr.last, leafT, forkT], sumB_inj (by rw [← Tr.hash_last]; exact h)⟩
  | .fork p k z o, .leaf k' v', _, _, h => .inr ⟨forkT p k z.hash o.hash, by simp [PT.texts], _, Tr.last_mem _, by simp [Tr.last, leafT, forkT], sumB_inj (by rw [← Tr.hash_last]; exact h)⟩
  | .fork p k z o, .fork p' k' z' o', ht, hu, h => by
    by_cases e : forkT p k z.hash o.hash = forkT p' k' z'.hash o'.hash
    · have e0 : UInt8.ofNat (p / 256) = UInt8.ofNat (p' / 256) ∧ UInt8.ofNat (p % 256) = UInt8.ofNat (p' % 256) ∧ ks k ++ (ks z.hash ++ ks o.hash) = ks k' ++ (ks z'.hash ++ ks o'.hash) := by simpa [forkT] using e
      obtain ⟨_, e1, e2⟩ := e0
      have hp : p = p' := by
        have h1 := congrArg UInt8.toNat e1
        simp at h1
        have := ht.1; have := hu.1; omega
      obtain ⟨e3, e4⟩ := app32 (by rw [ks_length, ks_length, ht.2.1, hu.2.1]) e2
      obtain ⟨e5, e6⟩ := app32 (by rw [ks_length, ks_length, PT.hash_size z ht.2.2.1, Tr.hash_size]) e4
      subst hp
      have e3' := ks_inj e3; subst e3'
      rcases prune_or z z' ht.2.2.1 hu.2.2.1 (ks_inj e5) with hz | ⟨x, hx, y, hy, h1, h2⟩
      · rcases prune_or o o' ht.2.2.2 hu.2.2.2 (ks_inj e6) with ho | ⟨x, hx, y, hy, h1, h2⟩
        · exact .inl ⟨_, _, rfl, hz, ho⟩
        · exact .inr ⟨x, by simp [PT.texts, hx], y, by simp [Tr.texts, hy], h1, h2⟩
      · exact .inr ⟨x, by simp [PT.texts, hx], y, by simp [Tr.texts, hy], h1, h2⟩
    · exact .inr ⟨forkT p k z.hash o.hash, by simp [PT.texts], _, Tr.last_mem _, e, sumB_inj h⟩

/-- Parts: a tree, or none. -/
def MP.root : Option PT → ByteArray
  | none => noneH
  | some t => t.hash
def MP.texts : Option PT → List (List UInt8)
  | none => []
  | some t => t.texts
def MP.ok : Option PT → Prop
  | none => True
  | some t => t.ok
/-- What is known to stand under a prefix of a part, if it is one. -/
def MP.und (k : ByteArray) (n : Int) : Option PT → Option (List Pr)
  | none => some []
  | some t => if k.size = 32 ∧ 0 ≤ n ∧ n ≤ 256 then undP (ks k) n.toNat t else some []
theorem pruneM_root {x : Option PT} {m : Option Tr} (h : PruneM x m) : MP.root x = MT.root m := by
  match x, m, h with
  | none, none, _ => rfl
  | some x, some t, h => exact prune_hash x t h
end Go.Proofs.YtmpjpaomgifpcaaGreatDoor
