/- What is shown of a map: the nodes, and the part that they tell; the pure part. -/
import Derived.Test.YtmpjpaomgifpcaaGreatDoorPParse
import Derived.Test.YtmpjpaomgifpcaaGreatDoorBCodR
namespace Go.Proofs.YtmpjpaomgifpcaaGreatDoor
open Go.Op
open Cod (F Nd)

abbrev Ask := ByteArray × Nat
def sideB (A : List Ask) (k : List UInt8) (p : Nat) (s : Bool) : Bool := A.any fun q => leadB (ks q.1) q.2 k p s
def hashF (h : ByteArray) : F := .cons 1 0 h .nil .nil
def leafF (k v : ByteArray) : F := .cons 2 0 ⟨#[]⟩ (.cons 1 0 k .nil (.cons 1 0 v .nil .nil)) .nil
def forkF (p : Nat) (k : ByteArray) (r : F) : F := .cons 2 0 ⟨#[]⟩ (.cons 0 p ⟨#[]⟩ .nil (.cons 1 0 k .nil .nil)) r
/-- The nodes that are shown for such prefixes. -/
def shownF (A : List Ask) : Tr → F
  | .leaf k v => leafF k v
  | .fork p k z o => forkF p k ((if sideB A (ks k) p false then shownF A z else hashF z.hash).app (if sideB A (ks k) p true then shownF A o else hashF o.hash))
/-- Those of the prefixes that lead to a side; where one has all, it alone. -/
def leadL (k : List UInt8) (p : Nat) (s : Bool) (A : List Ask) : List Ask := match A.find? (fun q => leadB (ks q.1) q.2 k p s && decide (q.2 ≤ p)) with
  | some q => [q]
  | none => A.filter fun q => leadB (ks q.1) q.2 k p s
def subG (r : List Ask → F) (h : ByteArray) (A : List Ask) : F := if A.isEmpty then hashF h else r A
def shownG : Tr → List Ask → F
  | .leaf k v, _ => leafF k v
  | .fork p k z o, A => forkF p k ((subG (shownG z) z.hash (leadL (ks k) p false A)).app (subG (shownG o) o.hash (leadL (ks k) p true A)))

def Tr.all (P : Nat → ByteArray → Prop) : Tr → Prop
  | .leaf _ _ => True
  | .fork p k z o => P p k ∧ z.all P ∧ o.all P
theorem Tr.all_mono {P Q : Nat → ByteArray → Prop} (h : ∀ p k, P p k → Q p k) : ∀ t : Tr, t.all P → t.all Q
  | .leaf _ _, _ => trivial
  | .fork p k z o, ⟨h1, h2, h3⟩ => ⟨h p k h1, Tr.all_mono h z h2, Tr.all_mono h o h3⟩
/-- The forks of a tree go on as it says. -/
theorem Tr.all_key : ∀ t : Tr, t.wf → t.all (fun p k => t.span ≤ p ∧ k.size = 32 ∧ ∀ i, i < t.span → bitL (ks k) i = bitL (ks t.key) i)
  | .leaf _ _, _ => trivial
  | .fork p k z o, h => by
    have hw := h
    obtain ⟨hp, hpz, hpo, ez, eo, bz, bo, hz, ho⟩ := h
    refine ⟨⟨Nat.le_refl _, Tr.wf_key hw, fun _ _ => rfl⟩, Tr.all_mono (fun q u hq => ?_) z (Tr.all_key z hz), Tr.all_mono (fun q u hq => ?_) o (Tr.all_key o ho)⟩
    · obtain ⟨h1, h2, h3⟩ := hq
      refine ⟨by show p ≤ q; omega, h2, fun i hi => ?_⟩
      have hi' : i < p := hi
      rw [h3 i (by omega), Tr.key, ez, firstB_bit]; simp [hi']
    · obtain ⟨h1, h2, h3⟩ := hq
      refine ⟨by show p ≤ q; omega, h2, fun i hi => ?_⟩
      have hi' : i < p := hi
      rw [h3 i (by omega), Tr.key, eo, firstB_bit]; simp [hi']
/-- .. below a side of a fork. -/
def onSide (p : Nat) (k : ByteArray) (s : Bool) (q : Nat) (u : ByteArray) : Prop := p < q ∧ u.size = 32 ∧ (∀ i, i < p → bitL (ks u) i = bitL (ks k) i) ∧ bitL (ks u) p = s
theorem side_all {p : Nat} {k : ByteArray} {z o : Tr} (h : (Tr.fork p k z o).wf) : z.all (onSide p k false) ∧ o.all (onSide p k true) := by
  obtain ⟨hp, hpz, hpo, ez, eo, bz, bo, hz, ho⟩ := h
  refine ⟨Tr.all_mono (fun q u hq => ?_) z (Tr.all_key z hz), Tr.all_mono (fun q u hq => ?_) o (Tr.all_key o ho)⟩
  · obtain ⟨h1, h2, h3⟩ := hq
    exact ⟨by omega, h2, fun i hi => by rw [h3 i (by omega), ez, firstB_bit]; simp [hi], by rw [h3 p (by omega)]; exact bz⟩
  · obtain ⟨h1, h2, h3⟩ := hq
    exact ⟨by omega, h2, fun i hi => by rw [h3 i (by omega), eo, firstB_bit]; simp [hi], by rw [h3 p (by omega)]; exact bo⟩

theorem leadB_iff (l : List UInt8) (n : Nat) (k : List UInt8) (p : Nat) (s : Bool) : leadB l n k p s = true ↔ min n p ≤ comL l k ∧ (n ≤ p ∨ bitL l p = s) := by
  unfold leadB; simp only [Bool.and_eq_true, Bool.not_eq_true', decide_eq_false_iff_not, Nat.not_lt, Bool.or_eq_true, decide_eq_true_eq, beq_iff_eq]
/-- What leads further down leads there. -/
theorem lead_up {l : ByteArray} {n p q : Nat} {k u : ByteArray} {s s' : Bool} (hl : l.size = 32) (hk : k.size = 32) (hp : p < 256) (hs : onSide p k s q u) (h : leadB (ks l) n (ks u) q s' = true) : leadB (ks l) n (ks k) p s = true := by
  obtain ⟨h1, h2, h3, h4⟩ := hs
  obtain ⟨g1, _⟩ := (leadB_iff _ _ _ _ _).1 h
  have hlen : (ks l).length = (ks k).length := by rw [ks_length, ks_length, hl, hk]
  have hsame := comL_same (ks l) (ks u)
  refine (leadB_iff _ _ _ _ _).2 ⟨comL_ge _ _ _ hlen (by rw [ks_length, hl]; omega) (fun i hi => ?_), ?_⟩
  · rw [hsame i (by omega), h3 i (by omega)]
  · rcases Nat.lt_or_ge p n with hn | hn
    · exact .inr (by rw [hsame p (by omega), h4])
    · exact .inl hn
theorem lead_down {l : ByteArray} {n p q : Nat} {k u : ByteArray} {s s' : Bool} (hl : l.size = 32) (hn : n ≤ p) (hp : p < 256) (hs : onSide p k s q u) (h : leadB (ks l) n (ks k) p s = true) : leadB (ks l) n (ks u) q s' = true := by
  obtain ⟨h1, h2, h3, h4⟩ := hs
  obtain ⟨g1, _⟩ := (leadB_iff _ _ _ _ _).1 h
  have hlen : (ks l).length = (ks u).length := by rw [ks_length, ks_length, hl, h2]
  have hsame := comL_same (ks l) (ks k)
  exact (leadB_iff _ _ _ _ _).2 ⟨comL_ge _ _ _ hlen (by rw [ks_length, hl]; omega) (fun i hi => by rw [hsame i (by omega), h3 i (by omega)]), .inl (by omega)⟩

def okA (A : List Ask) : Prop := ∀ q ∈ A, q.1.size = 32 ∧ q.2 ≤ 256
theorem leadL_ok {A : List Ask} (h : okA A) (k : List UInt8) (p : Nat) (s : Bool) : okA (leadL k p s A) := by
  unfold leadL
  split
  · rename_i q hq
    intro x hx
    obtain rfl : x = q := by simpa using hx
    exact h x (List.mem_of_find?_eq_some hq)
  · exact fun x hx => h x (List.mem_filter.1 hx).1
theorem leadL_side {A : List Ask} (h : okA A) {p : Nat} {k : ByteArray} {s : Bool} (hk : k.size = 32) (hp : p < 256) {q : Nat} {u : ByteArray} (hs : onSide p k s q u) (s' : Bool) : sideB (leadL (ks k) p s A) (ks u) q s' = sideB A (ks u) q s' := by
  unfold leadL
  split
  · rename_i x hx
    have h1 := List.find?_some hx
    simp only [Bool.and_eq_true, decide_eq_true_eq] at h1
    have h2 := List.mem_of_find?_eq_some hx
    have h3 : leadB (ks x.1) x.2 (ks u) q s' = true := lead_down (h x h2).1 h1.2 hp hs h1.1
    have e1 : sideB [x] (ks u) q s' = true := by simp [sideB, h3]
    have e2 : sideB A (ks u) q s' = true := List.any_eq_true.2 ⟨x, h2, h3⟩
    rw [e1, e2]
  · rw [Bool.eq_iff_iff]
    unfold sideB
    rw [List.any_eq_true, List.any_eq_true]
    constructor
    · rintro ⟨x, hx, h1⟩; exact ⟨x, (List.mem_filter.1 hx).1, h1⟩
    · rintro ⟨x, hx, h1⟩
      exact ⟨x, List.mem_filter.2 ⟨hx, lead_up (h x hx).1 hk hp hs h1⟩, h1⟩
theorem leadL_empty (A : List Ask) (k : List UInt8) (p : Nat) (s : Bool) : (leadL k p s A).isEmpty = !sideB A k p s := by
  unfold leadL
  split
  · rename_i x hx
    have h1 := List.find?_some hx
    simp only [Bool.and_eq_true, decide_eq_true_eq] at h1
    have e2 : sideB A k p s = true := List.any_eq_true.2 ⟨x, List.mem_of_find?_eq_some hx, h1.1⟩
    rw [e2]; rfl
  · unfold sideB
    rw [Bool.eq_iff_iff]
    simp [List.isEmpty_iff, List.filter_eq_nil_iff]
theorem shown_congr {A B : List Ask} : ∀ t : Tr, t.all (fun p k => ∀ s, sideB A (ks k) p s = sideB B (ks k) p s) → shownF A t = shownF B t
  | .leaf _ _, _ => rfl
  | .fork p k z o, ⟨h1, h2, h3⟩ => by rw [shownF, shownF, h1, h1, shown_congr z h2, shown_congr o h3]
/-- Both ways show the same. -/
theorem shown_same : ∀ (t : Tr) (A : List Ask), t.wf → okA A → shownG t A = shownF A t
  | .leaf _ _, _, _, _ => rfl
  | .fork p k z o, A, h, hA => by
    have hk : k.size = 32 := Tr.wf_key h
    obtain ⟨sz, so⟩ := side_all h
    have ez : shownG z (leadL (ks k) p false A) = shownF A z := by
      rw [shown_same z _ h.2.2.2.2.2.2.2.1 (leadL_ok hA _ _ _)]
      exact shown_congr z (Tr.all_mono (fun q u hq s' => leadL_side hA hk h.1 hq s') z sz)
    have eo : shownG o (leadL (ks k) p true A) = shownF A o := by
      rw [shown_same o _ h.2.2.2.2.2.2.2.2 (leadL_ok hA _ _ _)]
      exact shown_congr o (Tr.all_mono (fun q u hq s' => leadL_side hA hk h.1 hq s') o so)
    rw [shownG, shownF]
    unfold subG
    rw [leadL_empty, leadL_empty, ez, eo]
    cases sideB A (ks k) p false <;> cases sideB A (ks k) p true <;> rfl

/-- The part that is told. -/
def cutP (A : List Ask) : Tr → PT
  | .leaf k v => .leaf k v
  | .fork p k z o => .fork p k (if sideB A (ks k) p false then cutP A z else .stub z.hash) (if sideB A (ks k) p true then cutP A o else .stub o.hash)
theorem cut_prune (A : List Ask) : ∀ t : Tr, Prune (cutP A t) t
  | .leaf _ _ => rfl
  | .fork p k z o => by
    refine ⟨z, o, rfl, ?_, ?_⟩
    · split
      · exact cut_prune A z
      · exact rfl
    · split
      · exact cut_prune A o
      · exact rfl
theorem cut_known {A : List Ask} {q : Ask} (hq : q ∈ A) : ∀ t : Tr, ∃ a, undP (ks q.1) q.2 (cutP A t) = some a
  | .leaf k v => by
    rw [cutP, undP]
    split
    · exact ⟨_, rfl⟩
    · exact ⟨_, rfl⟩
  | .fork p k z o => by
    obtain ⟨a, ha⟩ := cut_known hq z
    obtain ⟨b, hb⟩ := cut_known hq o
    have hs : ∀ s, leadB (ks q.1) q.2 (ks k) p s = true → sideB A (ks k) p s = true := fun s h => List.any_eq_true.2 ⟨q, hq, h⟩
    rw [cutP, undP]
    have e1 : ∃ x, (if leadB (ks q.1) q.2 (ks k) p false then undP (ks q.1) q.2 (if sideB A (ks k) p false then cutP A z else .stub z.hash) else some []) = some x := by
      cases h : leadB (ks q.1) q.2 (ks k) p false with
      | false => exact ⟨_, rfl⟩
      | true => rw [hs _ h]; exact ⟨a, ha⟩
    have e2 : ∃ x, (if leadB (ks q.1) q.2 (ks k) p true then undP (ks q.1) q.2 (if sideB A (ks k) p true then cutP A o else .stub o.hash) else some []) = some x := by
      cases h : leadB (ks q.1) q.2 (ks k) p true with
      | false => exact ⟨_, rfl⟩
      | true => rw [hs _ h]; exact ⟨b, hb⟩
    obtain ⟨x, hx⟩ := e1
    obtain ⟨y, hy⟩ := e2
    rw [hx, hy]; exact ⟨_, rfl⟩
/-- More that is asked tells more. -/
theorem cut_more {A B : List Ask} (hAB : ∀ q ∈ A, q ∈ B) (l : List UInt8) (n : Nat) : ∀ t : Tr, undP l n (cutP A t) ≠ none → undP l n (cutP B t) ≠ none
  | .leaf _ _, h => h
  | .fork p k z o, h => by
    have hs : ∀ s, sideB A (ks k) p s = true → sideB B (ks k) p s = true := fun s h => by
      obtain ⟨q, hq, h1⟩ := List.any_eq_true.1 h
      exact List.any_eq_true.2 ⟨q, hAB q hq, h1⟩
    rw [cutP, undP] at h ⊢
    have key : ∀ (s : Bool) (t : Tr), (undP l n (cutP A t) ≠ none → undP l n (cutP B t) ≠ none) → (if leadB l n (ks k) p s then undP l n (if sideB A (ks k) p s then cutP A t else .stub t.hash) else some []) ≠ none →
        (if leadB l n (ks k) p s then undP l n (if sideB B (ks k) p s then cutP B t else .stub t.hash) else some []) ≠ none := by
      intro s t ih h1
      cases hl : leadB l n (ks k) p s with
      | false => simp
      | true =>
        rw [hl] at h1
        cases ha : sideB A (ks k) p s with
        | false => rw [ha] at h1; exact absurd rfl h1
        | true => rw [ha] at h1; rw [hs s ha]; exact ih h1
    have c1 : (if leadB l n (ks k) p false then undP l n (if sideB A (ks k) p false then cutP A z else .stub z.hash) else some []) ≠ none := fun e => h (by rw [e]; rfl)
    have c2 : (if leadB l n (ks k) p true then undP l n (if sideB A (ks k) p true then cutP A o else .stub o.hash) else some []) ≠ none := fun e => h (by
      rw [e]
      cases (if leadB l n (ks k) p false then undP l n (if sideB A (ks k) p false then cutP A z else .stub z.hash) else some []) <;> rfl)
    have d1 := key false z (cut_more hAB l n z) c1
    have d2 := key true o (cut_more hAB l n o) c2
    intro e
    revert d1 d2 e
    cases (if leadB l n (ks k) p false then undP l n (if sideB B (ks k) p false then cutP B z else .stub z.hash) else some []) <;> cases (if leadB l n (ks k) p true then undP l n (if sideB B (ks k) p true then cutP B o else .stub o.hash) else some []) <;> simp [catO]
end Go.Proofs.YtmpjpaomgifpcaaGreatDoor
