/- What is shown of a map is read as that part; how long it is. -/
import Derived.Test.YtmpjpaomgifpcaaGreatDoorPShow
import Derived.Test.YtmpjpaomgifpcaaGreatDoorPOpen
namespace Go.Proofs.YtmpjpaomgifpcaaGreatDoor
open Go.Op
open Cod (F Nd nodeL szL numL readO)

/-- What a tree's node says by itself. -/
def Tr.sn : Tr → SN
  | .leaf k v => .leaf k v
  | .fork p k _ _ => .fork p k
theorem first_first (a : ByteArray) (p : Nat) : firstB (firstB a p) p = firstB a p :=
  firstB_eq _ _ p (firstB_size _ _) (fun i hi => by rw [firstB_bit]; simp [hi])
theorem stand_side {p : Nat} {k : ByteArray} {s : Bool} {t : Tr} (ht : t.wf) (hp : p < t.span) (hk : k = firstB t.key p) (hb : bitL (ks t.key) p = s) : fitS (some (p, k)) s t.sn = true := by
  have h1 : standB p k s t.span t.key = true := by
    unfold standB
    have hge : p ≤ comL (ks t.key) (ks k) := by
      refine comL_ge _ _ _ (by rw [ks_length, ks_length, hk, firstB_size]) (by rw [ks_length, Tr.wf_key ht]; have := Tr.wf_span ht; omega) (fun i hi => ?_)
      rw [hk, firstB_bit]; simp [hi]
    simp [hp, hge, hb]
  cases t with
  | leaf u v => exact h1
  | fork q u z o => exact h1
theorem leafF_sing (k v : ByteArray) (hk : k.size = 32) : singP 2 ⟨#[]⟩ (.cons 1 0 k .nil (.cons 1 0 v .nil .nil)) = some (.leaf k v) := by
  unfold singP
  rw [if_neg (by decide), if_pos rfl]
  show twoP 1 0 k 1 v = _
  unfold twoP
  rw [if_pos rfl, if_pos rfl, if_pos hk]
theorem forkF_sing (p : Nat) (k : ByteArray) (hp : p < 256) (hk : k.size = 32) (hf : firstB k p = k) : singP 2 ⟨#[]⟩ (.cons 0 p ⟨#[]⟩ .nil (.cons 1 0 k .nil .nil)) = some (.fork p k) := by
  unfold singP
  rw [if_neg (by decide), if_pos rfl]
  show twoP 0 p ⟨#[]⟩ 1 k = _
  unfold twoP
  rw [if_pos rfl, if_neg (by decide), if_pos rfl, if_pos ⟨by omega, hk, by rw [Int.toNat_natCast]; exact hf⟩, Int.toNat_natCast]
theorem hash_tree (h : ByteArray) (hh : h.size = 32) (m : Nat) (rest : F) (ab : Option (Nat × ByteArray)) (s : Bool) : treeP (m + 1) ((hashF h).app rest) ab s = some (.stub h, rest) := by
  show treeP (m + 1) (.cons 1 0 h .nil rest) ab s = _
  have h1 : singP 1 h .nil = some (.stub h) := by unfold singP; rw [if_pos rfl, if_pos hh]
  have h2 : fitS ab s (.stub h) = true := by
    unfold fitS
    cases ab <;> rfl
  rw [treeP, h1]
  simp [h2]
theorem shown_len (A : List Ask) : ∀ t : Tr, 1 ≤ (shownF A t).len
  | .leaf _ _ => by simp [shownF, leafF, F.len]
  | .fork _ _ _ _ => by simp [shownF, forkF, F.len]
/-- What is shown is read as the part. -/
theorem tree_shown (A : List Ask) : ∀ (t : Tr) (m : Nat) (rest : F) (ab : Option (Nat × ByteArray)) (s : Bool), t.wf → (shownF A t).len ≤ m → fitS ab s t.sn = true → treeP m ((shownF A t).app rest) ab s = some (cutP A t, rest)
  | .leaf k v, m, rest, ab, s, h, hm, hf => by
    obtain ⟨m, rfl⟩ : ∃ n, m = n + 1 := ⟨m - 1, by simp [shownF, leafF, F.len] at hm; omega⟩
    show treeP (m + 1) (.cons 2 0 ⟨#[]⟩ (.cons 1 0 k .nil (.cons 1 0 v .nil .nil)) rest) ab s = _
    have hf' : fitS ab s (.leaf k v) = true := hf
    rw [treeP, leafF_sing k v h.1]
    simp [hf', cutP]
  | .fork p k z o, m, rest, ab, s, h, hm, hf => by
    have hw := h
    obtain ⟨hp, hpz, hpo, ez, eo, bz, bo, hz, ho⟩ := h
    have hk : k.size = 32 := Tr.wf_key hw
    have hff : firstB k p = k := by rw [ez]; exact first_first _ _
    have hf' : fitS ab s (.fork p k) = true := hf
    simp only [shownF, forkF, F.len, Cod.F.app_len] at hm
    obtain ⟨m, rfl⟩ : ∃ n, m = n + 1 := ⟨m - 1, by omega⟩
    have e : (shownF A (.fork p k z o)).app rest = .cons 2 0 ⟨#[]⟩ (.cons 0 p ⟨#[]⟩ .nil (.cons 1 0 k .nil .nil)) ((if sideB A (ks k) p false then shownF A z else hashF z.hash).app ((if sideB A (ks k) p true then shownF A o else hashF o.hash).app rest)) := by
      rw [shownF, forkF, Cod.F.app, Cod.F.app_assoc]
    rw [e, treeP, forkF_sing p k hp hk hff]
    have hlz : 1 ≤ (if sideB A (ks k) p false then shownF A z else hashF z.hash).len := by
      split
      · exact shown_len A z
      · simp [hashF, F.len]
    have hlo : 1 ≤ (if sideB A (ks k) p true then shownF A o else hashF o.hash).len := by
      split
      · exact shown_len A o
      · simp [hashF, F.len]
    have h1 : ∀ r, treeP m ((if sideB A (ks k) p false then shownF A z else hashF z.hash).app r) (some (p, k)) false = some (if sideB A (ks k) p false then cutP A z else .stub z.hash, r) := by
      intro r
      split
      · rename_i hb
        rw [hb] at hm
        exact tree_shown A z m r _ _ hz (by simp at hm; omega) (stand_side hz hpz ez bz)
      · obtain ⟨n, rfl⟩ : ∃ n, m = n + 1 := ⟨m - 1, by omega⟩
        exact hash_tree _ (Tr.hash_size z) _ _ _ _
    have h2 : ∀ r, treeP m ((if sideB A (ks k) p true then shownF A o else hashF o.hash).app r) (some (p, k)) true = some (if sideB A (ks k) p true then cutP A o else .stub o.hash, r) := by
      intro r
      split
      · rename_i hb
        rw [hb] at hm
        exact tree_shown A o m r _ _ ho (by simp at hm; omega) (stand_side ho hpo eo bo)
      · obtain ⟨n, rfl⟩ : ∃ n, m = n + 1 := ⟨m - 1, by omega⟩
        exact hash_tree _ (Tr.hash_size o) _ _ _ _
    simp only [hf', if_true, h1, h2]
    rfl

/-- The nodes of a map. -/
def showN (A : List Ask) : Option Tr → F
  | none => .nil
  | some t => shownF A t
def cutM (A : List Ask) : Option Tr → Option PT
  | none => none
  | some t => some (cutP A t)
theorem right_app (d : Nat) : ∀ f g : F, (f.app g).right d = (f.right d && g.right d)
  | .nil, _ => by simp [Cod.F.app, F.right]
  | .cons k n s c r, g => by simp only [Cod.F.app, F.right]; rw [right_app d r g]; cases Cod.plainB k n s c.len <;> simp [Bool.and_assoc]
theorem bytes_app : ∀ f g : F, (f.app g).bytes = f.bytes ++ g.bytes
  | .nil, _ => rfl
  | .cons k n s c r, g => by simp only [Cod.F.app, F.bytes]; rw [bytes_app r g, List.append_assoc]
theorem sml_app {B : Nat} : ∀ f g : F, sml B (f.app g) ↔ sml B f ∧ sml B g
  | .nil, _ => by simp [Cod.F.app, sml]
  | .cons k n s c r, g => by simp only [Cod.F.app, sml]; rw [sml_app r g]; constructor
                             · rintro ⟨a, b, c, d⟩; exact ⟨⟨a, b, c⟩, d⟩
                             · rintro ⟨⟨a, b, c⟩, d⟩; exact ⟨a, b, c, d⟩
theorem ok_app2 : ∀ f g : F, f.ok → g.ok → (f.app g).ok
  | .nil, _, _, h => h
  | .cons _ _ _ _ r, g, ⟨a, b, c', d, e⟩, h => ⟨a, b, c', d, ok_app2 r g e h⟩

theorem leafF_right (k v : ByteArray) : (leafF k v).right 19 = true := rfl
theorem hashF_right (h : ByteArray) : (hashF h).right 19 = true := rfl
theorem forkF_right (p : Nat) (k : ByteArray) (r : F) (h : r.right 19 = true) : (forkF p k r).right 19 = true := by
  show (Cod.plainB 2 0 ⟨#[]⟩ 2 && (decide (0 < 19) && ((F.cons 0 p ⟨#[]⟩ .nil (.cons 1 0 k .nil .nil)).right 18 && r.right 19))) = true
  rw [h]; rfl
theorem shown_right (A : List Ask) : ∀ t : Tr, (shownF A t).right 19 = true
  | .leaf k v => leafF_right k v
  | .fork p k z o => by
    rw [shownF]
    refine forkF_right _ _ _ ?_
    rw [right_app, Bool.and_eq_true]
    constructor
    · split
      · exact shown_right A z
      · exact hashF_right _
    · split
      · exact shown_right A o
      · exact hashF_right _
theorem hashF_ok (h : ByteArray) (hh : h.size = 32) : (hashF h).ok := ⟨⟨by decide, by decide⟩, by omega, by decide, trivial, trivial⟩
theorem shown_ok (A : List Ask) : ∀ t : Tr, t.wf → (shownF A t).ok
  | .leaf k v, h => ⟨⟨by decide, by decide⟩, by decide, by show 2 < 268435456; omega, ⟨⟨by decide, by decide⟩, by have := h.1; omega, by decide, trivial, ⟨by decide, by decide⟩, by have := h.2; omega, by decide, trivial, trivial⟩, trivial⟩
  | .fork p k z o, h => by
    have hk : k.size = 32 := Tr.wf_key h
    refine ⟨⟨by decide, by decide⟩, by decide, by show 2 < 268435456; omega, ⟨⟨by omega, by have := h.1; omega⟩, by decide, by decide, trivial, ⟨by decide, by decide⟩, by omega, by decide, trivial, trivial⟩, ok_app2 _ _ ?_ ?_⟩
    · split
      · exact shown_ok A z h.2.2.2.2.2.2.2.1
      · exact hashF_ok _ (Tr.hash_size z)
    · split
      · exact shown_ok A o h.2.2.2.2.2.2.2.2
      · exact hashF_ok _ (Tr.hash_size o)
theorem hashF_sml (h : ByteArray) (hh : h.size = 32) : sml 5000 (hashF h) := ⟨by omega, trivial, trivial⟩
theorem shown_sml (A : List Ask) : ∀ t : Tr, t.wf → sml 5000 (shownF A t)
  | .leaf k v, h => ⟨by decide, ⟨by have := h.1; omega, trivial, h.2, trivial, trivial⟩, trivial⟩
  | .fork p k z o, h => by
    have hk : k.size = 32 := Tr.wf_key h
    refine ⟨by decide, ⟨by decide, trivial, by omega, trivial, trivial⟩, (sml_app _ _).2 ⟨?_, ?_⟩⟩
    · split
      · exact shown_sml A z h.2.2.2.2.2.2.2.1
      · exact hashF_sml _ (Tr.hash_size z)
    · split
      · exact shown_sml A o h.2.2.2.2.2.2.2.2
      · exact hashF_sml _ (Tr.hash_size o)

/-- How long. -/
theorem str_bytes (s : ByteArray) (n : Int) (len : Nat) (kb : List UInt8) : (nodeL 1 n s len kb).length = 1 + (szL s.size).length + s.size := by
  unfold nodeL
  rw [if_neg (by decide), if_pos rfl]
  simp; omega
theorem num_bytes (n : Nat) (s : ByteArray) (len : Nat) (kb : List UInt8) (h : n < 256) : (nodeL 0 n s len kb).length ≤ 3 ∧ 2 ≤ (nodeL 0 n s len kb).length := by
  unfold nodeL
  rw [if_pos rfl, Int.toNat_natCast]
  have h1 : (numL n).length ≤ 1 := Cod.numL_len n 1 (by simpa using h)
  rw [Cod.szL_lt (by omega)]
  simp; omega
theorem list_bytes_len (n : Int) (s : ByteArray) (len : Nat) (kb : List UInt8) : (nodeL 2 n s len kb).length = 1 + (szL len).length + kb.length := by
  unfold nodeL
  rw [if_neg (by decide), if_neg (by decide)]
  simp; omega
theorem szL_one {n : Nat} (h : n < 128) : (szL n).length = 1 := by rw [Cod.szL_lt h]; rfl
theorem hashF_bytes (h : ByteArray) (hh : h.size = 32) : (hashF h).bytes.length = 34 := by
  show (nodeL 1 0 h 0 [] ++ []).length = 34
  rw [List.append_nil, str_bytes, hh, szL_one (by decide)]
theorem leafF_bytes (k v : ByteArray) (hk : k.size = 32) : (leafF k v).bytes.length = 37 + (szL v.size).length + v.size := by
  show (nodeL 2 0 ⟨#[]⟩ 2 (nodeL 1 0 k 0 [] ++ (nodeL 1 0 v 0 [] ++ [])) ++ []).length = _
  rw [List.append_nil, list_bytes_len, List.append_nil, List.length_append, str_bytes, str_bytes, hk, szL_one (by decide), szL_one (by decide)]
  omega
theorem forkF_bytes (p : Nat) (k : ByteArray) (r : F) (hk : k.size = 32) (hp : p < 256) : ∃ j, 2 ≤ j ∧ j ≤ 3 ∧ (forkF p k r).bytes.length = 36 + j + r.bytes.length := by
  obtain ⟨h1, h2⟩ := num_bytes p ⟨#[]⟩ 0 [] hp
  refine ⟨_, h2, h1, ?_⟩
  show (nodeL 2 0 ⟨#[]⟩ 2 (nodeL 0 p ⟨#[]⟩ 0 [] ++ (nodeL 1 0 k 0 [] ++ [])) ++ r.bytes).length = _
  rw [List.length_append, list_bytes_len, List.append_nil, List.length_append, str_bytes, hk, szL_one (by decide), szL_one (by decide)]
  omega
theorem shown_bytes (A : List Ask) : ∀ t : Tr, t.wf → (shownF A t).bytes.length + 50 ≤ 5100 * t.pairs.length ∧ (shownF A t).len + 1 ≤ 2 * t.pairs.length ∧ 34 ≤ (shownF A t).bytes.length
  | .leaf k v, h => by
    rw [shownF, leafF_bytes k v h.1]
    have := Cod.szL_len v.size (by have := h.2; omega)
    have := h.2
    refine ⟨?_, ?_, by omega⟩
    · simp [Tr.pairs]; omega
    · simp [leafF, F.len, Tr.pairs]
  | .fork p k z o, h => by
    have hk : k.size = 32 := Tr.wf_key h
    obtain ⟨a1, a2, a3⟩ := shown_bytes A z h.2.2.2.2.2.2.2.1
    obtain ⟨b1, b2, b3⟩ := shown_bytes A o h.2.2.2.2.2.2.2.2
    rw [shownF]
    obtain ⟨j, j1, j2, e⟩ := forkF_bytes p k ((if sideB A (ks k) p false then shownF A z else hashF z.hash).app (if sideB A (ks k) p true then shownF A o else hashF o.hash)) hk h.1
    rw [e, bytes_app, List.length_append]
    have hz := hashF_bytes z.hash (Tr.hash_size z)
    have ho := hashF_bytes o.hash (Tr.hash_size o)
    have hz2 : (if sideB A (ks k) p false then shownF A z else hashF z.hash).bytes.length + 50 ≤ 5100 * z.pairs.length := by
      split
      · exact a1
      · omega
    have ho2 : (if sideB A (ks k) p true then shownF A o else hashF o.hash).bytes.length + 50 ≤ 5100 * o.pairs.length := by
      split
      · exact b1
      · omega
    have hz3 : (if sideB A (ks k) p false then shownF A z else hashF z.hash).len + 1 ≤ 2 * z.pairs.length := by
      split
      · exact a2
      · simp [hashF, F.len]; omega
    have ho3 : (if sideB A (ks k) p true then shownF A o else hashF o.hash).len + 1 ≤ 2 * o.pairs.length := by
      split
      · exact b2
      · simp [hashF, F.len]; omega
    refine ⟨?_, ?_, by omega⟩
    · rw [Tr.pairs, List.length_append]; omega
    · rw [Tr.pairs, List.length_append]
      show ((if sideB A (ks k) p false then shownF A z else hashF z.hash).app (if sideB A (ks k) p true then shownF A o else hashF o.hash)).len + 1 + 1 ≤ _
      rw [Cod.F.app_len]; omega
theorem shown_mono {A B : List Ask} (hAB : ∀ q ∈ A, q ∈ B) : ∀ t : Tr, t.wf → (shownF A t).bytes.length ≤ (shownF B t).bytes.length ∧ (shownF A t).len ≤ (shownF B t).len
  | .leaf _ _, _ => ⟨Nat.le_refl _, Nat.le_refl _⟩
  | .fork p k z o, h => by
    have hk : k.size = 32 := Tr.wf_key h
    have hs : ∀ s, sideB A (ks k) p s = true → sideB B (ks k) p s = true := fun s h => by
      obtain ⟨q, hq, h1⟩ := List.any_eq_true.1 h
      exact List.any_eq_true.2 ⟨q, hAB q hq, h1⟩
    have key : ∀ (s : Bool) (t : Tr), t.wf → ((shownF A t).bytes.length ≤ (shownF B t).bytes.length ∧ (shownF A t).len ≤ (shownF B t).len) →
        (if sideB A (ks k) p s then shownF A t else hashF t.hash).bytes.length ≤ (if sideB B (ks k) p s then shownF B t else hashF t.hash).bytes.length ∧ (if sideB A (ks k) p s then shownF A t else hashF t.hash).len ≤ (if sideB B (ks k) p s then shownF B t else hashF t.hash).len := by
      intro s t ht ih
      cases ha : sideB A (ks k) p s with
      | true => rw [hs s ha]; exact ih
      | false =>
        cases hb : sideB B (ks k) p s with
        | true =>
          have := hashF_bytes t.hash (Tr.hash_size t)
          have := (shown_bytes B t ht).2.2
          have := shown_len B t
          refine ⟨?_, ?_⟩
          · show (hashF t.hash).bytes.length ≤ (shownF B t).bytes.length; omega
          · show (hashF t.hash).len ≤ (shownF B t).len; simp [hashF, F.len]; omega
        | false => exact ⟨Nat.le_refl _, Nat.le_refl _⟩
    obtain ⟨z1, z2⟩ := key false z h.2.2.2.2.2.2.2.1 (shown_mono hAB z h.2.2.2.2.2.2.2.1)
    obtain ⟨o1, o2⟩ := key true o h.2.2.2.2.2.2.2.2 (shown_mono hAB o h.2.2.2.2.2.2.2.2)
    have eb : ∀ r : F, (forkF p k r).bytes.length = (forkF p k .nil).bytes.length + r.bytes.length := fun r => by
      show (nodeL 2 0 ⟨#[]⟩ 2 _ ++ r.bytes).length = (nodeL 2 0 ⟨#[]⟩ 2 _ ++ []).length + _
      rw [List.length_append, List.append_nil]
    refine ⟨?_, ?_⟩
    · rw [shownF, shownF, eb, eb ((if sideB B (ks k) p false then shownF B z else hashF z.hash).app _), bytes_app, bytes_app, List.length_append, List.length_append]; omega
    · show ((if sideB A (ks k) p false then shownF A z else hashF z.hash).app (if sideB A (ks k) p true then shownF A o else hashF o.hash)).len + 1 ≤ ((if sideB B (ks k) p false then shownF B z else hashF z.hash).app (if sideB B (ks k) p true then shownF B o else hashF o.hash)).len + 1
      rw [Cod.F.app_len, Cod.F.app_len]; omega

/-- The text of what is shown. -/
def showL (A : List Ask) (m : Option Tr) : List UInt8 := nodeL 2 0 ⟨#[]⟩ (showN A m).len (showN A m).bytes
def showT (A : List Ask) (m : Option Tr) : ByteArray := ⟨(showL A m).toArray⟩
theorem ks_showT (A : List Ask) (m : Option Tr) : ks (showT A m) = showL A m := by simp [ks, showT]
theorem showN_facts (A : List Ask) (m : Option Tr) (hm : MT.wf m) (hl : (MT.pairs m).length ≤ 1000) : (showN A m).right 19 = true ∧ (showN A m).ok ∧ sml 5000 (showN A m) ∧ (showN A m).len ≤ 2000 ∧ (showN A m).bytes.length ≤ 5100000 := by
  match m, hm, hl with
  | none, _, _ => exact ⟨rfl, trivial, trivial, Nat.zero_le _, Nat.zero_le _⟩
  | some t, hm, hl =>
    obtain ⟨h1, h2, _⟩ := shown_bytes A t hm
    have hl' : t.pairs.length ≤ 1000 := hl
    exact ⟨shown_right A t, shown_ok A t hm, shown_sml A t hm, by show (shownF A t).len ≤ 2000; omega, by show (shownF A t).bytes.length ≤ 5100000; omega⟩
theorem showL_len (A : List Ask) (m : Option Tr) (hm : MT.wf m) (hl : (MT.pairs m).length ≤ 1000) : (showL A m).length ≤ 5100010 := by
  obtain ⟨_, _, _, h4, h5⟩ := showN_facts A m hm hl
  rw [showL, list_bytes_len]
  have := Cod.szL_len (showN A m).len (by omega)
  omega
theorem showNd_right (A : List Ask) (m : Option Tr) (hm : MT.wf m) (hl : (MT.pairs m).length ≤ 1000) : Nd.right ⟨2, 0, ⟨#[]⟩, showN A m⟩ 20 = true := by
  obtain ⟨h1, _⟩ := showN_facts A m hm hl
  show (Cod.plainB 2 0 ⟨#[]⟩ (showN A m).len && (decide (0 < 20) && (showN A m).right 19)) = true
  rw [h1]; rfl
theorem showNd_ok (A : List Ask) (m : Option Tr) (hm : MT.wf m) (hl : (MT.pairs m).length ≤ 1000) : Nd.ok ⟨2, 0, ⟨#[]⟩, showN A m⟩ := by
  obtain ⟨_, h2, _, h4, _⟩ := showN_facts A m hm hl
  exact ⟨⟨by show (0 : Int) ≤ 0; decide, by show (0 : Int) < 18446744073709551616; decide⟩, by show (0 : Nat) < 268435456; omega, by show (showN A m).len < 268435456; omega, h2⟩
theorem read_shown (A : List Ask) (m : Option Tr) (hm : MT.wf m) (hl : (MT.pairs m).length ≤ 1000) : readO (showL A m) = some ⟨2, 0, ⟨#[]⟩, showN A m⟩ := by
  have h := Cod.parse_app 20 2 0 ⟨#[]⟩ (showN A m) [] (showNd_right A m hm hl) (showNd_ok A m hm hl)
  rw [List.append_nil] at h
  unfold readO
  rw [showL, h]
theorem open_shown (A : List Ask) (m : Option Tr) (hm : MT.wf m) (hl : (MT.pairs m).length ≤ 1000) : openX (showL A m) = some (cutM A m) ∧ shortX (showL A m) := by
  have hr := read_shown A m hm hl
  refine ⟨?_, fun x hx => ?_⟩
  · unfold openX
    rw [hr]
    simp only [if_true]
    unfold topP
    match m, hm with
    | none, _ => rfl
    | some t, hm =>
      have h0 : ¬ (showN A (some t)).len = 0 := by have := shown_len A t; show ¬ (shownF A t).len = 0; omega
      rw [if_neg h0]
      have := tree_shown A t (shownF A t).len .nil none false hm (Nat.le_refl _) rfl
      rw [Cod.F.app_nil] at this
      show (match treeP (shownF A t).len (shownF A t) none false with | some (t, r) => if r.len = 0 then some (some t) else none | none => none) = _
      rw [this]; rfl
  · rw [hr] at hx
    obtain rfl : _ = x := by simpa using hx
    exact (showN_facts A m hm hl).2.2.1
theorem cutM_prune (A : List Ask) (m : Option Tr) : PruneM (cutM A m) m := by
  match m with
  | none => trivial
  | some t => exact cut_prune A t
theorem cutM_root (A : List Ask) (m : Option Tr) : MP.root (cutM A m) = MT.root m := pruneM_root (cutM_prune A m)
end Go.Proofs.YtmpjpaomgifpcaaGreatDoor
