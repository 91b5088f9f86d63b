/- Which nodes are a part's tree; the pure part. -/
import Derived.Test.YtmpjpaomgifpcaaGreatDoorPMod
import Derived.Test.YtmpjpaomgifpcaaGreatDoorBCod
namespace Go.Proofs.YtmpjpaomgifpcaaGreatDoor
open Go.Op
open Cod (F Nd)

/-- What a node says by itself. -/
inductive SN where
  | stub (h : ByteArray)
  | leaf (k v : ByteArray)
  | fork (p : Nat) (k : ByteArray)
def twoP (k1 n1 : Int) (s1 : ByteArray) (k2 : Int) (s2 : ByteArray) : Option SN :=
  if k2 = 1 then (if k1 = 1 then (if s1.size = 32 then some (.leaf s1 s2) else none)
    else if k1 = 0 then (if n1 < 256 ∧ s2.size = 32 ∧ firstB s2 n1.toNat = s2 then some (.fork n1.toNat s2) else none) else none) else none
def singP (k : Int) (s : ByteArray) (c : F) : Option SN :=
  if k = 1 then (if s.size = 32 then some (.stub s) else none)
  else if k = 2 then (match c with
    | .cons k1 n1 s1 _ (.cons k2 _ s2 _ .nil) => twoP k1 n1 s1 k2 s2
    | _ => none)
  else none
/-- May it stand there? -/
def standB (p : Nat) (k : ByteArray) (side : Bool) (q : Nat) (u : ByteArray) : Bool := decide (p < q) && (decide (p ≤ comL (ks u) (ks k)) && (bitL (ks u) p == side))
def fitS (ab : Option (Nat × ByteArray)) (side : Bool) (x : SN) : Bool := match ab with
  | none => true
  | some (p, k) => match x with
    | .stub _ => true
    | .leaf u _ => standB p k side 256 u
    | .fork q u => standB p k side q u
def treeP : Nat → F → Option (Nat × ByteArray) → Bool → Option (PT × F)
  | 0, _, _, _ => none
  | _ + 1, .nil, _, _ => none
  | m + 1, .cons k _ s c r, ab, side => match singP k s c with
    | none => none
    | some x => if fitS ab side x then (match x with
      | .stub h => some (.stub h, r)
      | .leaf u v => some (.leaf u v, r)
      | .fork p u => match treeP m r (some (p, u)) false with
        | none => none
        | some (z, r1) => match treeP m r1 (some (p, u)) true with
          | none => none
          | some (o, r2) => some (.fork p u z o, r2)) else none
theorem treeP_len : ∀ (m : Nat) (f : F) (ab : Option (Nat × ByteArray)) (side : Bool) (t : PT) (r : F), treeP m f ab side = some (t, r) → r.len < f.len
  | 0, _, _, _, _, _, h => by cases h
  | _ + 1, .nil, _, _, _, _, h => by cases h
  | m + 1, .cons k n s c r0, ab, side, t, r, h => by
    rw [treeP] at h
    split at h
    · cases h
    · split at h
      · split at h
        · obtain ⟨_, rfl⟩ : _ ∧ r0 = r := by simpa using h
          simp [F.len]
        · obtain ⟨_, rfl⟩ : _ ∧ r0 = r := by simpa using h
          simp [F.len]
        · split at h
          · cases h
          · rename_i h1
            split at h
            · cases h
            · rename_i h2
              obtain ⟨_, rfl⟩ : _ ∧ _ = r := by simpa using h
              have := treeP_len m _ _ _ _ _ h1
              have := treeP_len m _ _ _ _ _ h2
              simp [F.len]; omega
      · cases h
/-- Texts are not longer than that. -/
def sml (B : Nat) : F → Prop
  | .nil => True
  | .cons _ _ s c r => s.size ≤ B ∧ sml B c ∧ sml B r
theorem sml_of (B : Nat) : ∀ (f : F) (d : Nat), f.right d = true → f.bytes.length ≤ B → sml B f
  | .nil, _, _, _ => trivial
  | .cons k n s c r, d, h, hl => by
    rw [F.right] at h
    simp only [Bool.and_eq_true] at h
    obtain ⟨h1, _, h3, h4⟩ := h
    rw [F.bytes, List.length_append] at hl
    refine ⟨?_, ?_, sml_of B r d h4 (by omega)⟩
    · unfold Cod.plainB at h1
      unfold Cod.nodeL at hl
      split at h1
      · simp only [Bool.and_eq_true, beq_iff_eq] at h1; omega
      · rename_i hk0
        rw [if_neg hk0] at hl
        split at h1
        · rename_i hk1
          rw [if_pos hk1] at hl
          simp at hl; omega
        · simp only [Bool.and_eq_true, beq_iff_eq] at h1; omega
    · by_cases hk : c.len = 0
      · rw [Cod.F.len_zero hk]; trivial
      · refine sml_of B c (d - 1) h3 ?_
        unfold Cod.plainB at h1
        unfold Cod.nodeL at hl
        split at h1
        · simp at h1; omega
        · rename_i hk0
          rw [if_neg hk0] at hl
          split at h1
          · simp at h1; omega
          · rename_i hk1
            rw [if_neg hk1] at hl
            simp at hl; omega
theorem sml_drop {B : Nat} {k n : Int} {s : ByteArray} {c r : F} (h : sml B (.cons k n s c r)) : sml B r := h.2.2
theorem twoP_ok {k1 n1 : Int} {s1 : ByteArray} {k2 : Int} {s2 : ByteArray} {x : SN} (h : twoP k1 n1 s1 k2 s2 = some x) : (x = .leaf s1 s2 ∧ s1.size = 32) ∨ (x = .fork n1.toNat s2 ∧ n1 < 256 ∧ s2.size = 32 ∧ firstB s2 n1.toNat = s2) := by
  unfold twoP at h
  split at h
  · split at h
    · split at h
      · rename_i h1
        exact .inl ⟨by simpa using h.symm, h1⟩
      · cases h
    · split at h
      · split at h
        · rename_i h1
          exact .inr ⟨by simpa using h.symm, h1.1, h1.2.1, h1.2.2⟩
        · cases h
      · cases h
  · cases h
theorem singP_ok {k : Int} {s : ByteArray} {c : F} {x : SN} (hok : c.ok) (hs : sml 5000 c) (h : singP k s c = some x) :
    (∃ u, x = .stub u ∧ u.size = 32) ∨ (∃ u v, x = .leaf u v ∧ u.size = 32 ∧ v.size ≤ 5000) ∨ (∃ p u, x = .fork p u ∧ p < 256 ∧ u.size = 32 ∧ firstB u p = u) := by
  unfold singP at h
  split at h
  · split at h
    · rename_i h1
      exact .inl ⟨s, by simpa using h.symm, h1⟩
    · cases h
  · split at h
    · split at h
      · rename_i k1 n1 s1 c1 k2 n2 s2 c2
        rcases twoP_ok h with ⟨e, h1⟩ | ⟨e, h1, h2, h3⟩
        · exact .inr (.inl ⟨s1, s2, e, h1, hs.2.2.1⟩)
        · exact .inr (.inr ⟨_, s2, e, by have := hok.1.1; omega, h2, h3⟩)
      · cases h
    · cases h
theorem treeP_ok : ∀ (m : Nat) (f : F) (ab : Option (Nat × ByteArray)) (side : Bool) (t : PT) (r : F), f.ok → sml 5000 f → treeP m f ab side = some (t, r) → t.ok ∧ r.ok ∧ sml 5000 r ∧ t.leaves + r.len ≤ f.len
  | 0, _, _, _, _, _, _, _, h => by cases h
  | _ + 1, .nil, _, _, _, _, _, _, h => by cases h
  | m + 1, .cons k n s c r0, ab, side, t, r, hok, hs, h => by
    rw [treeP] at h
    split at h
    · cases h
    · rename_i x hx
      have hx2 := singP_ok hok.2.2.2.1 hs.2.1 hx
      split at h
      · split at h
        · obtain ⟨rfl, rfl⟩ : _ = t ∧ r0 = r := by simpa using h
          rcases hx2 with ⟨u, e, h1⟩ | ⟨u, v, e, h1, h2⟩ | ⟨p, u, e, h1⟩
          · cases e; exact ⟨h1, hok.2.2.2.2, hs.2.2, by simp [PT.leaves, F.len]⟩
          · cases e
          · cases e
        · obtain ⟨rfl, rfl⟩ : _ = t ∧ r0 = r := by simpa using h
          rcases hx2 with ⟨u, e, h1⟩ | ⟨u, v, e, h1, h2⟩ | ⟨p, u, e, h1⟩
          · cases e
          · cases e; exact ⟨⟨h1, h2⟩, hok.2.2.2.2, hs.2.2, by simp [PT.leaves, F.len]; omega⟩
          · cases e
        · rcases hx2 with ⟨u, e, h1⟩ | ⟨u, v, e, h1, h2⟩ | ⟨p, u, e, hp, hu, _⟩
          · cases e
          · cases e
          · cases e
            split at h
            · cases h
            · rename_i h1
              split at h
              · cases h
              · rename_i h2
                obtain ⟨rfl, rfl⟩ : _ = t ∧ _ = r := by simpa using h
                obtain ⟨a1, a2, a3, a4⟩ := treeP_ok m _ _ _ _ _ hok.2.2.2.2 hs.2.2 h1
                obtain ⟨b1, b2, b3, b4⟩ := treeP_ok m _ _ _ _ _ a2 a3 h2
                exact ⟨⟨hp, hu, a1, b1⟩, b2, b3, by simp only [PT.leaves, F.len]; omega⟩
      · cases h
end Go.Proofs.YtmpjpaomgifpcaaGreatDoor
