/- The reference's Root of what is opened; texts that are not long. -/
import Derived.Test.YtmpjpaomgifpcaaGreatDoorPRead5
namespace Go.Proofs.YtmpjpaomgifpcaaGreatDoor
open Go.RowKit
open Cod (F Nd readO)

theorem RT.val {B : Nat} {w : World} {t : PT} {x : Value} (h : RT B w t x) : ∃ (kd p : Int) (k v : ByteArray) (s : Value), x = tv kd k v p s t.hash := by
  match t, h with
  | .stub u, h => exact ⟨0, 0, ⟨#[]⟩, ⟨#[]⟩, _, h⟩
  | .leaf k u, h => exact ⟨1, 0, k, u, _, h⟩
  | .fork p k z o, ⟨g, c, _, _, _, _, _, _, _, _, _, _, h, _⟩ => exact ⟨2, p, k, ⟨#[]⟩, _, h⟩

set_option maxRecDepth 30000 in
theorem root_ref0 (w : World) : Calls Tryz.prog 20 #[tv0] w (StrRes w noneH) := by
  unfold tv0 tv
  go_enter Tryz.func20, Tryz.ntmps20
  go_wp2_with (refine list_makeN Tryz.bytesSl rfl _ _ rfl 32 32 32 rfl rfl rfl rfl (by omega) (by unfold maxLen; omega) rfl ?_)
  intro w1 hr hb
  have hc := rowIs_block hr
  have hcells := cells_map 32 (List.replicate 32 (0 : UInt8)) (fun _ => 0) (by simp) (fun j hj => by rw [List.getD_eq_getElem?_getD, List.getElem?_replicate]; simp [hj])
  have e0 : arrL 32 (fun _ => Value.int .u8 0) = (List.replicate 32 (0 : UInt8)).map byteV := hcells
  rw [e0] at hc
  have hcv := run_string_row (src := 99) (dst := 9) Tryz.underlying99 Tryz.underlying5 Tryz.underlying9 (w.heap.size + 1) 32 (List.replicate 32 (0 : UInt8)) (P := Tryz.prog) (e := 5) (w := w1) hc
  rw [List.length_replicate] at hcv
  clear hc hcells e0 hr
  go_wp2
  go_ret
  exact ⟨rfl, ((Below.refl _ w).alloc (Nat.le_refl _) _).trans (hb.mono (Nat.le_succ _))⟩
set_option maxRecDepth 30000 in
theorem root_ref1 (kd p : Int) (k v h : ByteArray) (s : Value) (w : World) (hh : h.size = 32) : Calls Tryz.prog 20 #[tv kd k v p s h] w (StrRes w h) := by
  have hI : h.toList.isEmpty = false := by
    have hne : (h.toList == (⟨#[]⟩ : ByteArray).toList) = false := str_ne (fun e => by rw [e] at hh; cases hh)
    cases e : h.toList.isEmpty with
    | false => rfl
    | true =>
      have h0 : (⟨#[]⟩ : ByteArray).toList = [] := by unfold ByteArray.toList ByteArray.toList.loop; rfl
      rw [List.isEmpty_iff.1 e, h0] at hne
      exact absurd hne (by decide)
  have HB := Lib.hid ((Below.refl _ w).alloc (Nat.le_refl _) (.cells #[.int .i64 kd, .string k, .string v, .int .i64 p, s, .string h] 54))
  clear hh
  unfold tv
  go_enter Tryz.func20, Tryz.ntmps20
  go_wp2_with fail
  go_ret
  exact ⟨rfl, HB.out⟩

theorem shortX_of {l : List UInt8} (hl : l.length ≤ 5000) : shortX l := fun x hx => by
  obtain ⟨_, hr, hb⟩ := readO_ok hx (by omega)
  have hR : (F.cons x.k x.n x.s x.kids .nil).right 20 = true := by
    unfold Nd.right at hr
    rw [F.right]
    simp only [Bool.and_eq_true] at hr ⊢
    exact ⟨hr.1, hr.2.1, hr.2.2, rfl⟩
  have hL : (F.cons x.k x.n x.s x.kids .nil).bytes.length ≤ 5000 := by
    rw [F.bytes, List.length_append]
    have : x.bytes.length ≤ 5000 := by rw [← hb]; exact hl
    unfold Nd.bytes at this
    simp only [F.bytes, List.length_nil]; omega
  exact (sml_of 5000 _ 20 hR hL).2.1

/-- The reference's tree of a map's part, or of none. -/
def RTM (B : Nat) (w : World) (m : Option PT) (x : Value) : Prop := match m with
  | none => x = tv0
  | some t => RT B w t x
theorem RTM.later {B : Nat} {w w' : World} {m : Option PT} {v : Value} (h : RTM B w m v) (hb : Below w.heap.size w w') : RTM B w' m v := by
  match m, h with
  | none, h => exact h
  | some t, h => exact RT.later h hb
theorem RTM.shape {B : Nat} {w : World} {m : Option PT} {x : Value} (h : RTM B w m x) : ∃ (kd p : Int) (k v hh : ByteArray) (a : Option Addr) (n c : Nat), x = tv kd k v p (.slice a n c) hh := by
  match m, h with
  | none, h => exact ⟨0, 0, _, _, _, none, 0, 0, h⟩
  | some t, h =>
    obtain ⟨kd, p, k, v, s, e⟩ := RT.val (show RT B w t x from h)
    subst e
    obtain ⟨a, n, c, rfl⟩ := RT.one (show RT B w t _ from h)
    exact ⟨kd, p, k, v, _, a, n, c, rfl⟩
theorem root_refM {B : Nat} {w : World} {m : Option PT} {x : Value} (h : RTM B w m x) (hok : MP.ok m) (W : World) : Calls Tryz.prog 20 #[x] W (StrRes W (MP.root m)) := by
  match m, h, hok with
  | none, h, _ => rw [show x = tv0 from h]; exact root_ref0 W
  | some t, h, hok =>
    obtain ⟨kd, p, k, v, s, e⟩ := RT.val (show RT B w t x from h)
    subst e
    exact root_ref1 kd p k v t.hash s W (PT.hash_size t hok)

theorem nodeL_two (n : Int) (s : ByteArray) (len : Nat) (kb : List UInt8) : 1 + kb.length ≤ (Cod.nodeL 2 n s len kb).length := by
  unfold Cod.nodeL
  rw [if_neg (by decide), if_neg (by decide)]
  simp; omega
theorem nodeL_one (n : Int) (s : ByteArray) (len : Nat) (kb : List UInt8) : 1 + s.size ≤ (Cod.nodeL 1 n s len kb).length := by
  unfold Cod.nodeL
  rw [if_neg (by decide), if_pos rfl]
  simp; omega
theorem sing_bytes {k n : Int} {s : ByteArray} {c : F} {x : SN} (h : singP k s c = some x) (hx : ∀ u, x ≠ .stub u) : 34 ≤ (Cod.nodeL k n s c.len c.bytes).length := by
  unfold singP at h
  by_cases h1 : k = 1
  · rw [if_pos h1] at h
    split at h
    · obtain rfl : SN.stub s = x := by simpa using h
      exact absurd rfl (hx s)
    · cases h
  · rw [if_neg h1] at h
    by_cases h2 : k = 2
    · rw [if_pos h2] at h
      subst h2
      have hb := nodeL_two n s c.len c.bytes
      split at h
      · rename_i k1 n1 s1 d1 k2 n2 s2 d2
        have b1 : (F.cons k1 n1 s1 d1 (.cons k2 n2 s2 d2 .nil)).bytes.length = (Cod.nodeL k1 n1 s1 d1.len d1.bytes).length + (Cod.nodeL k2 n2 s2 d2.len d2.bytes).length := by
          simp [F.bytes]
        unfold twoP at h
        split at h
        · rename_i hk2
          subst hk2
          have q2 := nodeL_one n2 s2 d2.len d2.bytes
          split at h
          · rename_i hk1
            subst hk1
            have q1 := nodeL_one n1 s1 d1.len d1.bytes
            split at h
            · omega
            · cases h
          · split at h
            · split at h
              · rename_i hh; omega
              · cases h
            · cases h
        · cases h
      · cases h
    · rw [if_neg h2] at h; cases h
/-- How many texts are hashed for what is told in so many bytes. -/
theorem texts_nodes : ∀ (m : Nat) (f : F) (ab : Option (Nat × ByteArray)) (side : Bool) (t : PT) (r : F), treeP m f ab side = some (t, r) → 17 * t.texts.length + r.bytes.length ≤ f.bytes.length
  | 0, _, _, _, _, _, h => by cases h
  | _ + 1, .nil, _, _, _, _, h => by cases h
  | m + 1, .cons k n s c r0, ab, side, t, r, h => by
    rw [treeP] at h
    split at h
    · cases h
    · rename_i x hx
      have hsb := sing_bytes (n := n) hx
      split at h
      · split at h
        · obtain ⟨rfl, rfl⟩ : _ = t ∧ r0 = r := by simpa using h
          simp [PT.texts, F.bytes]
        · obtain ⟨rfl, rfl⟩ : _ = t ∧ r0 = r := by simpa using h
          have := hsb (fun u e => by cases e)
          simp only [PT.texts, F.bytes, List.length_append, List.length_cons, List.length_nil]; omega
        · have h34 := hsb (fun u e => by cases e)
          split at h
          · cases h
          · rename_i h1
            split at h
            · cases h
            · rename_i h2
              obtain ⟨rfl, rfl⟩ : _ = t ∧ _ = r := by simpa using h
              have a := texts_nodes m _ _ _ _ _ h1
              have b := texts_nodes m _ _ _ _ _ h2
              simp only [PT.texts, F.bytes, List.length_append, List.length_cons, List.length_nil]; omega
      · cases h
theorem nodeL_pos (k n : Int) (s : ByteArray) (len : Nat) (kb : List UInt8) : 1 + (if k = 0 ∨ k = 1 then 0 else kb.length) ≤ (Cod.nodeL k n s len kb).length := by
  unfold Cod.nodeL
  by_cases h0 : k = 0
  · rw [if_pos h0]; simp [h0]
  · rw [if_neg h0]
    by_cases h1 : k = 1
    · rw [if_pos h1]; simp [h1]
    · rw [if_neg h1]; simp [h0, h1]; omega
theorem len_bytes : ∀ f : F, f.len ≤ f.bytes.length
  | .nil => Nat.le_refl _
  | .cons k n s c r => by
    have h1 := nodeL_pos k n s c.len c.bytes
    have h2 := len_bytes r
    simp only [F.len, F.bytes, List.length_append]; omega
theorem open_len {l : List UInt8} {t : PT} (hl : l.length ≤ 4000) (h : openX l = some (some t)) : t.leaves ≤ 4000 ∧ t.texts.length ≤ 240 := by
  unfold openX at h
  split at h
  · rename_i x hx
    obtain ⟨hok, _, hb⟩ := readO_ok hx (by omega)
    have hs : sml 5000 x.kids := shortX_of (by omega) x hx
    split at h
    · rename_i hk
      have hkb : x.kids.bytes.length ≤ 4000 := by
        have h1 := nodeL_two x.n x.s x.kids.len x.kids.bytes
        have h3 : x.bytes.length ≤ 4000 := by rw [← hb]; exact hl
        unfold Nd.bytes at h3
        rw [hk] at h3
        omega
      have h2 := len_bytes x.kids
      unfold topP at h
      split at h
      · cases h
      · split at h
        · rename_i u r hu
          split at h
          · obtain rfl : u = t := by simpa using h
            have a := texts_nodes _ _ _ _ _ _ hu
            obtain ⟨_, _, _, b⟩ := treeP_ok _ _ _ _ _ _ hok.2.2.2 hs hu
            omega
          · cases h
        · cases h
    · cases h
  · cases h
end Go.Proofs.YtmpjpaomgifpcaaGreatDoor
