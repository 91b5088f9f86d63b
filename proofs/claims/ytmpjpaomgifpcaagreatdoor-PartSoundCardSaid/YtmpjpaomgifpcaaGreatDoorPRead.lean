/- The reference's read. -/
import Derived.Test.YtmpjpaomgifpcaaGreatDoorPRef
import Derived.Test.YtmpjpaomgifpcaaGreatDoorBCodN
namespace Go.Proofs.YtmpjpaomgifpcaaGreatDoor
open Go.RowKit
open Cod (F Nd KidsAt Lies nodeV)

abbrev zTree : Obj := .cells #[.int .i64 0, .string ⟨#[]⟩, .string ⟨#[]⟩, .int .i64 0, .slice none 0 0, .string ⟨#[]⟩] 54
def tv0 : Value := tv 0 ⟨#[]⟩ ⟨#[]⟩ 0 (.slice none 0 0) ⟨#[]⟩
/-- A node of the reference, with what is below it, in blocks not below B. -/
def RT (B : Nat) (w : World) : PT → Value → Prop
  | .stub h, x => x = tv 0 ⟨#[]⟩ ⟨#[]⟩ 0 (.slice none 0 0) h
  | .leaf k u, x => x = tv 1 k u 0 (.slice none 0 0) (PT.leaf k u).hash
  | .fork p k z o, x => ∃ (g c : Nat) (zk zp ok op : Int) (zkey zval okey oval : ByteArray) (zs os : Value), x = tv 2 k ⟨#[]⟩ p (.slice (some ⟨g, 0, none⟩) 2 c) (PT.fork p k z o).hash ∧ B ≤ g ∧ g < w.heap.size ∧
      w.cell? ⟨g, 0, none⟩ = some (.int .i64 zk) ∧ w.cell? ⟨g, 1, none⟩ = some (.string zkey) ∧ w.cell? ⟨g, 2, none⟩ = some (.string zval) ∧ w.cell? ⟨g, 3, none⟩ = some (.int .i64 zp) ∧ w.cell? ⟨g, 4, none⟩ = some zs ∧ w.cell? ⟨g, 5, none⟩ = some (.string z.hash) ∧
      w.cell? ⟨g, 6, none⟩ = some (.int .i64 ok) ∧ w.cell? ⟨g, 7, none⟩ = some (.string okey) ∧ w.cell? ⟨g, 8, none⟩ = some (.string oval) ∧ w.cell? ⟨g, 9, none⟩ = some (.int .i64 op) ∧ w.cell? ⟨g, 10, none⟩ = some os ∧ w.cell? ⟨g, 11, none⟩ = some (.string o.hash) ∧
      RT B w z (tv zk zkey zval zp zs z.hash) ∧ RT B w o (tv ok okey oval op os o.hash)
theorem RT.keep {B B' : Nat} {w w' : World} (hB : B' ≤ B) (hs : w.heap.size ≤ w'.heap.size) (hw : ∀ b, B ≤ b → b < w.heap.size → w'.heap[b]? = w.heap[b]?) : ∀ {t : PT} {x : Value}, RT B w t x → RT B' w' t x
  | .stub _, _, h => h
  | .leaf _ _, _, h => h
  | .fork _ _ _ _, _, ⟨g, c, zk, zp, ok, op, zkey, zval, okey, oval, zs, os, h, hb, hg, a0, a1, a2, a3, a4, a5, b0, b1, b2, b3, b4, b5, hz, ho⟩ => by
    have e : ∀ j, w'.cell? ⟨g, j, none⟩ = w.cell? ⟨g, j, none⟩ := fun j => World.cell?_of_block (a := ⟨g, j, none⟩) (hw g hb hg)
    exact ⟨g, c, zk, zp, ok, op, zkey, zval, okey, oval, zs, os, h, Nat.le_trans hB hb, Nat.lt_of_lt_of_le hg hs, by rw [e]; exact a0, by rw [e]; exact a1, by rw [e]; exact a2, by rw [e]; exact a3, by rw [e]; exact a4, by rw [e]; exact a5, by rw [e]; exact b0, by rw [e]; exact b1, by rw [e]; exact b2, by rw [e]; exact b3, by rw [e]; exact b4, by rw [e]; exact b5, RT.keep hB hs hw hz, RT.keep hB hs hw ho⟩
theorem RT.later {B : Nat} {w w' : World} {t : PT} {v : Value} (h : RT B w t v) (hb : Below w.heap.size w w') : RT B w' t v := RT.keep (Nat.le_refl _) hb.size (fun b _ h => hb.block b h) h
theorem RT.base {B B' : Nat} {w : World} {t : PT} {v : Value} (h : RT B w t v) (hB : B' ≤ B) : RT B' w t v := RT.keep hB (Nat.le_refl _) (fun _ _ _ => rfl) h
/-- What is behind some nodes of a list. -/
def dropF : Nat → F → F
  | 0, f => f
  | _ + 1, .nil => .nil
  | j + 1, .cons _ _ _ _ r => dropF j r
/-- What read answers. -/
def RdO (w : World) (f : F) (o : Option (PT × F)) (e : Ending) (w' : World) : Prop := match o with
  | none => e = .returned (.tuple #[tv0, .int .i64 (-1)]) ∧ Below w.heap.size w w'
  | some (t, r) => ∃ (kd p : Int) (k v : ByteArray) (s : Value) (j : Nat), e = .returned (.tuple #[tv kd k v p s t.hash, .int .i64 j]) ∧ RT w.heap.size w' t (tv kd k v p s t.hash) ∧ r = dropF j f ∧ 1 ≤ j ∧ j ≤ f.len ∧ Below w.heap.size w w'
theorem block6 {w : World} {g : Nat} {x0 x1 x2 x3 x4 x5 : Value} {t : TypeId} (h : w.heap[g]? = some (.cells #[x0, x1, x2, x3, x4, x5] t (0, 0))) :
    (w.cell? ⟨g, 0, none⟩ = some x0 ∧ w.cell? ⟨g, 1, none⟩ = some x1 ∧ w.cell? ⟨g, 2, none⟩ = some x2 ∧ w.cell? ⟨g, 3, none⟩ = some x3 ∧ w.cell? ⟨g, 4, none⟩ = some x4 ∧ w.cell? ⟨g, 5, none⟩ = some x5) ∧
      w.frozen? ⟨g, 0, none⟩ = false ∧ w.frozen? ⟨g, 1, none⟩ = false ∧ w.frozen? ⟨g, 2, none⟩ = false ∧ w.frozen? ⟨g, 3, none⟩ = false ∧ w.frozen? ⟨g, 4, none⟩ = false ∧ w.frozen? ⟨g, 5, none⟩ = false := by
  simp [World.cell?, World.frozen?, h]

theorem six_other {w : World} {b g o : Nat} {v : Value} {x0 x1 x2 x3 x4 x5 : Value} (h : w.cell? ⟨g, o, none⟩ = some v) (hne : g ≠ b) :
    ((((((w.setCell ⟨b, 0, none⟩ x0).setCell ⟨b, 1, none⟩ x1).setCell ⟨b, 2, none⟩ x2).setCell ⟨b, 3, none⟩ x3).setCell ⟨b, 4, none⟩ x4).setCell ⟨b, 5, none⟩ x5).cell? ⟨g, o, none⟩ = some v := by
  rw [World.cell?_of_block (a := ⟨g, o, none⟩) (w := w) (by rw [Cod.setCell_ne _ _ _ _ _ hne, Cod.setCell_ne _ _ _ _ _ hne, Cod.setCell_ne _ _ _ _ _ hne, Cod.setCell_ne _ _ _ _ _ hne, Cod.setCell_ne _ _ _ _ _ hne, Cod.setCell_ne _ _ _ _ _ hne])]
  exact h
theorem six_below {B : Nat} {w W : World} {b : Nat} {x0 x1 x2 x3 x4 x5 : Value} (h : Below B w W) (hb : B ≤ b) :
    Below B w ((((((W.setCell ⟨b, 0, none⟩ x0).setCell ⟨b, 1, none⟩ x1).setCell ⟨b, 2, none⟩ x2).setCell ⟨b, 3, none⟩ x3).setCell ⟨b, 4, none⟩ x4).setCell ⟨b, 5, none⟩ x5) :=
  ((((((h.setCell hb _).setCell hb _).setCell hb _).setCell hb _).setCell hb _).setCell hb _)
theorem six_keep {W : World} {b b' : Nat} {x0 x1 x2 x3 x4 x5 : Value} (hne : b' ≠ b) :
    ((((((W.setCell ⟨b, 0, none⟩ x0).setCell ⟨b, 1, none⟩ x1).setCell ⟨b, 2, none⟩ x2).setCell ⟨b, 3, none⟩ x3).setCell ⟨b, 4, none⟩ x4).setCell ⟨b, 5, none⟩ x5).heap[b']? = W.heap[b']? := by
  rw [Cod.setCell_ne _ _ _ _ _ hne, Cod.setCell_ne _ _ _ _ _ hne, Cod.setCell_ne _ _ _ _ _ hne, Cod.setCell_ne _ _ _ _ _ hne, Cod.setCell_ne _ _ _ _ _ hne, Cod.setCell_ne _ _ _ _ _ hne]
theorem six_size {W : World} {b : Nat} {x0 x1 x2 x3 x4 x5 : Value} :
    ((((((W.setCell ⟨b, 0, none⟩ x0).setCell ⟨b, 1, none⟩ x1).setCell ⟨b, 2, none⟩ x2).setCell ⟨b, 3, none⟩ x3).setCell ⟨b, 4, none⟩ x4).setCell ⟨b, 5, none⟩ x5).heap.size = W.heap.size := by
  simp only [Cod.size_setCell]
theorem six_block {W : World} {b : Nat} {y0 y1 y2 y3 y4 y5 x0 x1 x2 x3 x4 x5 : Value} {t : TypeId} (h : W.heap[b]? = some (.cells #[y0, y1, y2, y3, y4, y5] t (0, 0))) :
    ((((((W.setCell ⟨b, 0, none⟩ x0).setCell ⟨b, 1, none⟩ x1).setCell ⟨b, 2, none⟩ x2).setCell ⟨b, 3, none⟩ x3).setCell ⟨b, 4, none⟩ x4).setCell ⟨b, 5, none⟩ x5).heap[b]? = some (.cells #[x0, x1, x2, x3, x4, x5] t (0, 0)) := by
  simp [World.setCell, Array.getElem?_modify, h]
theorem four_block {W : World} {b : Nat} {y0 y1 y2 y3 y4 y5 x4 : Value} {t : TypeId} (h : W.heap[b]? = some (.cells #[y0, y1, y2, y3, y4, y5] t (0, 0))) :
    (W.setCell ⟨b, 4, none⟩ x4).heap[b]? = some (.cells #[y0, y1, y2, y3, x4, y5] t (0, 0)) := by
  simp [World.setCell, Array.getElem?_modify, h]
theorem five_block {W : World} {b : Nat} {y0 y1 y2 y3 y4 y5 x5 : Value} {t : TypeId} (h : W.heap[b]? = some (.cells #[y0, y1, y2, y3, y4, y5] t (0, 0))) :
    (W.setCell ⟨b, 5, none⟩ x5).heap[b]? = some (.cells #[y0, y1, y2, y3, y4, x5] t (0, 0)) := by
  simp [World.setCell, Array.getElem?_modify, h]
theorem World.lt_of_block {w : World} {g : Nat} {o : Obj} (h : w.heap[g]? = some o) : g < w.heap.size := (Array.getElem?_eq_some_iff.1 h).1
theorem block_kept {X w2 : World} {g B : Nat} {o : Obj} (hX : X.heap[g]? = some o) (hlt : g < B) (hb : Below B X w2) : w2.heap[g]? = some o := by rw [hb.block g hlt]; exact hX
set_option maxRecDepth 30000 in
theorem read_nil (a : Option Addr) (c : Nat) (bits : ByteArray) (at_ si : Int) (w : World) :
    Calls Tryz.prog 48 #[.slice a 0 c, .int .i64 at_, .string bits, .int .i64 si] w (RdO w .nil none) := by
  go_enter Tryz.func48, Tryz.ntmps48
  go_wp2_with fail
  refine bodyPost_ret (v := .tuple #[tv0, .int .i64 (-1)]) (by simp [results, Tryz.results48, go_sem, tv0, tv]) rfl ⟨rfl, ?_⟩
  exact ((Below.refl _ w).alloc (Nat.le_refl _) _).alloc (by simp) _

set_option maxRecDepth 30000 in
set_option maxHeartbeats 1000000 in
theorem read_stub (n : Int) (s : ByteArray) (ka : Option Addr) (kn kc : Nat) (g o L c : Nat) (hL : 1 ≤ L) (r : F) (cc : F) (bits : ByteArray) (at_ si : Int) (w : World)
    (c0 : w.cell? ⟨g, o, none⟩ = some (.int .i64 1)) (c1 : w.cell? ⟨g, o + 1, none⟩ = some (.int .u64 n)) (c2 : w.cell? ⟨g, o + 2, none⟩ = some (.string s)) (c3 : w.cell? ⟨g, o + 3, none⟩ = some (.slice ka kn kc)) :
    Calls Tryz.prog 48 #[.slice (some ⟨g, o, none⟩) L c, .int .i64 at_, .string bits, .int .i64 si] w (RdO w (.cons 1 n s cc r) (if s.size = 32 then some (.stub s, r) else none)) := by
  have hL0 : 0 < L := by omega
  have hLI : (0 : Int) < (L : Int) := by omega
  have hLe : ((L : Int) == 0) = false := by simp; omega
  have x0 := cellA zTree (cellA zTree c0)
  have x1 := cellA zTree (cellA zTree c1)
  have x2 := cellA zTree (cellA zTree c2)
  have x3 := cellA zTree (cellA zTree c3)
  by_cases h : s.size = 32
  · rw [if_pos h]
    have hI : ((s.size : Int) != 32) = false := by rw [h]; rfl
    clear h
    go_enter Tryz.func48, Tryz.ntmps48
    go_wp2_with fail
    refine bodyPost_ret (v := .tuple #[tv 0 ⟨#[]⟩ ⟨#[]⟩ 0 (.slice none 0 0) s, .int .i64 1]) (by simp [results, Tryz.results48, go_sem, tv]) rfl ⟨0, 0, ⟨#[]⟩, ⟨#[]⟩, .slice none 0 0, 1, rfl, rfl, rfl, Nat.le_refl _, by simp [F.len], ?_⟩
    exact (((Below.refl _ w).alloc (Nat.le_refl _) _).alloc (by simp) _).alloc (by simp; omega) _
  · rw [if_neg h]
    have hI : ((s.size : Int) != 32) = true := by simp; omega
    clear h
    go_enter Tryz.func48, Tryz.ntmps48
    go_wp2_with fail
    refine bodyPost_ret (v := .tuple #[tv0, .int .i64 (-1)]) (by simp [results, Tryz.results48, go_sem, tv0, tv]) rfl ⟨rfl, ?_⟩
    exact (((Below.refl _ w).alloc (Nat.le_refl _) _).alloc (by simp) _).alloc (by simp; omega) _

set_option maxRecDepth 30000 in
set_option maxHeartbeats 2000000 in
theorem read_bad (k n : Int) (s : ByteArray) (ka : Option Addr) (kn kc : Nat) (g o L c : Nat) (hL : 1 ≤ L) (f : F) (bits : ByteArray) (at_ si : Int) (w : World) (h1 : k ≠ 1)
    (h2 : k ≠ 2 ∨ kn ≠ 2 ∨ ∃ (g2 o2 : Nat) (k2 : Int), ka = some ⟨g2, o2, none⟩ ∧ w.cell? ⟨g2, o2 + 4, none⟩ = some (.int .i64 k2) ∧ k2 ≠ 1)
    (c0 : w.cell? ⟨g, o, none⟩ = some (.int .i64 k)) (c1 : w.cell? ⟨g, o + 1, none⟩ = some (.int .u64 n)) (c2 : w.cell? ⟨g, o + 2, none⟩ = some (.string s)) (c3 : w.cell? ⟨g, o + 3, none⟩ = some (.slice ka kn kc)) :
    Calls Tryz.prog 48 #[.slice (some ⟨g, o, none⟩) L c, .int .i64 at_, .string bits, .int .i64 si] w (RdO w f none) := by
  have hL0 : 0 < L := by omega
  have hLI : (0 : Int) < (L : Int) := by omega
  have hLe : ((L : Int) == 0) = false := by simp; omega
  have x0 := cellA zTree (cellA zTree c0)
  have x1 := cellA zTree (cellA zTree c1)
  have x2 := cellA zTree (cellA zTree c2)
  have x3 := cellA zTree (cellA zTree c3)
  have hk1 : (k == 1) = false := by simpa using h1
  by_cases hk2 : k = 2
  · have hk2I : (k != 2) = false := by simp [hk2]
    by_cases hn2 : kn = 2
    · subst hn2
      obtain ⟨g2, o2, k2, rfl, d, hd⟩ := (h2.resolve_left (fun h => h hk2)).resolve_left (fun h => h rfl)
      have hdI : (k2 != 1) = true := by simpa using hd
      have x4 := cellA (.cells #[.int .i64 k, .int .u64 n, .string s, .slice (some ⟨g2, o2, none⟩) 2 kc] 80) (cellA zTree (cellA zTree d))
      clear h1 h2 hd hk2
      go_enter Tryz.func48, Tryz.ntmps48
      go_wp2_with fail
      refine bodyPost_ret (v := .tuple #[tv0, .int .i64 (-1)]) (by simp [results, Tryz.results48, go_sem, tv0, tv]) rfl ⟨rfl, ?_⟩
      exact (((Below.refl _ w).alloc (Nat.le_refl _) _).alloc (by simp) _).alloc (by simp; omega) _
    · have hn2I : ((kn : Int) != 2) = true := by simp; omega
      clear h1 h2 hk2 hn2
      go_enter Tryz.func48, Tryz.ntmps48
      go_wp2_with fail
      refine bodyPost_ret (v := .tuple #[tv0, .int .i64 (-1)]) (by simp [results, Tryz.results48, go_sem, tv0, tv]) rfl ⟨rfl, ?_⟩
      exact (((Below.refl _ w).alloc (Nat.le_refl _) _).alloc (by simp) _).alloc (by simp; omega) _
  · have hk2I : (k != 2) = true := by simpa using hk2
    clear h1 h2 hk2
    go_enter Tryz.func48, Tryz.ntmps48
    go_wp2_with fail
    refine bodyPost_ret (v := .tuple #[tv0, .int .i64 (-1)]) (by simp [results, Tryz.results48, go_sem, tv0, tv]) rfl ⟨rfl, ?_⟩
    exact (((Below.refl _ w).alloc (Nat.le_refl _) _).alloc (by simp) _).alloc (by simp; omega) _

set_option maxRecDepth 30000 in
set_option maxHeartbeats 4000000 in
/-- A node of two texts. -/
theorem read_leaf (n n1 : Int) (s u v : ByteArray) (g2 o2 kc : Nat) (ka1 : Option Addr) (kn1 kc1 : Nat) (g o L c : Nat) (hL : 1 ≤ L) (f : F) (r : F) (hr : r = dropF 1 f) (hf : 1 ≤ f.len) (bits : ByteArray) (at_ si : Int) (w : World) (b : Bool) (hv : v.size ≤ 5000)
    (hbel : u.size = 32 → ∀ W : World, Calls Tryz.prog 85 #[.string u, .int .i64 256, .int .i64 at_, .string bits, .int .i64 si] W fun e w' => e = .returned (.bool b) ∧ W = w')
    (c0 : w.cell? ⟨g, o, none⟩ = some (.int .i64 2)) (c1 : w.cell? ⟨g, o + 1, none⟩ = some (.int .u64 n)) (c2 : w.cell? ⟨g, o + 2, none⟩ = some (.string s)) (c3 : w.cell? ⟨g, o + 3, none⟩ = some (.slice (some ⟨g2, o2, none⟩) 2 kc))
    (p0 : w.cell? ⟨g2, o2, none⟩ = some (.int .i64 1)) (p1 : w.cell? ⟨g2, o2 + 1, none⟩ = some (.int .u64 n1)) (p2 : w.cell? ⟨g2, o2 + 2, none⟩ = some (.string u)) (p3 : w.cell? ⟨g2, o2 + 3, none⟩ = some (.slice ka1 kn1 kc1))
    (q0 : w.cell? ⟨g2, o2 + 4, none⟩ = some (.int .i64 1)) (q2 : w.cell? ⟨g2, o2 + 4 + 2, none⟩ = some (.string v)) :
    Calls Tryz.prog 48 #[.slice (some ⟨g, o, none⟩) L c, .int .i64 at_, .string bits, .int .i64 si] w (RdO w f (if u.size = 32 ∧ b = true then some (.leaf u v, r) else none)) := by
  have hL0 : 0 < L := by omega
  have hLI : (0 : Int) < (L : Int) := by omega
  have hLe : ((L : Int) == 0) = false := by simp; omega
  have x0 := cellA zTree (cellA zTree c0)
  have x1 := cellA zTree (cellA zTree c1)
  have x2 := cellA zTree (cellA zTree c2)
  have x3 := cellA zTree (cellA zTree c3)
  obtain ⟨W3, hW3⟩ : ∃ W, W = ((w.alloc zTree).alloc zTree).alloc (.cells #[.int .i64 2, .int .u64 n, .string s, .slice (some ⟨g2, o2, none⟩) 2 kc] 80) := ⟨_, rfl⟩
  have y0 : (((w.alloc zTree).alloc zTree).alloc (.cells #[.int .i64 2, .int .u64 n, .string s, .slice (some ⟨g2, o2, none⟩) 2 kc] 80)).cell? ⟨g2, o2, none⟩ = some (.int .i64 1) := cellA _ (cellA _ (cellA _ p0))
  have y1 : (((w.alloc zTree).alloc zTree).alloc (.cells #[.int .i64 2, .int .u64 n, .string s, .slice (some ⟨g2, o2, none⟩) 2 kc] 80)).cell? ⟨g2, o2 + 1, none⟩ = some (.int .u64 n1) := cellA _ (cellA _ (cellA _ p1))
  have y2 : (((w.alloc zTree).alloc zTree).alloc (.cells #[.int .i64 2, .int .u64 n, .string s, .slice (some ⟨g2, o2, none⟩) 2 kc] 80)).cell? ⟨g2, o2 + 2, none⟩ = some (.string u) := cellA _ (cellA _ (cellA _ p2))
  have y3 : (((w.alloc zTree).alloc zTree).alloc (.cells #[.int .i64 2, .int .u64 n, .string s, .slice (some ⟨g2, o2, none⟩) 2 kc] 80)).cell? ⟨g2, o2 + 3, none⟩ = some (.slice ka1 kn1 kc1) := cellA _ (cellA _ (cellA _ p3))
  have z0 : (((w.alloc zTree).alloc zTree).alloc (.cells #[.int .i64 2, .int .u64 n, .string s, .slice (some ⟨g2, o2, none⟩) 2 kc] 80)).cell? ⟨g2, o2 + 4, none⟩ = some (.int .i64 1) := cellA _ (cellA _ (cellA _ q0))
  have z1 : ((((w.alloc zTree).alloc zTree).alloc (.cells #[.int .i64 2, .int .u64 n, .string s, .slice (some ⟨g2, o2, none⟩) 2 kc] 80)).alloc (.cells #[.int .i64 1, .int .u64 n1, .string u, .slice ka1 kn1 kc1] 80)).cell? ⟨g2, o2 + 4 + 2, none⟩ = some (.string v) := cellA _ (cellA _ (cellA _ (cellA _ q2)))
  clear hW3
  by_cases h : u.size = 32
  · have hI : ((u.size : Int) != 32) = false := by rw [h]; rfl
    have HBEL := Lib.hid (hbel h)
    obtain ⟨W4, hW4⟩ : ∃ W, W = ((((w.alloc zTree).alloc zTree).alloc (.cells #[.int .i64 2, .int .u64 n, .string s, .slice (some ⟨g2, o2, none⟩) 2 kc] 80)).alloc (.cells #[.int .i64 1, .int .u64 n1, .string u, .slice ka1 kn1 kc1] 80)) := ⟨_, rfl⟩
    obtain ⟨SV, hSV⟩ : ∃ x, x = sumB (ks v) := ⟨_, rfl⟩
    obtain ⟨H, hH⟩ : ∃ x, x = (PT.leaf u v).hash := ⟨_, rfl⟩
    have HP1 := Lib.hid (fun W => print_at v SV W hSV.symm (by omega))
    have HP2 := Lib.hid (fun W => (show Calls Tryz.prog 52 #[.string ((⟨#[0]⟩ : ByteArray) ++ u ++ SV)] W (StrRes W H) by rw [hH]; exact leaf_print u v SV hSV.symm h W))
    have hSVs : SV.size = 32 := by rw [hSV]; exact sumB_size _
    have e1 : ¬ 9223372036854775807 < 1 + u.size := by omega
    have e2 : ¬ 9223372036854775807 < 1 + u.size + SV.size := by omega
    have hb4 : Below w.heap.size w W4 := by rw [hW4]; exact ((((Below.refl _ w).alloc (Nat.le_refl _) _).alloc (by simp) _).alloc (by simp; omega) _).alloc (by simp; omega) _
    have hbk : W4.heap[w.heap.size]? = some zTree := by
      rw [hW4]
      have hh := heap_alloc_new w zTree
      exact block_kept (block_kept (block_kept hh (by simp) ((Below.refl _ _).alloc (Nat.le_refl _) _)) (by simp; omega) ((Below.refl _ _).alloc (Nat.le_refl _) _)) (by simp; omega) ((Below.refl _ _).alloc (Nat.le_refl _) _)
    have hd2 : W4.cell? ⟨w.heap.size + 1 + 1 + 1, 2, none⟩ = some (.string u) := by
      have hs : (((w.alloc zTree).alloc zTree).alloc (.cells #[.int .i64 2, .int .u64 n, .string s, .slice (some ⟨g2, o2, none⟩) 2 kc] 80)).heap.size = w.heap.size + 1 + 1 + 1 := by simp
      rw [hW4, ← hs]
      exact (Cod.block4 (heap_alloc_new _ _)).2.2.1
    have HW4 := Lib.hid hW4
    have HB4 := Lib.hid hb4
    have HH := Lib.hid hH
    have HHI := Lib.hid h
    clear hW4 hb4 hSV hH h hSVs hbel
    cases b with
    | true =>
      rw [if_pos ⟨HHI.out, rfl⟩]
      go_enter Tryz.func48, Tryz.ntmps48
      go_wp2_with fail
      refine (HBEL.out _).mono ?_
      rintro e wz ⟨rfl, rfl⟩
      go_wp2_with fail
      rw [← HW4.out]
      go_region_held3 (fun X => X.cell? ⟨w.heap.size + 1 + 1 + 1, 2, none⟩ = some (.string u))
        (first | with_reducible exact hd2 | with_reducible exact hcs5 | with_reducible exact hcs6 | with_reducible exact six_other hcs6 (by omega) | exact (show W4.drew.cell? _ = _ from hd2))
        (first
          | (go_at_call 52; (with_reducible refine (HP1.out _).mono ?_); rintro e w5 ⟨rfl, hb5⟩; have hcs5 := cellD hb5 hd2; have hbk5 := block_kept (show (W4.drew).heap[w.heap.size]? = some zTree from hbk) (World.lt_of_block hbk) hb5; have HB5 := Lib.hid ((HB4.out.drew).trans (hb5.mono HB4.out.size)))
          | (go_at_call 52; (with_reducible refine (HP2.out _).mono ?_); rintro e w6 ⟨rfl, hb6⟩; have hcs6 := cellB hb6 hcs5; have hbk6 := block_kept hbk5 (World.lt_of_block hbk5) hb6; have HB6 := Lib.hid (HB5.out.trans (hb6.mono HB5.out.size)); obtain ⟨⟨a0, a1, a2, a3, a4, a5⟩, b0, b1, b2, b3, b4, b5⟩ := block6 hbk6))
      · go_wp2_with fail
        refine bodyPost_ret (v := .tuple #[tv 1 u v 0 (.slice none 0 0) H, .int .i64 1]) (by simp [results, Tryz.results48, go_sem, tv, a0, a1, a2, a3, a4, a5]) rfl ⟨1, 0, u, v, .slice none 0 0, 1, by rw [HH.out]; rfl, rfl, hr, Nat.le_refl _, hf, ?_⟩
        exact six_below HB6.out (Nat.le_refl _)
    | false =>
      rw [if_neg (by simp)]
      clear HP1 HP2 hbk hd2 e1 e2
      go_enter Tryz.func48, Tryz.ntmps48
      go_wp2_with fail
      refine (HBEL.out _).mono ?_
      rintro e wz ⟨rfl, rfl⟩
      go_wp2_with fail
      refine bodyPost_ret (v := .tuple #[tv0, .int .i64 (-1)]) (by simp [results, Tryz.results48, go_sem, tv0, tv]) rfl ⟨rfl, ?_⟩
      exact ((((Below.refl _ w).alloc (Nat.le_refl _) _).alloc (by simp) _).alloc (by simp; omega) _).alloc (by simp; omega) _
  · have hI : ((u.size : Int) != 32) = true := by simp; omega
    rw [if_neg (fun hh => h hh.1)]
    clear h hbel
    go_enter Tryz.func48, Tryz.ntmps48
    go_wp2_with fail
    refine bodyPost_ret (v := .tuple #[tv0, .int .i64 (-1)]) (by simp [results, Tryz.results48, go_sem, tv0, tv]) rfl ⟨rfl, ?_⟩
    exact ((((Below.refl _ w).alloc (Nat.le_refl _) _).alloc (by simp) _).alloc (by simp; omega) _).alloc (by simp; omega) _
end Go.Proofs.YtmpjpaomgifpcaaGreatDoor
