/- trie's trees in memory; leaf, span, Bit of them. -/
import Derived.Test.YtohcackebmmikaaDoorIHash
import Derived.Test.YtohcackebmmikaaDoorIClone
namespace Go.Proofs.YtohcackebmmikaaDoor
open Go.RowKit

/-- A tree: leaves, and forks of a place and first bits. -/
inductive Tr where
  | leaf (k v : ByteArray)
  | fork (p : Nat) (k : ByteArray) (z o : Tr)

def Tr.hash : Tr → ByteArray
  | .leaf k v => leafH k v
  | .fork p k z o => forkH p k z.hash o.hash
def Tr.key : Tr → ByteArray
  | .leaf k _ => k
  | .fork _ k _ _ => k
def Tr.span : Tr → Nat
  | .leaf _ _ => 256
  | .fork p _ _ _ => p
/-- Keys have 32 bytes, values up to 100; places are bits. -/
def Tr.sz : Tr → Prop
  | .leaf k v => k.size = 32 ∧ v.size ≤ 100
  | .fork p k z o => p < 256 ∧ k.size = 32 ∧ z.sz ∧ o.sz
theorem Tr.hash_size : ∀ t : Tr, t.hash.size = 32
  | .leaf _ _ => sumB_size _
  | .fork _ _ _ _ => sumB_size _
theorem Tr.key_size : ∀ (t : Tr), t.sz → t.key.size = 32
  | .leaf _ _, h => h.1
  | .fork _ _ _ _, h => h.2.1
def Tr.depth : Tr → Nat
  | .leaf _ _ => 0
  | .fork _ _ z o => max z.depth o.depth + 1

def pp (b : Nat) : Value := .pointer (some ⟨b, 0, none⟩)
def nodeC (lf : Bool) (k v : ByteArray) (p : Nat) (z o : Value) (h : ByteArray) : Array Value := #[.bool lf, .bool false, .string k, .string v, .int .i64 p, z, o, .string h]
/-- Block b is such a node. -/
def NodeAt (w : World) (b : Nat) (lf : Bool) (k v : ByteArray) (p : Nat) (z o : Value) (h : ByteArray) : Prop := w.heap[b]? = some (.cells (nodeC lf k v p z o h) 68 (0, 0))
def Rep (w : World) : Tr → Nat → Prop
  | .leaf k v, b => NodeAt w b true k v 0 (.pointer none) (.pointer none) (leafH k v)
  | .fork p k z o, b => ∃ bz bo, NodeAt w b false k ⟨#[]⟩ p (pp bz) (pp bo) (forkH p k z.hash o.hash) ∧ Rep w z bz ∧ Rep w o bo

theorem block_lt {w : World} {b : Nat} {x : Obj} (h : w.heap[b]? = some x) : b < w.heap.size := by
  rcases Nat.lt_or_ge b w.heap.size with h1 | h1
  · exact h1
  · rw [Array.getElem?_eq_none h1] at h; cases h
theorem NodeAt.lt {w : World} {b : Nat} {lf : Bool} {k v h : ByteArray} {p : Nat} {z o : Value} (hn : NodeAt w b lf k v p z o h) : b < w.heap.size := block_lt hn
theorem Rep.lt {w : World} : ∀ {t : Tr} {b : Nat}, Rep w t b → b < w.heap.size
  | .leaf _ _, _, h => NodeAt.lt h
  | .fork _ _ _ _, _, ⟨_, _, h, _⟩ => NodeAt.lt h
theorem NodeAt.later {w w' : World} {b : Nat} {lf : Bool} {k v h : ByteArray} {p : Nat} {z o : Value} (hn : NodeAt w b lf k v p z o h) (hb : Below w.heap.size w w') : NodeAt w' b lf k v p z o h := by
  unfold NodeAt at *; rw [hb.block b (block_lt hn)]; exact hn
theorem Rep.later {w w' : World} (hb : Below w.heap.size w w') : ∀ {t : Tr} {b : Nat}, Rep w t b → Rep w' t b
  | .leaf _ _, _, h => NodeAt.later h hb
  | .fork _ _ _ _, _, ⟨bz, bo, h, hz, ho⟩ => ⟨bz, bo, NodeAt.later h hb, Rep.later hb hz, Rep.later hb ho⟩
theorem NodeAt.cells {w : World} {b : Nat} {lf : Bool} {k v h : ByteArray} {p : Nat} {z o : Value} (hn : NodeAt w b lf k v p z o h) :
    w.cell? ⟨b, 0, none⟩ = some (.bool lf) ∧ w.cell? ⟨b, 2, none⟩ = some (.string k) ∧ w.cell? ⟨b, 3, none⟩ = some (.string v) ∧ w.cell? ⟨b, 4, none⟩ = some (.int .i64 p) ∧ w.cell? ⟨b, 5, none⟩ = some z ∧ w.cell? ⟨b, 6, none⟩ = some o ∧ w.cell? ⟨b, 7, none⟩ = some (.string h) := by
  unfold NodeAt nodeC at hn
  simp [World.cell?, hn]
/-- What every tree's node tells. -/
theorem Rep.cells {w : World} {t : Tr} {b : Nat} (h : Rep w t b) : w.cell? ⟨b, 2, none⟩ = some (.string t.key) ∧ w.cell? ⟨b, 7, none⟩ = some (.string t.hash) := by
  cases t with
  | leaf k v => exact ⟨(NodeAt.cells h).2.1, (NodeAt.cells h).2.2.2.2.2.2⟩
  | fork p k z o =>
    obtain ⟨_, _, h, _⟩ := h
    exact ⟨(NodeAt.cells h).2.1, (NodeAt.cells h).2.2.2.2.2.2⟩
theorem node_new (w : World) (lf : Bool) (k v : ByteArray) (p : Nat) (z o : Value) (h : ByteArray) : NodeAt (w.alloc (.cells (nodeC lf k v p z o h) 68)) w.heap.size lf k v p z o h := heap_alloc_new _ _

theorem cellD {W w4 : World} (hb : Below W.drew.heap.size W.drew w4) {g o : Nat} {v : Value} (h : W.cell? ⟨g, o, none⟩ = some v) : w4.cell? ⟨g, o, none⟩ = some v := by
  have hlt := World.block_lt_of_cell? W _ h
  rw [hb.cell (p := ⟨g, o, none⟩) hlt]; exact h
theorem cellA {W : World} (ob : Obj) {g o : Nat} {v : Value} (h : W.cell? ⟨g, o, none⟩ = some v) : (W.alloc ob).cell? ⟨g, o, none⟩ = some v := by
  have hlt := World.block_lt_of_cell? W _ h
  rw [((Below.refl W.heap.size W).alloc (Nat.le_refl _) ob).cell (p := ⟨g, o, none⟩) hlt]; exact h

theorem span_prog (t : Tr) (b : Nat) (w : World) (h : Rep w t b) :
    Calls Tryd.prog 50 #[pp b] w fun e w' => e = .returned (.int .i64 t.span) ∧ w = w' := by
  unfold pp
  cases t with
  | leaf k v =>
    obtain ⟨c0, _, _, c4, _⟩ := NodeAt.cells h
    go_enter Tryd.func50, Tryd.ntmps50
    go_wp2
    go_ret
    exact ⟨rfl, rfl⟩
  | fork p k z o =>
    obtain ⟨_, _, h, _⟩ := h
    obtain ⟨c0, _, _, c4, _⟩ := NodeAt.cells h
    go_enter Tryd.func50, Tryd.ntmps50
    go_wp2
    go_ret
    exact ⟨rfl, rfl⟩

set_option maxHeartbeats 1000000 in
theorem leaf_prog (k v : ByteArray) (w : World) (hk : k.size = 32) (hv : v.size ≤ 100) (hst : Start w) :
    Calls Tryd.prog 44 #[.string k, .string v] w fun e w' => ∃ b, e = .returned (pp b) ∧ Rep w' (.leaf k v) b ∧ Below w.heap.size w w' := by
  have HS := Lib.hid hst
  clear hst
  go_enter Tryd.func44, Tryd.ntmps44
  go_wp2_with fail
  refine (clone_prog k w (by omega)).mono ?_
  rintro e w1 ⟨rfl, hb1⟩
  go_wp2_with fail
  refine (clone_prog v w1 (by omega)).mono ?_
  rintro e w2 ⟨rfl, hb2⟩
  go_wp2_with fail
  refine (leafHash_prog k v w2 (by omega) (by omega) ((HS.out.later hb1).later hb2)).mono ?_
  rintro e w3 ⟨rfl, hb3⟩
  go_wp2
  go_ret
  exact ⟨_, rfl, node_new w3 true k v 0 _ _ _, (hb1.trans ((hb2.trans (hb3.mono hb2.size)).mono hb1.size)).alloc (by have := hb1.size; have := hb2.size; have := hb3.size; omega) _⟩

set_option maxRecDepth 30000 in
set_option maxHeartbeats 1000000 in
theorem fork_prog (p : Nat) (k : ByteArray) (z o : Tr) (bz bo : Nat) (w : World) (hp : p < 256) (hk : k.size = 32) (hz : Rep w z bz) (ho : Rep w o bo) (hst : Start w) :
    Calls Tryd.prog 54 #[.int .i64 p, .string k, pp bz, pp bo] w fun e w' => ∃ b, e = .returned (pp b) ∧ Rep w' (.fork p k z o) b ∧ Below w.heap.size w w' := by
  unfold pp
  have hzs := z.hash_size
  have hos := o.hash_size
  obtain ⟨_, cz⟩ := Rep.cells hz
  obtain ⟨_, co⟩ := Rep.cells ho
  have HS := Lib.hid hst
  have HZ := Lib.hid hz
  have HO := Lib.hid ho
  clear hst hz ho
  go_enter Tryd.func54, Tryd.ntmps54
  go_wp2_with fail
  go_region_held3 (fun w' => w'.cell? ⟨bz, 7, none⟩ = some (.string z.hash) ∧ w'.cell? ⟨bo, 7, none⟩ = some (.string o.hash))
    (first | exact ⟨cz, co⟩ | exact ⟨cellD hb4 cz, cellD hb4 co⟩ | exact ⟨cellA _ (cellD hb4 cz), cellA _ (cellD hb4 co)⟩)
    ((go_at_call 61; refine (forkHash_prog p k z.hash o.hash _ (by omega) (by omega) (by omega) (by omega) (HS.out.later (Below.refl _ w).drew)).mono ?_; rintro e w4 ⟨rfl, hb4⟩))
  have hb5 : Below w.heap.size w w4 := (Below.refl w.heap.size w).drew.trans hb4
  go_wp2
  go_ret
  exact ⟨_, rfl, ⟨bz, bo, node_new w4 false k ⟨#[]⟩ p _ _ _, ((HZ.out.later hb5).later ((Below.refl _ w4).alloc (Nat.le_refl _) _)), ((HO.out.later hb5).later ((Below.refl _ w4).alloc (Nat.le_refl _) _))⟩, hb5.alloc hb5.size _⟩
end Go.Proofs.YtohcackebmmikaaDoor
