/- Parts' trees in memory; part's right, leads, sides, span. -/
import Derived.Test.YtmpjpaomgifpcaaGreatDoorBTop
import Derived.Test.YtmpjpaomgifpcaaGreatDoorPMod
namespace Go.Proofs.YtmpjpaomgifpcaaGreatDoor
open Go.RowKit

/-- Block b is such a hash that is told alone. -/
def StubAt (w : World) (b : Nat) (h : ByteArray) : Prop := w.heap[b]? = some (.cells #[.bool false, .bool true, .string ⟨#[]⟩, .string ⟨#[]⟩, .int .i64 0, .pointer none, .pointer none, .string h] 91 (0, 0))
def PRep (w : World) : PT → Nat → Prop
  | .stub h, b => StubAt w b h
  | .leaf k v, b => NodeAt w b true k v 0 (.pointer none) (.pointer none) (leafH k v)
  | .fork p k z o, b => ∃ bz bo, NodeAt w b false k ⟨#[]⟩ p (pp bz) (pp bo) (forkH p k z.hash o.hash) ∧ PRep w z bz ∧ PRep w o bo
theorem PRep.lt {w : World} : ∀ {t : PT} {b : Nat}, PRep w t b → b < w.heap.size
  | .stub _, _, h => block_lt h
  | .leaf _ _, _, h => NodeAt.lt h
  | .fork _ _ _ _, _, ⟨_, _, h, _⟩ => NodeAt.lt h
theorem PRep.later {w w' : World} (hb : Below w.heap.size w w') : ∀ {t : PT} {b : Nat}, PRep w t b → PRep w' t b
  | .stub _, b, h => by unfold PRep StubAt; rw [hb.block b (block_lt h)]; exact h
  | .leaf _ _, _, h => NodeAt.later h hb
  | .fork _ _ _ _, _, ⟨bz, bo, h, hz, ho⟩ => ⟨bz, bo, NodeAt.later h hb, PRep.later hb hz, PRep.later hb ho⟩
theorem Rep.pt {w : World} : ∀ {t : Tr} {b : Nat}, Rep w t b → PRep w t.pt b
  | .leaf _ _, _, h => h
  | .fork p k z o, _, ⟨bz, bo, h, hz, ho⟩ => ⟨bz, bo, by rw [Tr.pt_hash, Tr.pt_hash]; exact h, Rep.pt hz, Rep.pt ho⟩
theorem StubAt.cells {w : World} {b : Nat} {h : ByteArray} (hn : StubAt w b h) :
    w.cell? ⟨b, 0, none⟩ = some (.bool false) ∧ w.cell? ⟨b, 1, none⟩ = some (.bool true) ∧ w.cell? ⟨b, 2, none⟩ = some (.string ⟨#[]⟩) ∧ w.cell? ⟨b, 3, none⟩ = some (.string ⟨#[]⟩) ∧ w.cell? ⟨b, 4, none⟩ = some (.int .i64 0) ∧ w.cell? ⟨b, 5, none⟩ = some (.pointer none) ∧ w.cell? ⟨b, 6, none⟩ = some (.pointer none) ∧ w.cell? ⟨b, 7, none⟩ = some (.string h) := by
  unfold StubAt at hn
  simp [World.cell?, hn]
/-- What every node tells. -/
theorem PRep.cells {w : World} {t : PT} {b : Nat} (h : PRep w t b) : w.cell? ⟨b, 2, none⟩ = some (.string t.key) ∧ w.cell? ⟨b, 7, none⟩ = some (.string t.hash) := by
  cases t with
  | stub x => exact ⟨(StubAt.cells h).2.2.1, (StubAt.cells h).2.2.2.2.2.2.2⟩
  | leaf k v => exact ⟨(NodeAt.cells h).2.1, (NodeAt.cells h).2.2.2.2.2.2⟩
  | fork p k z o =>
    obtain ⟨_, _, h, _⟩ := h
    exact ⟨(NodeAt.cells h).2.1, (NodeAt.cells h).2.2.2.2.2.2⟩

/-- A prefix, as it is handed in. -/
def askV (k : ByteArray) (n : Int) : Value := .agg #[.string k, .int .i64 n]
def rightB (k : ByteArray) (n : Int) : Bool := decide (k.size = 32 ∧ 0 ≤ n ∧ n ≤ 256)
set_option maxHeartbeats 1000000 in
theorem right_prog (k : ByteArray) (n : Int) (w : World) :
    Calls Tryz.prog 44 #[askV k n] w fun e w' => e = .returned (.bool (rightB k n)) ∧ Below w.heap.size w w' := by
  unfold askV
  by_cases h1 : k.size = 32
  · have hI : ((k.size : Int) == 32) = true := by rw [h1]; rfl
    by_cases h2 : 0 ≤ n
    · by_cases h3 : n ≤ 256
      · have e : rightB k n = true := by unfold rightB; exact decide_eq_true ⟨h1, h2, h3⟩
        rw [e]; clear e h1
        go_enter Tryz.func44, Tryz.ntmps44
        go_wp2
        go_ret
        exact ⟨rfl, (Below.refl _ _).alloc (Nat.le_refl _) _⟩
      · have e : rightB k n = false := by unfold rightB; exact decide_eq_false (fun h => h3 h.2.2)
        rw [e]; clear e h1
        go_enter Tryz.func44, Tryz.ntmps44
        go_wp2
        go_ret
        exact ⟨rfl, (Below.refl _ _).alloc (Nat.le_refl _) _⟩
    · have e : rightB k n = false := by unfold rightB; exact decide_eq_false (fun h => h2 h.2.1)
      rw [e]; clear e h1
      go_enter Tryz.func44, Tryz.ntmps44
      go_wp2
      go_ret
      exact ⟨rfl, (Below.refl _ _).alloc (Nat.le_refl _) _⟩
  · have hI : ((k.size : Int) == 32) = false := by simp; omega
    have e : rightB k n = false := by unfold rightB; exact decide_eq_false (fun h => h1 h.1)
    rw [e]; clear e h1
    go_enter Tryz.func44, Tryz.ntmps44
    go_wp2
    go_ret
    exact ⟨rfl, (Below.refl _ _).alloc (Nat.le_refl _) _⟩

theorem span_at (b : Nat) (lf : Bool) (p s : Nat) (w : World) (c0 : w.cell? ⟨b, 0, none⟩ = some (.bool lf)) (c4 : w.cell? ⟨b, 4, none⟩ = some (.int .i64 p)) (hs : s = if lf then 256 else p) :
    Calls Tryz.prog 99 #[pp b] w fun e w' => e = .returned (.int .i64 s) ∧ w = w' := by
  unfold pp
  subst hs
  cases lf with
  | true =>
    go_enter Tryz.func99, Tryz.ntmps99
    go_wp2
    go_ret
    exact ⟨rfl, rfl⟩
  | false =>
    go_enter Tryz.func99, Tryz.ntmps99
    go_wp2
    go_ret
    exact ⟨rfl, rfl⟩

/-- Two pointers lie in a new block. -/
def SdRes (zv ov : Value) (w : World) (e : Ending) (w' : World) : Prop := ∃ g, e = .returned (.slice (some ⟨g, 0, none⟩) 2 2) ∧ w.heap.size ≤ g ∧ w'.heap[g]? = some (.cells #[zv, ov] 73 (0, 0)) ∧ Below w.heap.size w w'
set_option maxRecDepth 30000 in
set_option maxHeartbeats 1000000 in
theorem sides_prog (b : Nat) (pz po : Option Addr) (w : World) (c5 : w.cell? ⟨b, 5, none⟩ = some (.pointer pz)) (c6 : w.cell? ⟨b, 6, none⟩ = some (.pointer po)) :
    Calls Tryz.prog 67 #[pp b] w (SdRes (.pointer pz) (.pointer po) w) := by
  unfold pp
  go_enter Tryz.func67, Tryz.ntmps67
  go_wp2_with fail
  go_still_tail 8, (by kernel_rfl)
  go_wp2
  go_ret
  exact ⟨_, rfl, by simp, heap_alloc_new _ _, (Below.refl _ _).drew.alloc (by simp) _⟩
end Go.Proofs.YtmpjpaomgifpcaaGreatDoor
