/-  -/
import Derived.Test.YtpkkdjmcabefbaaDoorDShaP
import Derived.Test.YtpkkdjmcabefbaaDoorRows
import Derived.ProofKit
import Derived.LaidLaws
import Derived.Lib.LaidTab
namespace Go.Proofs.YtpkkdjmcabefbaaDoor
open Go.ChangeShapes Go.WideShapes Go.ChangeAt Go.RowKit Go.WideMaps Go.WideElems
open Go.ChangeMaps (setBlock shut_map_nil open_string shut_string keptBut_setBlock frozen?_setBlock heap_setBlock_same)

theorem Tryd.own : ownKnob Tryd.prog.godebug = none := by kernel_rfl
theorem Tryd.startVar : Tryd.prog.globalNamed "vidimus/sha.start" = some 0 := by kernel_rfl

def startL : List Int := [1779033703, 3144134277, 1013904242, 2773480762, 1359893119, 2600822924, 528734635, 1541459225]

theorem start_of_laid {W : World} (h : laidMet Tryd.prog [("vidimus/sha.start", Rows.laid_vidimus_sha_start)] W) : Start W := by
  have ht := Lib.tabIs_of_head (P := Tryd.prog) (W := W) (name := "vidimus/sha.start") (k := .u32) (zs := startL) (rest := []) Tryd.startVar (t := 94) (e := 80) (n := 8) (by kernel_rfl) Tryd.underlying94 Tryd.underlying80 (by kernel_rfl) (by kernel_rfl) h
  have hc : ∀ j, j < 8 → W.cell? ⟨0, j, none⟩ = some (u32V (X0.at j)) := by
    intro j hj
    rw [ht.cell Tryd.startVar j hj]
    match j, hj with
    | 0, _ => rfl | 1, _ => rfl | 2, _ => rfl | 3, _ => rfl | 4, _ => rfl | 5, _ => rfl | 6, _ => rfl | 7, _ => rfl
  exact ⟨World.block_lt_of_cell? W _ (hc 0 (by omega)), hc⟩

def cells8 : Array Value := #[.int .u32 1779033703, .int .u32 3144134277, .int .u32 1013904242, .int .u32 2773480762, .int .u32 1359893119, .int .u32 2600822924, .int .u32 528734635, .int .u32 1541459225]
def laidWorld (P : Program) (os : Os) : World :=
  { World.holding P os ⟨#[], #[], []⟩ with heap := (World.holding P os ⟨#[], #[], []⟩).heap.modify 0 fun
      | .cells _ t frozen => .cells cells8 t frozen
      | o => o }
set_option maxRecDepth 100000 in
theorem laidWorld_met (os : Os) (args : Array Value) : laidMet Tryd.prog [("vidimus/sha.start", Rows.laid_vidimus_sha_start)] ((laidWorld Tryd.prog os).forCall (fun _ _ => 0) ⟨#[], args, []⟩).memory := by
  have hrow : ((laidWorld Tryd.prog os).forCall (fun _ _ => 0) ⟨#[], args, []⟩).memory.heap[0]? = some (.cells cells8 94 (0, 0)) := by kernel_rfl
  refine ⟨_, ⟨0, 94, cells8, 8, [], [], by kernel_rfl, by kernel_rfl, by kernel_rfl, by kernel_rfl, rfl, rfl⟩, by decide, fun b off h => ?_⟩
  have h' : MemPlace.cell b off ∈ [MemPlace.cell 0 0, .cell 0 1, .cell 0 2, .cell 0 3, .cell 0 4, .cell 0 5, .cell 0 6, .cell 0 7] := h
  have hb : b = 0 := by simp at h'; omega
  subst hb
  refine ⟨⟨_, _, hrow⟩, fun u v hc => ?_⟩
  simp only [World.cell?, hrow] at hc
  simp at h'
  rcases h' with rfl | rfl | rfl | rfl | rfl | rfl | rfl | rfl <;> simp [cells8] at hc
end Go.Proofs.YtpkkdjmcabefbaaDoor
