/- A known map's root is not that of a map without pairs: hashes by the kernel. -/
import Derived.Test.YtohcackebmmikaaDoorIKey
namespace Go.Proofs.YtohcackebmmikaaDoor
open Go.RowKit
set_option maxRecDepth 100000
theorem kh1 : sumL [49] = [107, 134, 178, 115, 255, 52, 252, 225, 157, 107, 128, 78, 255, 90, 63, 87, 71, 173, 164, 234, 162, 47, 29, 73, 192, 30, 82, 221, 183, 135, 91, 75] := by decide +kernel
theorem kh2 : sumL [50] = [212, 115, 94, 58, 38, 94, 22, 238, 224, 63, 89, 113, 139, 155, 93, 3, 1, 156, 7, 216, 182, 197, 31, 144, 218, 58, 102, 110, 236, 19, 171, 53] := by decide +kernel
theorem kh3 : sumL [0, 97, 0, 0, 0, 0, 0, 0, 6, 0, 0, 0, 0, 0, 0, 0, 0, 0, 0, 0, 0, 0, 0, 0, 0, 0, 0, 0, 0, 0, 0, 0, 0, 107, 134, 178, 115, 255, 52, 252, 225, 157, 107, 128, 78, 255, 90, 63, 87, 71, 173, 164, 234, 162, 47, 29, 73, 192, 30, 82, 221, 183, 135, 91, 75] = [157, 91, 237, 164, 254, 14, 185, 10, 55, 103, 104, 100, 89, 154, 165, 202, 10, 37, 95, 40, 221, 217, 255, 140, 106, 2, 103, 185, 36, 207, 76, 189] := by decide +kernel
theorem kh4 : sumL [0, 98, 0, 0, 0, 0, 0, 0, 6, 0, 0, 0, 0, 0, 0, 0, 0, 0, 0, 0, 0, 0, 0, 0, 0, 0, 0, 0, 0, 0, 0, 0, 0, 212, 115, 94, 58, 38, 94, 22, 238, 224, 63, 89, 113, 139, 155, 93, 3, 1, 156, 7, 216, 182, 197, 31, 144, 218, 58, 102, 110, 236, 19, 171, 53] = [143, 186, 171, 39, 48, 163, 13, 83, 20, 192, 62, 1, 220, 116, 19, 145, 68, 106, 183, 14, 201, 251, 96, 22, 4, 54, 66, 219, 35, 68, 121, 251] := by decide +kernel
theorem kh5 : sumL [1, 0, 6, 96, 0, 0, 0, 0, 0, 0, 0, 0, 0, 0, 0, 0, 0, 0, 0, 0, 0, 0, 0, 0, 0, 0, 0, 0, 0, 0, 0, 0, 0, 0, 0, 157, 91, 237, 164, 254, 14, 185, 10, 55, 103, 104, 100, 89, 154, 165, 202, 10, 37, 95, 40, 221, 217, 255, 140, 106, 2, 103, 185, 36, 207, 76, 189, 143, 186, 171, 39, 48, 163, 13, 83, 20, 192, 62, 1, 220, 116, 19, 145, 68, 106, 183, 14, 201, 251, 96, 22, 4, 54, 66, 219, 35, 68, 121, 251] = [39, 233, 241, 188, 12, 214, 46, 60, 107, 197, 86, 151, 1, 210, 204, 170, 170, 216, 85, 33, 195, 242, 40, 20, 156, 245, 67, 8, 78, 234, 115, 51] := by decide +kernel

abbrev vA : ByteArray := ⟨#[49]⟩
abbrev vB : ByteArray := ⟨#[50]⟩
def kA : ByteArray := keyB ⟨#[97]⟩
def kB : ByteArray := keyB ⟨#[98]⟩
theorem kA_eq : ks kA = [97, 0, 0, 0, 0, 0, 0, 6, 0, 0, 0, 0, 0, 0, 0, 0, 0, 0, 0, 0, 0, 0, 0, 0, 0, 0, 0, 0, 0, 0, 0, 0] := by decide +kernel
theorem kB_eq : ks kB = [98, 0, 0, 0, 0, 0, 0, 6, 0, 0, 0, 0, 0, 0, 0, 0, 0, 0, 0, 0, 0, 0, 0, 0, 0, 0, 0, 0, 0, 0, 0, 0] := by decide +kernel
theorem kA_size : kA.size = 32 := keyB_size _
theorem kB_size : kB.size = 32 := keyB_size _
theorem kAB : kA ≠ kB := fun e => by
  have h := congrArg ks e
  rw [kA_eq, kB_eq] at h
  exact absurd h (by decide)
theorem com_AB : comL (ks kA) (ks kB) = 6 := by decide +kernel
theorem bit_A : bitL (ks kA) 6 = false := by decide +kernel
theorem first_A : ks (firstB kA 6) = [96, 0, 0, 0, 0, 0, 0, 0, 0, 0, 0, 0, 0, 0, 0, 0, 0, 0, 0, 0, 0, 0, 0, 0, 0, 0, 0, 0, 0, 0, 0, 0] := by rw [ks_firstB]; decide +kernel
def awkT : Tr := .fork 6 (firstB kA 6) (.leaf kA vA) (.leaf kB vB)
theorem awk_m1 : MT.put kA vA none = some (.leaf kA vA) := by unfold MT.put; rw [if_pos kA_size]; rfl
theorem awk_m2 : MT.put kB vB (some (.leaf kA vA)) = some awkT := by
  unfold MT.put; rw [if_pos kB_size]
  show some (withT kB vB (.leaf kA vA)) = _
  unfold withT
  rw [com_AB, if_pos (by omega)]
  unfold joinT
  rw [show (Tr.leaf kA vA).key = kA from rfl, bit_A, if_neg (by simp)]
  rfl
theorem awk_get : getL kA (MT.pairs (some awkT)) = some vA := by
  show getL kA [(kA, vA), (kB, vB)] = _
  rw [getL, if_pos rfl]
theorem awk_m3 : MT.del kA (some awkT) = some (.leaf kB vB) := by
  unfold MT.del
  rw [if_pos kA_size, if_neg (by rw [awk_get]; simp)]
  rw [Option.bind_some]
  unfold awkT withoutT
  rw [bit_A, if_neg (by simp)]
  rfl
theorem awk_m4 : MT.del kB (some (.leaf kB vB)) = none := by
  unfold MT.del
  rw [if_pos kB_size, if_neg (by show getL kB [(kB, vB)] ≠ none; rw [getL, if_pos rfl]; simp)]
  rfl
theorem wf_A : (Tr.leaf kA vA).wf := ⟨kA_size, by decide⟩
theorem wf_B : (Tr.leaf kB vB).wf := ⟨kB_size, by decide⟩
theorem awk_wf : MT.wf (some awkT) := by
  rw [← awk_m2]; exact (MT.put_ok kB vB kB_size (by decide) (some (.leaf kA vA)) wf_A).1
theorem leafT_A : leafT kA vA = [0, 97, 0, 0, 0, 0, 0, 0, 6, 0, 0, 0, 0, 0, 0, 0, 0, 0, 0, 0, 0, 0, 0, 0, 0, 0, 0, 0, 0, 0, 0, 0, 0, 107, 134, 178, 115, 255, 52, 252, 225, 157, 107, 128, 78, 255, 90, 63, 87, 71, 173, 164, 234, 162, 47, 29, 73, 192, 30, 82, 221, 183, 135, 91, 75] := by
  unfold leafT
  rw [kA_eq, show ks vA = [49] from rfl, kh1]; rfl
theorem leafT_B : leafT kB vB = [0, 98, 0, 0, 0, 0, 0, 0, 6, 0, 0, 0, 0, 0, 0, 0, 0, 0, 0, 0, 0, 0, 0, 0, 0, 0, 0, 0, 0, 0, 0, 0, 0, 212, 115, 94, 58, 38, 94, 22, 238, 224, 63, 89, 113, 139, 155, 93, 3, 1, 156, 7, 216, 182, 197, 31, 144, 218, 58, 102, 110, 236, 19, 171, 53] := by
  unfold leafT
  rw [kB_eq, show ks vB = [50] from rfl, kh2]; rfl
theorem awk_root : ks (MT.root (some awkT)) = [39, 233, 241, 188, 12, 214, 46, 60, 107, 197, 86, 151, 1, 210, 204, 170, 170, 216, 85, 33, 195, 242, 40, 20, 156, 245, 67, 8, 78, 234, 115, 51] := by
  show ks (sumB (forkT 6 (firstB kA 6) (sumB (leafT kA vA)) (sumB (leafT kB vB)))) = _
  rw [ks_sumB, leafT_A, leafT_B]
  unfold forkT
  rw [ks_sumB, ks_sumB, kh3, kh4, first_A]
  exact kh5
theorem awk_ne : ¬ MT.root (some awkT) = noneH := fun e => by
  have h := congrArg ks e
  rw [awk_root] at h
  exact absurd h (by decide)
end Go.Proofs.YtohcackebmmikaaDoor
