/- HeaderCut over arguments. -/
import Derived.Test.YtgcaaigfgbglcaaDoorELawX
namespace Go.Proofs.YtgcaaigfgbglcaaDoor
open Go.RowKit
theorem cut_arg (key : ByteArray) (v : Value) (A B : Int) (W : World) (hst : Start W) (hk : key.size ≤ maxLen) (hv : ∃ L, StpSl W v L ∧ L.length ≤ maxLen ∧ (∀ x ∈ L, x.Fit) ∧ L.length * 40 ≤ 140737488355328) (hA : 0 ≤ A ∧ A ≤ 255) (hB : 0 ≤ B ∧ B ≤ 255) :
    Calls Tryd.prog 8 #[.string key, v, .agg #[.int .u8 A, .int .u8 B]] W fun e w' => e = .returned (.bool true) ∧ Below W.heap.size W w' := by
  obtain ⟨l, h1, h2, h3, h4⟩ := hv
  exact cut_law key hk l h2 h3 h4 v A B hA hB W h1 hst
end Go.Proofs.YtgcaaigfgbglcaaDoor
