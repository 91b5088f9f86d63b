/- HeaderUnlike over arguments. -/
import Derived.Test.YtgcaaigfgbglcaaDoorELawU
namespace Go.Proofs.YtgcaaigfgbglcaaDoor
open Go.RowKit
theorem unlike_arg (key : ByteArray) (v v2 : Value) (W : World) (hst : Start W) (hk : key.size ≤ maxLen) (hv : ∃ L, StpSl W v L ∧ L.length ≤ maxLen ∧ (∀ x ∈ L, x.Fit) ∧ L.length * 40 ≤ 140737488355328) (hv2 : ∃ L, StpSl W v2 L ∧ L.length ≤ maxLen ∧ (∀ x ∈ L, x.Fit) ∧ L.length * 40 ≤ 140737488355328) :
    Calls Tryd.prog 6 #[.string key, v, v2] W fun e w' => e = .returned (.bool true) ∧ Below W.heap.size W w' := by
  obtain ⟨l, h1, h2, h3, h4⟩ := hv
  obtain ⟨l2, k1, k2, k3, k4⟩ := hv2
  exact unlike_law key hk l h2 h3 h4 v l2 k2 k3 k4 v2 W h1 k1 hst
end Go.Proofs.YtgcaaigfgbglcaaDoor
