/- HeaderTurned over arguments. -/
import Derived.Test.YtgcaaigfgbglcaaDoorEArg
import Derived.Test.YtgcaaigfgbglcaaDoorELawT
namespace Go.Proofs.YtgcaaigfgbglcaaDoor
open Go.ChangeShapes Go.WideShapes Go.RowKit Go.Deep
theorem turned_arg (key : ByteArray) (v : Value) (n : Int) (W : World) (hst : Start W) (hk : key.size ≤ maxLen) (hv : SgAt v) (hn : (Lit.int .u8 n).wf) :
    Calls Tryd.prog 7 #[.string key, v, .int .u8 n] W fun e w' => e = .returned (.bool true) ∧ Below W.heap.size W w' := by
  obtain ⟨s, rfl, hf⟩ := hv
  have h : 0 ≤ n ∧ n ≤ 255 := by simpa [Lit.wf, IntKind.min, IntKind.max, IntKind.signed, IntKind.bits] using hn
  exact turned_law key hk s hf n h W hst
end Go.Proofs.YtgcaaigfgbglcaaDoor
