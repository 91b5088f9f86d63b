/- HeaderChains over arguments. -/
import Derived.Test.YtgcaaigfgbglcaaDoorEArg
import Derived.Test.YtgcaaigfgbglcaaDoorELawC
namespace Go.Proofs.YtgcaaigfgbglcaaDoor
open Go.ChangeShapes Go.WideShapes Go.RowKit Go.Deep
theorem u64_of {n : Int} (hn : (Lit.int .u64 n).wf) : U64 n := by
  have h : 0 ≤ n ∧ n ≤ 18446744073709551615 := by simpa [Lit.wf, IntKind.min, IntKind.max, IntKind.signed, IntKind.bits] using hn
  exact ⟨h.1, by omega⟩
theorem chains_arg (key other : ByteArray) (n : Int) (v : Value) (W : World) (hst : Start W) (hk : key.size ≤ maxLen) (ho : other.size ≤ maxLen) (hn : (Lit.int .u64 n).wf) (hv : ∃ L, StpSl W v L ∧ L.length ≤ maxLen ∧ ∀ x ∈ L, x.Fit) :
    Calls Tryd.prog 4 #[.agg #[.string key, .string other], .int .u64 n, v] W fun e w' => e = .returned (.bool true) ∧ Below W.heap.size W w' := by
  obtain ⟨l, h1, h2, h3⟩ := hv
  exact chains_law key other hk ho n (u64_of hn) l h2 h3 v W h1 hst
end Go.Proofs.YtgcaaigfgbglcaaDoor
