/- HeaderTexts over arguments. -/
import Derived.Test.YtpkkdjmcabefbaaDoorEArg
import Derived.Test.YtpkkdjmcabefbaaDoorELawY
namespace Go.Proofs.YtpkkdjmcabefbaaDoor
open Go.RowKit
theorem texts_arg (key : ByteArray) (v : Value) (s : ByteArray) (W : World) (hst : Start W) (hk : key.size ≤ maxLen) (hv : ∃ L, StpSl W v L ∧ L.length ≤ maxLen ∧ ∀ x ∈ L, x.Fit) (hs : s.size ≤ maxLen) :
    Calls Tryd.prog 3 #[.string key, v, .string s] W fun e w' => e = .returned (.bool true) ∧ Below W.heap.size W w' := by
  obtain ⟨l, h1, h2, h3⟩ := hv
  exact texts_law key hk l h2 h3 v s hs W h1 hst
end Go.Proofs.YtpkkdjmcabefbaaDoor
