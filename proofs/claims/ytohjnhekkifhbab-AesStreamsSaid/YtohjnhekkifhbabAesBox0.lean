/- The document's box is the table: reckoned. -/
import Derived.Test.YtohjnhekkifhbabAesTm
namespace Go.Proofs.Ytohjnhekkifhbab
theorem boxR0 : ∀ x, x < 256 → boxR (UInt8.ofNat x) = sb (UInt8.ofNat x) := by decide +kernel
theorem boxR_sb (b : UInt8) : boxR b = sb b := by
  have := boxR0 b.toNat b.toNat_lt
  rwa [UInt8.ofNat_toNat] at this
end Go.Proofs.Ytohjnhekkifhbab
