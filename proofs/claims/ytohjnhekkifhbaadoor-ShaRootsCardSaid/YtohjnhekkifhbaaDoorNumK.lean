/- The roots of the first primes are the known numbers: reckoned. -/
import Derived.Test.YtohjnhekkifhbaaDoorNum
import Derived.Test.YtohjnhekkifhbaaDoorShaSpec2
namespace Go.Proofs.YtohjnhekkifhbaaDoor
theorem roots2 : (outF 2 18).map (fun x : Nat => (x : Int)) = hv sqr := by decide +kernel
theorem roots3 : (outF 3 310).map (fun x : Nat => (x : Int)) = hv cub := by decide +kernel
end Go.Proofs.YtohjnhekkifhbaaDoor
