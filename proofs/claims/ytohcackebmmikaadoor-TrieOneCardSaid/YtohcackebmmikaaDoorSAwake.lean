import Derived.Test.YtohcackebmmikaaDoorSEnd2
import Derived.Test.YtohcackebmmikaaDoorSRef3
namespace Go.Proofs.YtohcackebmmikaaDoor
open Go.RowKit

/-- The package-level variable 'start' holds its numbers. -/
def Start (w : World) : Prop := 0 < w.heap.size ∧ ∀ j, j < 8 → w.cell? ⟨0, j, none⟩ = some (u32V (X0.at j))
theorem Start.later {w w' : World} (h : Start w) (hb : Below w.heap.size w w') : Start w' :=
  ⟨Nat.lt_of_lt_of_le h.1 hb.size, fun j hj => cellBelow hb h.1 (h.2 j hj)⟩
theorem sumAt (H : ∀ (s : ByteArray) (w : World), s.size ≤ 100000 → Start w → Calls Tryd.prog 63 #[.string s] w fun e w' => e = .returned (.string ⟨(sumL s.data.toList).toArray⟩) ∧ Below w.heap.size w w') (s : ByteArray) (w : World) (hs : s.size ≤ 100000) (hst : Start w) (S : List UInt8) (hS : sumL s.data.toList = S) :
    Calls Tryd.prog 63 #[.string s] w fun e w' => e = .returned (.string ⟨S.toArray⟩) ∧ Below w.heap.size w w' := by
  subst hS; exact H s w hs hst
def SumOk : Prop := ∀ (s : ByteArray) (w : World), s.size ≤ 100000 → Start w →
  Calls Tryd.prog 63 #[.string s] w fun e w' => e = .returned (.string ⟨(sumL s.data.toList).toArray⟩) ∧ Below w.heap.size w w'

end Go.Proofs.YtohcackebmmikaaDoor
