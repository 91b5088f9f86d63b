/- The rounds' numbers that the program writes out are the document's. -/
import Derived.Test.YtohcackebmmikaaDoorSSum
import Derived.Laws.Tables
namespace Go.Proofs.YtohcackebmmikaaDoor
open Go.RowKit

theorem list_build_arr {P : Program} {w : World} {ops : Array Oper} {rest : List Oper} {o : Oper} {a : Act} {Q : Exit → Act → World → Prop} (hg : o.guard = none) (t : TypeId) (parts : Array (Nat × Operand)) (ho : o.op = .build t parts)
    (cells : Array Value) (hb : P.built t (parts.map fun (i, x) => (i, a.eval x)).toList = some cells)
    (h : wpList P ops Q rest (a.put o.dst (.agg cells)) w) : wpList P ops Q (o :: rest) a w :=
  wpList_build hg t parts ho (by rw [hb]; rfl) (by rw [hb]; exact h)

set_option maxRecDepth 100000 in
set_option maxHeartbeats 2000000 in
theorem rounds_ok : RoundsOk := by
  intro w hst
  go_enter Tryd.func66, Tryd.ntmps66
  go_wp2_with (first
    | (refine list_build_arr rfl _ _ rfl (arrL 64 (fun j => u32V (Kr j))).toArray (by kernel_rfl) ?_)
    | (refine list_store_arr (ty := 101) (n := 64) (by kernel_rfl) rfl _ _ rfl w.heap.size 101 (fun _ => u32V 0) _ rfl rfl (rowIs_rep (by rfl)) (fun _ => rfl) ?_))
  intro w1 hr1 ho1
  go_wp2
  refine ret_arr rfl Tryd.underlying101 (by kernel_rfl) rfl hr1 rfl ⟨rfl, ?_⟩
  exact ((Below.refl _ _).alloc (Nat.le_refl _) _).trans (ho1.below (Nat.le_refl _) (by simp))
end Go.Proofs.YtohcackebmmikaaDoor
