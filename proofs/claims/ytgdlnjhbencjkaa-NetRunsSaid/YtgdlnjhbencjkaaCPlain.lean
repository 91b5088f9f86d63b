/- codec.plain. -/
import Derived.Test.YtgdlnjhbencjkaaCMem
import Derived.BigQuiet
namespace Go.Proofs.Ytgdlnjhbencjkaa
open Go.RowKit

theorem toList_nil (s : ByteArray) : (s.toList = []) ↔ s.size = 0 := by
  rw [ByteArray.toList_eq]
  constructor
  · intro h; have := congrArg List.length h; simpa using this
  · intro h; exact List.eq_nil_of_length_eq_zero (by simpa using h)
theorem isEmpty_size (s : ByteArray) : s.toList.isEmpty = (s.size == 0) := by
  rw [Bool.eq_iff_iff, List.isEmpty_iff, toList_nil]; simp
theorem ret_bool {a b : Bool} (h : a = b) : Ending.returned (.bool a) = .returned (.bool b) := by rw [h]
theorem natInt_beq (n : Nat) : ((n : Int) == 0) = (n == 0) := by
  rw [Bool.eq_iff_iff]; simp

set_option maxRecDepth 30000 in
set_option maxHeartbeats 1000000 in
theorem plain_prog (k n : Int) (s : ByteArray) (a : Option Addr) (len cap : Nat) (w : World) :
    Calls Try.prog 49 #[nodeV k n s (.slice a len cap)] w fun e w' => e = .returned (.bool (plainB k n s len)) ∧ Below w.heap.size w w' := by
  unfold nodeV
  go_enter Try.func49, Try.ntmps49
  go_wp2
  all_goals
    go_ret
    refine ⟨ret_bool ?_, (Below.refl _ _).alloc (Nat.le_refl _) _⟩
    simp only [toList_nil, isEmpty_size, beq_iff_eq, beq_eq_false_iff_ne] at *
    simp_all [plainB, natInt_beq]
end Go.Proofs.Ytgdlnjhbencjkaa
