/- part's promise of none: what no part answers; the law. -/
import Derived.Test.YtmpjpaomgifpcaaDoorPAwk
namespace Go.Proofs.YtmpjpaomgifpcaaDoor
open Go.RowKit
set_option maxRecDepth 30000
theorem under_nil (k : ByteArray) (n : Int) (w : World) : Calls Tryd.prog 24 #[.pointer none, .string k, .int .i64 n] w fun e w' => e = .returned (.tuple #[.slice none 0 0, .bool false]) ∧ Below w.heap.size w w' := by
  go_enter Tryd.func24, Tryd.ntmps24
  go_wp2
  go_ret2
  exact ⟨rfl, (Below.refl _ _).alloc (Nat.le_refl _) _⟩
theorem get_nil (k : ByteArray) (w : World) : Calls Tryd.prog 23 #[.pointer none, .string k] w fun e w' => e = .returned (.tuple #[.string ⟨#[]⟩, .bool false, .bool false]) ∧ Below w.heap.size w w' := by
  have HU := Lib.hid (under_nil k 256 w)
  go_enter Tryd.func23, Tryd.ntmps23
  go_wp2_with fail
  refine HU.out.mono ?_
  rintro e w1 ⟨rfl, hb1⟩
  go_wp2
  go_ret3
  exact ⟨rfl, hb1⟩
theorem put_nil (k v : ByteArray) (w : World) : Calls Tryd.prog 25 #[.pointer none, .string k, .string v] w fun e w' => e = .returned (.tuple #[.pointer none, .bool false]) ∧ Below w.heap.size w w' := by
  have HU := Lib.hid (get_nil k w)
  go_enter Tryd.func25, Tryd.ntmps25
  go_wp2_with fail
  refine HU.out.mono ?_
  rintro e w1 ⟨rfl, hb1⟩
  go_wp2
  go_ret2
  exact ⟨rfl, hb1⟩
theorem del_nil (k : ByteArray) (w : World) : Calls Tryd.prog 26 #[.pointer none, .string k] w fun e w' => e = .returned (.tuple #[.pointer none, .bool false]) ∧ Below w.heap.size w w' := by
  have HU := Lib.hid (get_nil k w)
  go_enter Tryd.func26, Tryd.ntmps26
  go_wp2_with fail
  refine HU.out.mono ?_
  rintro e w1 ⟨rfl, hb1⟩
  go_wp2
  go_ret2
  exact ⟨rfl, hb1⟩
theorem root_nil (w : World) : Calls Tryd.prog 13 #[.pointer none] w fun e w' => e = .returned (.string ⟨#[]⟩) ∧ w = w' := by
  go_enter Tryd.func13, Tryd.ntmps13
  go_wp2
  go_ret
  exact ⟨rfl, rfl⟩
theorem top_nil (w : World) : Calls Tryd.prog 12 #[.pointer none] w fun e w' => e = .returned (.pointer none) ∧ w = w' := by
  go_enter Tryd.func12, Tryd.ntmps12
  go_wp2
  go_ret
  exact ⟨rfl, rfl⟩
end Go.Proofs.YtmpjpaomgifpcaaDoor
