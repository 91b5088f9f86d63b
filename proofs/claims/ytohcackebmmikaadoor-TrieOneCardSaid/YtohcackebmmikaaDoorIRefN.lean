/- The reference's root of no pairs. -/
import Derived.Test.YtohcackebmmikaaDoorIRefB
namespace Go.Proofs.YtohcackebmmikaaDoor
open Go.RowKit

theorem texts_none (a : Option Addr) (c : Nat) (w : World) : Calls Tryd.prog 28 #[.slice a 0 c] w fun e w' => e = .returned (.slice none 0 0) ∧ w = w' := by
  go_enter Tryd.func28, Tryd.ntmps28
  go_wp2
  go_ret
  exact ⟨rfl, rfl⟩
theorem root_none (a : Option Addr) (c : Nat) (w : World) : Calls Tryd.prog 17 #[.slice a 0 c] w (StrRes w noneH) := by
  go_enter Tryd.func17, Tryd.ntmps17
  go_wp2_with fail
  refine (texts_none a c w).mono ?_
  rintro e w1 ⟨rfl, rfl⟩
  go_wp2_with (refine list_makeN Tryd.bytesSl rfl _ _ rfl 32 32 32 rfl rfl rfl rfl (by omega) (by unfold maxLen; omega) rfl ?_)
  intro w1 hr hb
  have hc := rowIs_block hr
  have hcells := cells_map 32 (List.replicate 32 (0 : UInt8)) (fun _ => 0) (by simp) (fun j hj => by rw [List.getD_eq_getElem?_getD, List.getElem?_replicate]; simp [hj])
  have e0 : arrL 32 (fun _ => Value.int .u8 0) = (List.replicate 32 (0 : UInt8)).map byteV := hcells
  rw [e0] at hc
  have hcv := run_string_row (src := 58) (dst := 9) Tryd.underlying58 Tryd.underlying5 Tryd.underlying9 w.heap.size 32 (List.replicate 32 (0 : UInt8)) (P := Tryd.prog) (e := 5) (w := w1) hc
  rw [List.length_replicate] at hcv
  clear hc hcells e0 hr
  go_wp2
  go_ret
  exact ⟨rfl, hb⟩
end Go.Proofs.YtohcackebmmikaaDoor
