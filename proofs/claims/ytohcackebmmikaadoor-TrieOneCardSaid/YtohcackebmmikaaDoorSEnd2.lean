import Derived.Test.YtohcackebmmikaaDoorSEnd
import Derived.Test.YtohcackebmmikaaDoorSRefA
namespace Go.Proofs.YtohcackebmmikaaDoor
open Go.RowKit

theorem be4_bytes (y : Int) (h : 0 ≤ y) (h1 : y < 4294967296) : [Value.int .u8 (y / 16777216), .int .u8 (y / 65536 % 256), .int .u8 (y / 256 % 256), .int .u8 (y % 256)] = (beB y.toNat 4).map byteV := by
  obtain ⟨n, rfl⟩ := Int.eq_ofNat_of_zero_le h
  simp [beB, byteV]; omega

set_option maxRecDepth 100000 in
set_option maxHeartbeats 2000000 in
theorem joined_prog (X : St) (w : World) (hX : X.ok) :
    Calls Tryd.prog 69 #[.agg (arrL 8 (fun j => u32V (X.at j))).toArray] w fun e w' => e = .returned (.string ⟨(outL X 8).toArray⟩) ∧ Below w.heap.size w w' := by
  obtain ⟨i0, hi0⟩ : ∃ i, Tryd.prog.info? 94 = some i := Option.isSome_iff_exists.1 (by kernel_rfl)
  have hidx : ∀ k : Nat, k < 8 → ∀ W, (Instr.index 100 (.agg (arrL 8 (fun j => u32V (X.at j))).toArray) (.int .i64 k)).run Tryd.prog W = .ok (u32V (X.at k)) W := fun (k : Nat) (hk : k < 8) W => run_index_arr (P := Tryd.prog) (w := W) Tryd.underlying100 (e := 94) (by kernel_rfl) (by kernel_rfl) i0 hi0 (fun j => u32V (X.at j)) k hk
  go_enter Tryd.func69, Tryd.ntmps69
  have hbox : (w.alloc (.cells (arrL 8 (fun j => u32V (X.at j))).toArray 100)).rowIs w.heap.size 100 8 (fun j => u32V (X.at j)) := rowIs_of_block (heap_at_alloc w _)
  have hb0 : Below w.heap.size w (w.alloc (.cells (arrL 8 (fun j => u32V (X.at j))).toArray 100)) := (Below.refl _ _).alloc (Nat.le_refl _) _
  go_wp2_with (first
    | (at_make; refine list_make0 Tryd.bytesSl rfl _ _ rfl 32 rfl _ rfl rfl (by omega) (by unfold maxLen; omega) ?_))
  intro w1 hown hb1
  have hsz1 : w.heap.size + 1 ≤ w1.heap.size := by have := hb1.size; simpa using this
  replace hown : Owns w1 (w.heap.size + 1) 5 (.slice (some ⟨w.heap.size + 1, 0, none⟩) 0 32) [] := by simpa using hown
  have hbox1 := rowIs_below hbox hb1 (Nat.lt_succ_self _)
  go_wp2_with (first
    | (refine list_load_arr Tryd.underlying100 (by kernel_rfl) rfl _ rfl w.heap.size 100 _ rfl hbox1 ?_))
  have hb2 : Below w.heap.size w w1 := hb0.trans (hb1.mono (by simp))
  clear hbox hbox1 hb0
  obtain ⟨AV, hAV⟩ : ∃ AV, AV = Value.agg (arrL 8 (fun j => u32V (X.at j))).toArray := ⟨_, rfl⟩
  rw [← hAV] at hidx ⊢
  clear hAV
  go_loopw [3, 8] (fun v i wr => ∃ k : Nat, k ≤ 8 ∧ i = .int .i64 k ∧ Owns wr (w.heap.size + 1) 5 v ((outL X k).map byteV) ∧ Below w.heap.size w wr ∧ w.heap.size + 1 ≤ wr.heap.size) (fun _ i _ => 8 - (intOf i).toNat)
  case atStart => exact ⟨0, by omega, rfl, hown, hb2, hsz1⟩
  case round =>
    obtain ⟨k, hk, rfl, hown, hb, hz⟩ := hrel
    by_cases hlt : k < 8
    · have hu := X.at_ok hX k
      have hos := outL_succ X k
      have hol := outL_length X k
      obtain ⟨y, hy⟩ : ∃ y : Int, X.at k = y := ⟨_, rfl⟩
      rw [hy] at hos
      have hi : ∀ W, (Instr.index 100 AV (.int .i64 k)).run Tryd.prog W = .ok (.int .u32 y) W := fun W => by rw [hidx k hlt W, hy]; rfl
      rw [hy] at hu
      obtain ⟨y0, y1⟩ := hu
      have HOS := Lib.hid hos
      have hll : (outL X k).length ≤ 32 := by omega
      clear hos hol hy hidx
      go_wp2_with (first
        | (at_builtin; refine list_app Tryd.bytesSl rfl _ _ rfl (w.heap.size + 1) _ _ rfl (hown.alloc _) wr.heap.size _ rfl (heap_at_alloc wr _) (by simp [Value.oneCell']) (by simp) (by simp; unfold maxLen; omega) (by simp; omega) (by simp; omega) ?_))
      intro v4 w4 hown4 hb4
      have e4 : (outL X k).map byteV ++ [.int .u8 (y / 16777216), .int .u8 (y / 65536 % 256), .int .u8 (y / 256 % 256), .int .u8 (y % 256)] = (outL X (k + 1)).map byteV := by
        rw [HOS.out, be4_bytes y y0 y1, List.map_append]
      rw [e4] at hown4
      have hb5 := (hb.alloc hb.size _).trans (hb4.mono (by omega))
      have hz5 := hb4.size
      simp at hz5
      clear hown hb hb4 e4 hi
      go_wp2
      go_roundw
      case rel => exact ⟨k + 1, by omega, by go_num, hown4, hb5, by omega⟩
      case measure => simp [intOf]; omega
    · have hte : k = 8 := by omega
      have hcv := run_string_owned (src := 58) (dst := 9) Tryd.underlying58 Tryd.underlying5 Tryd.underlying9 hown
      have HT := Lib.hid hte
      have hge : (8 : Int) ≤ (k : Int) := by omega
      clear hte hidx hlt
      go_wp2
      go_ret
      exact ⟨by rw [HT.out]; rfl, hb⟩

end Go.Proofs.YtohcackebmmikaaDoor
