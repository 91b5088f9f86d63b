/- AesBare: a text of 16 bytes 0 under a number is that number's block. -/
import Derived.Test.YtohjnhekkifhbabAesLawA
import Derived.Laws.IdiomStrings
namespace Go.Proofs.Ytohjnhekkifhbab
open Go.RowKit

def Z16 : Obj := .cells (arrL 16 (fun _ => byteV 0)).toArray 5
theorem make16 (W : World) : (Instr.makeSlice 29 (.int .i64 16) (.int .i64 16)).run Try.prog W = .ok (.slice (some ⟨W.heap.size, 0, none⟩) 16 16) (W.alloc Z16) := by
  obtain ⟨i, hi, hz, hsz, hby⟩ := info_parts Try.bytesSl.info
  have h := run_make (P := Try.prog) W 29 5 i (.int .u8 0) Try.bytesSl.und hi hz .i64 .i64 16 16 (by decide) (by decide) (by rw [hby]; decide) (by decide)
  rw [hsz] at h
  have e : madeCells (Value.int .u8 0).cells (Int.toNat 16 * 1) = (arrL 16 (fun _ => byteV 0)).toArray := by kernel_rfl
  rw [e] at h
  exact h

theorem bare_eq (K N : Nat → UInt8) : strT (txt K) (txt N) (txt (fun _ => 0)) = encT (txt K) (txt N) := by
  unfold strT encT outS
  rw [txt_size]
  unfold txt
  congr 2
  refine List.map_congr_left (fun i hi => ?_)
  have h16 := List.mem_range.1 hi
  unfold outB strB
  rw [show i / 16 = 0 by omega, show i % 16 = i by omega]
  show blk (txt fun _ => 0) i ^^^ _ = _
  rw [blk_txt _ _ h16, UInt8.zero_xor]
  rfl

set_option maxRecDepth 100000 in
set_option maxHeartbeats 4000000 in
theorem bare_law (K N : Nat → UInt8) (w : World) :
    Calls Try.prog 9 #[.agg (arrL 16 (fun j => byteV (K j))).toArray, .agg (arrL 16 (fun j => byteV (N j))).toArray] w fun e w' => e = .returned (.bool true) ∧ Below w.heap.size w w' := by
  obtain ⟨T, hT⟩ : ∃ T, encT (txt K) (txt N) = T := ⟨_, rfl⟩
  have HT := Lib.hid hT
  have HU : Hid (strT (txt K) (txt N) (txt (fun _ => 0)) = T) := Lib.hid (by rw [bare_eq, hT])
  clear hT
  go_enter Try.func9, Try.ntmps9
  go_wp2_with fail
  generalize hW : World.alloc _ _ = w0
  have r0 : w0.rowIs w.heap.size 35 16 (fun j => byteV (K j)) := by
    rw [← hW]; exact (rowIs_of_block (heap_at_alloc w _)).alloc _
  have r1 : w0.rowIs (w.heap.size + 1) 35 16 (fun j => byteV (N j)) := by
    rw [← hW]; refine rowIs_of_block ?_; rw [heap_alloc2_new]
  have hb0 : Below w.heap.size w w0 := by rw [← hW]; exact ((Below.refl _ _).alloc (Nat.le_refl _) _).alloc (by simp) _
  clear hW
  refine (awake_prog w0).mono ?_
  rintro e w1 ⟨rfl, hb1⟩
  replace r0 := rowIs_later r0 hb1
  replace r1 := rowIs_later r1 hb1
  have hq1 := hb0.trans (hb1.mono hb0.size)
  clear hb0 hb1
  have lt0 := r0.lt
  have lt1 := r1.lt
  go_upto_region 3 with fail
  go_cut [5, 6] (fun s5 s6 wx => s5 = .string T ∧ s6 = .int .i64 0 ∧ Below w1.heap.size w1 wx)
  case first =>
    have v0 := row_text r0.drew
    have v1 := row_text r1.drew
    have u0 := row_text (r0.alloc Z16).drew
    have u1 := row_text (r1.alloc Z16).drew
    have u2 : (convert 29 9 (.slice (some ⟨w1.heap.size, 0, none⟩) 16 16)).run Try.prog (w1.alloc Z16).drew = .ok (.string (txt (fun _ => 0))) (w1.alloc Z16).drew :=
      row_text (B := fun _ => 0) (World.rowIs.drew (rowIs_of_block (heap_at_alloc w1 Z16)))
    have mk := make16
    have hbz : Below w1.heap.size w1 (w1.alloc Z16).drew := ((Below.refl _ _).alloc (Nat.le_refl _) _).drew
    go_region_with ((go_at_call 16; refine (streamAt (txt K) (txt N) (txt (fun _ => 0)) T _ (txt_size _) (txt_size _) (by rw [txt_size]; omega) HU.out).mono ?_; rintro e w2 ⟨rfl, hb2⟩))
    all_goals
      go_wp2_with fail
      go_meet
      exact ⟨rfl, rfl, hbz.trans (hb2.mono hbz.size)⟩
  case rest =>
    obtain ⟨rfl, rfl, hb2⟩ := hcut
    replace r0 := rowIs_later r0 hb2
    replace r1 := rowIs_later r1 hb2
    have hq2 := belowNext hq1 hb2
    clear hq1 hb2 lt0 lt1
    obtain ⟨wq, hwq⟩ : ∃ x : World, x = wc := ⟨_, rfl⟩
    subst hwq
    go_upto_region 4 with fail
    go_cut [7, 8] (fun s9 s10 wx => s9 = .string T ∧ s10 = .int .i64 0 ∧ Below wq.heap.size wq wx)
    case first =>
      have v0 := row_text r0.drew
      have v1 := row_text r1.drew
      go_region_with ((go_at_call 13; refine (blockAt (txt K) (txt N) T _ (txt_size _) (txt_size _) HT.out).mono ?_; rintro e w2 ⟨rfl, hb2⟩))
      all_goals
        go_wp2_with fail
        go_meet
        exact ⟨rfl, rfl, ((Below.refl _ _).drew).trans hb2⟩
    case rest =>
      obtain ⟨rfl, rfl, hb2⟩ := hcut
      have hq3 := belowNext hq2 hb2
      go_wp2_with fail
      go_ret
      exact ⟨rfl, hq3⟩
end Go.Proofs.Ytohjnhekkifhbab
