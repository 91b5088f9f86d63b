/- AesWays: unlike blocks under one key are unlike. -/
import Derived.Test.YtohjnhekkifhbabAesAwake
import Derived.Deep.DeepCutAuto
import Derived.BigRegion
import Derived.ChangeKeysEq
namespace Go.Proofs.Ytohjnhekkifhbab
open Go.RowKit

theorem row_text {w : World} {g t : Nat} {B : Nat → UInt8} (h : w.rowIs g t 16 (fun j => byteV (B j))) :
    (convert 29 9 (.slice (some ⟨g, 0, none⟩) 16 16)).run Try.prog w = .ok (.string (txt B)) w := by
  have hblk := rowIs_block h
  have hcells : arrL 16 (fun j => byteV (B j)) = ((List.range 16).map B).map byteV := by simp [arrL]
  rw [hcells] at hblk
  have hcv := run_string_row (src := 29) (dst := 9) Try.underlying29 Try.underlying5 Try.underlying9 g 16 _ (P := Try.prog) (e := 5) (w := w) hblk
  rw [List.length_map, List.length_range] at hcv
  exact hcv

section
variable {P : Program}
theorem run_eqItems_bytes {e : TypeId} (hk : P.plainKey e = true) (he : P.underlying e = some (.int .u8)) (d n : Nat) (A B : Nat → UInt8) (w : World) : ∀ is : List Nat, (∀ i ∈ is, i < n) →
    (Op.eqItems (d + 1) e 1 (arrL n (fun j => byteV (A j))).toArray (arrL n (fun j => byteV (B j))).toArray is).run P w = .ok (is.all fun i => A i == B i) w
  | [], _ => by simp [Op.eqItems]
  | i :: is, h => by
    have hi := h i (List.mem_cons_self ..)
    have p1 := run_part_plain (P := P) (w := w) hk (xs := (arrL n (fun j => byteV (A j))).toArray) (off := i) (v := byteV (A i)) (by simp [arrL, hi])
    have p2 := run_part_plain (P := P) (w := w) hk (xs := (arrL n (fun j => byteV (B j))).toArray) (off := i) (v := byteV (B i)) (by simp [arrL, hi])
    have p3 : (Op.equalIn (d + 1) e (byteV (A i)) (byteV (B i))).run P w = .ok (A i == B i) w := by
      have e : (((A i).toNat : Int) == ((B i).toNat : Int)) = (A i == B i) := by
        rw [Bool.eq_iff_iff]; simp; exact ⟨fun h => UInt8.toNat_inj.1 (by omega), fun h => by rw [h]⟩
      simp [Op.equalIn, run_underlying he, byteV, e]
    have ih := run_eqItems_bytes hk he d n A B w is (fun j hj => h j (List.mem_cons_of_mem _ hj))
    simp only [Op.eqItems, Sem.run_bind, Nat.mul_one, p1, p2, p3, Result.andThen_ok]
    cases hab : (A i == B i)
    · simp [hab]
    · simp [hab, ih]
theorem run_eql_bytes {k e : TypeId} {n : Nat} {i : TypeInfo} (hu : P.underlying k = some (.array n e)) (hi : P.info? e = some i) (hc : P.cellsOf e = 1) (hk : P.plainKey e = true) (he : P.underlying e = some (.int .u8)) (A B : Nat → UInt8) (w : World) :
    (binOp .eql k (.agg (arrL n (fun j => byteV (A j))).toArray) (.agg (arrL n (fun j => byteV (B j))).toArray)).run P w = .ok (.bool ((List.range n).all fun i => A i == B i)) w := by
  simp only [binOp]
  have h1 := run_equalIn_array (P := P) (w := w) 9999 (arrL n (fun j => byteV (A j))).toArray (arrL n (fun j => byteV (B j))).toArray hu hi
  rw [hc, run_eqItems_bytes hk he 9998 n A B w _ (fun j hj => List.mem_range.1 hj)] at h1
  simp [Op.equal, Op.maxDepth, h1]
end
theorem txt_inj {A B : Nat → UInt8} (h : txt A = txt B) : ∀ i, i < 16 → A i = B i := fun i hi => by
  have := congrArg (fun s => blk s i) h
  simpa [blk_txt _ _ hi] using this
theorem blkTxt (A : Nat → UInt8) : ∀ i, i < 16 → blk (txt A) i = A i := fun i hi => blk_txt A i hi
theorem encT_inj {K A B : Nat → UInt8} (h : encT (txt K) (txt A) = encT (txt K) (txt B)) : ∀ i, i < 16 → A i = B i := fun i hi => by
  have := enc_inj _ (txt_inj h) i hi
  rwa [blkTxt A i hi, blkTxt B i hi] at this

set_option maxRecDepth 100000 in
set_option maxHeartbeats 4000000 in
theorem ways_law (K A B : Nat → UInt8) (w : World) :
    Calls Try.prog 7 #[.agg (arrL 16 (fun j => byteV (K j))).toArray, .agg (arrL 16 (fun j => byteV (A j))).toArray, .agg (arrL 16 (fun j => byteV (B j))).toArray] w fun e w' => e = .returned (.bool true) ∧ Below w.heap.size w w' := by
  obtain ⟨T, hT⟩ : ∃ T, encT (txt K) (txt A) = T := ⟨_, rfl⟩
  obtain ⟨U, hU⟩ : ∃ U, encT (txt K) (txt B) = U := ⟨_, rfl⟩
  obtain ⟨i0, hi0⟩ : ∃ i, Try.prog.info? 5 = some i := Option.isSome_iff_exists.1 (by kernel_rfl)
  have heq : ∀ W, (binOp .eql 35 (.agg #[.int .u8 ((A 0).toNat : Int), .int .u8 ((A 1).toNat : Int), .int .u8 ((A 2).toNat : Int), .int .u8 ((A 3).toNat : Int), .int .u8 ((A 4).toNat : Int), .int .u8 ((A 5).toNat : Int), .int .u8 ((A 6).toNat : Int), .int .u8 ((A 7).toNat : Int), .int .u8 ((A 8).toNat : Int), .int .u8 ((A 9).toNat : Int), .int .u8 ((A 10).toNat : Int), .int .u8 ((A 11).toNat : Int), .int .u8 ((A 12).toNat : Int), .int .u8 ((A 13).toNat : Int), .int .u8 ((A 14).toNat : Int), .int .u8 ((A 15).toNat : Int)]) (.agg #[.int .u8 ((B 0).toNat : Int), .int .u8 ((B 1).toNat : Int), .int .u8 ((B 2).toNat : Int), .int .u8 ((B 3).toNat : Int), .int .u8 ((B 4).toNat : Int), .int .u8 ((B 5).toNat : Int), .int .u8 ((B 6).toNat : Int), .int .u8 ((B 7).toNat : Int), .int .u8 ((B 8).toNat : Int), .int .u8 ((B 9).toNat : Int), .int .u8 ((B 10).toNat : Int), .int .u8 ((B 11).toNat : Int), .int .u8 ((B 12).toNat : Int), .int .u8 ((B 13).toNat : Int), .int .u8 ((B 14).toNat : Int), .int .u8 ((B 15).toNat : Int)])).run Try.prog W = .ok (.bool ((List.range 16).all fun i => A i == B i)) W := fun W =>
    run_eql_bytes (P := Try.prog) Try.underlying35 hi0 (by kernel_rfl) (by kernel_rfl) Try.underlying5 A B W
  have hres : ((List.range 16).all fun i => A i == B i) = decide (T = U) := by
    rw [Bool.eq_iff_iff, List.all_eq_true, decide_eq_true_iff]
    refine ⟨fun h => ?_, fun h i hi => ?_⟩
    · have : txt A = txt B := by
        unfold txt
        rw [show (List.range 16).map A = (List.range 16).map B from List.map_congr_left (fun i hi => by simpa using h i hi)]
      rw [← hT, ← hU, this]
    · have := encT_inj (hT.trans (h.trans hU.symm)) i (List.mem_range.1 hi)
      simpa using this
  rw [hres] at heq
  have HT := Lib.hid hT
  have HU := Lib.hid hU
  have HE := Lib.hid heq
  clear hT hU hres heq
  go_enter Try.func7, Try.ntmps7
  go_wp2_with fail
  generalize hW : World.alloc _ _ = w0
  have r0 : w0.rowIs w.heap.size 35 16 (fun j => byteV (K j)) := by
    rw [← hW]; exact ((rowIs_of_block (heap_at_alloc w _)).alloc _).alloc _
  have r1 : w0.rowIs (w.heap.size + 1) 35 16 (fun j => byteV (A j)) := by
    rw [← hW]; refine World.rowIs.alloc (rowIs_of_block ?_) _; rw [heap_alloc2_new]
  have r2 : w0.rowIs (w.heap.size + 1 + 1) 35 16 (fun j => byteV (B j)) := by
    rw [← hW]; refine rowIs_of_block ?_
    have := heap_at_alloc ((w.alloc (.cells (arrL 16 fun j => byteV (K j)).toArray 35)).alloc (.cells (arrL 16 fun j => byteV (A j)).toArray 35)) (.cells (arrL 16 fun j => byteV (B j)).toArray 35)
    simpa using this
  have hb0 : Below w.heap.size w w0 := by rw [← hW]; exact (((Below.refl _ _).alloc (Nat.le_refl _) _).alloc (by simp) _).alloc (by simp; omega) _
  clear hW
  refine (awake_prog w0).mono ?_
  rintro e w1 ⟨rfl, hb1⟩
  replace r0 := rowIs_later r0 hb1
  replace r1 := rowIs_later r1 hb1
  replace r2 := rowIs_later r2 hb1
  have hq1 := hb0.trans (hb1.mono hb0.size)
  clear hb0 hb1
  go_upto_region 3 with fail
  go_cut [7, 8] (fun s7 s8 wx => s7 = .string T ∧ s8 = .int .i64 0 ∧ Below w1.heap.size w1 wx)
  case first =>
    have v0 := row_text r0.drew
    have v1 := row_text r1.drew
    go_region_with ((go_at_call 13; refine (blockAt (txt K) (txt A) T _ (txt_size _) (txt_size _) HT.out).mono ?_; rintro e w2 ⟨rfl, hb2⟩))
    all_goals
      go_wp2_with fail
      go_meet
      exact ⟨rfl, rfl, ((Below.refl _ _).drew).trans hb2⟩
  case rest =>
    obtain ⟨rfl, rfl, hb2⟩ := hcut
    replace r0 := rowIs_later r0 hb2
    replace r1 := rowIs_later r1 hb2
    replace r2 := rowIs_later r2 hb2
    have hq2 := belowNext hq1 hb2
    clear hq1 hb2
    obtain ⟨wq, hwq⟩ : ∃ x : World, x = wc := ⟨_, rfl⟩
    subst hwq
    go_upto_region 4 with fail
    go_cut [9, 10] (fun s9 s10 wx => s9 = .string U ∧ s10 = .int .i64 0 ∧ Below wq.heap.size wq wx)
    case first =>
      have v0 := row_text r0.drew
      have v2 := row_text r2.drew
      go_region_with ((go_at_call 13; refine (blockAt (txt K) (txt B) U _ (txt_size _) (txt_size _) HU.out).mono ?_; rintro e w2 ⟨rfl, hb2⟩))
      all_goals
        go_wp2_with fail
        go_meet
        exact ⟨rfl, rfl, ((Below.refl _ _).drew).trans hb2⟩
    case rest =>
      obtain ⟨rfl, rfl, hb2⟩ := hcut
      replace r1 := rowIs_later r1 hb2
      replace r2 := rowIs_later r2 hb2
      have hq3 := belowNext hq2 hb2
      clear hq2 hb2 r0
      have heq := HE.out
      have a0 : wc.cell? ⟨w.heap.size + 1, 0, none⟩ = some (.int .u8 ((A 0).toNat : Int)) := r1.cell (by omega)
      have b0 : wc.cell? ⟨w.heap.size + 1 + 1, 0, none⟩ = some (.int .u8 ((B 0).toNat : Int)) := r2.cell (by omega)
      have a1 : wc.cell? ⟨w.heap.size + 1, 1, none⟩ = some (.int .u8 ((A 1).toNat : Int)) := r1.cell (by omega)
      have b1 : wc.cell? ⟨w.heap.size + 1 + 1, 1, none⟩ = some (.int .u8 ((B 1).toNat : Int)) := r2.cell (by omega)
      have a2 : wc.cell? ⟨w.heap.size + 1, 2, none⟩ = some (.int .u8 ((A 2).toNat : Int)) := r1.cell (by omega)
      have b2 : wc.cell? ⟨w.heap.size + 1 + 1, 2, none⟩ = some (.int .u8 ((B 2).toNat : Int)) := r2.cell (by omega)
      have a3 : wc.cell? ⟨w.heap.size + 1, 3, none⟩ = some (.int .u8 ((A 3).toNat : Int)) := r1.cell (by omega)
      have b3 : wc.cell? ⟨w.heap.size + 1 + 1, 3, none⟩ = some (.int .u8 ((B 3).toNat : Int)) := r2.cell (by omega)
      have a4 : wc.cell? ⟨w.heap.size + 1, 4, none⟩ = some (.int .u8 ((A 4).toNat : Int)) := r1.cell (by omega)
      have b4 : wc.cell? ⟨w.heap.size + 1 + 1, 4, none⟩ = some (.int .u8 ((B 4).toNat : Int)) := r2.cell (by omega)
      have a5 : wc.cell? ⟨w.heap.size + 1, 5, none⟩ = some (.int .u8 ((A 5).toNat : Int)) := r1.cell (by omega)
      have b5 : wc.cell? ⟨w.heap.size + 1 + 1, 5, none⟩ = some (.int .u8 ((B 5).toNat : Int)) := r2.cell (by omega)
      have a6 : wc.cell? ⟨w.heap.size + 1, 6, none⟩ = some (.int .u8 ((A 6).toNat : Int)) := r1.cell (by omega)
      have b6 : wc.cell? ⟨w.heap.size + 1 + 1, 6, none⟩ = some (.int .u8 ((B 6).toNat : Int)) := r2.cell (by omega)
      have a7 : wc.cell? ⟨w.heap.size + 1, 7, none⟩ = some (.int .u8 ((A 7).toNat : Int)) := r1.cell (by omega)
      have b7 : wc.cell? ⟨w.heap.size + 1 + 1, 7, none⟩ = some (.int .u8 ((B 7).toNat : Int)) := r2.cell (by omega)
      have a8 : wc.cell? ⟨w.heap.size + 1, 8, none⟩ = some (.int .u8 ((A 8).toNat : Int)) := r1.cell (by omega)
      have b8 : wc.cell? ⟨w.heap.size + 1 + 1, 8, none⟩ = some (.int .u8 ((B 8).toNat : Int)) := r2.cell (by omega)
      have a9 : wc.cell? ⟨w.heap.size + 1, 9, none⟩ = some (.int .u8 ((A 9).toNat : Int)) := r1.cell (by omega)
      have b9 : wc.cell? ⟨w.heap.size + 1 + 1, 9, none⟩ = some (.int .u8 ((B 9).toNat : Int)) := r2.cell (by omega)
      have a10 : wc.cell? ⟨w.heap.size + 1, 10, none⟩ = some (.int .u8 ((A 10).toNat : Int)) := r1.cell (by omega)
      have b10 : wc.cell? ⟨w.heap.size + 1 + 1, 10, none⟩ = some (.int .u8 ((B 10).toNat : Int)) := r2.cell (by omega)
      have a11 : wc.cell? ⟨w.heap.size + 1, 11, none⟩ = some (.int .u8 ((A 11).toNat : Int)) := r1.cell (by omega)
      have b11 : wc.cell? ⟨w.heap.size + 1 + 1, 11, none⟩ = some (.int .u8 ((B 11).toNat : Int)) := r2.cell (by omega)
      have a12 : wc.cell? ⟨w.heap.size + 1, 12, none⟩ = some (.int .u8 ((A 12).toNat : Int)) := r1.cell (by omega)
      have b12 : wc.cell? ⟨w.heap.size + 1 + 1, 12, none⟩ = some (.int .u8 ((B 12).toNat : Int)) := r2.cell (by omega)
      have a13 : wc.cell? ⟨w.heap.size + 1, 13, none⟩ = some (.int .u8 ((A 13).toNat : Int)) := r1.cell (by omega)
      have b13 : wc.cell? ⟨w.heap.size + 1 + 1, 13, none⟩ = some (.int .u8 ((B 13).toNat : Int)) := r2.cell (by omega)
      have a14 : wc.cell? ⟨w.heap.size + 1, 14, none⟩ = some (.int .u8 ((A 14).toNat : Int)) := r1.cell (by omega)
      have b14 : wc.cell? ⟨w.heap.size + 1 + 1, 14, none⟩ = some (.int .u8 ((B 14).toNat : Int)) := r2.cell (by omega)
      have a15 : wc.cell? ⟨w.heap.size + 1, 15, none⟩ = some (.int .u8 ((A 15).toNat : Int)) := r1.cell (by omega)
      have b15 : wc.cell? ⟨w.heap.size + 1 + 1, 15, none⟩ = some (.int .u8 ((B 15).toNat : Int)) := r2.cell (by omega)
      clear r1 r2
      by_cases hTU : T = U
      · subst hTU
        go_wp2_with fail
        go_ret
        exact ⟨rfl, hq3⟩
      · have hdf : decide (T = U) = false := by simpa using hTU
        have htl : (T.toList == U.toList) = false := by
          rw [beq_eq_false_iff_ne, ByteArray.toList_eq, ByteArray.toList_eq]
          exact fun h => hTU (ByteArray.ext (Array.toList_inj.1 h))
        go_wp2_with fail
        go_ret
        exact ⟨rfl, hq3⟩
end Go.Proofs.Ytohjnhekkifhbab
