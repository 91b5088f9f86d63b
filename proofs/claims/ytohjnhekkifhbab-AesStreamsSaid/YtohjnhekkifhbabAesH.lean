/- The program's calls of aes: the box of a byte, a block under a key. -/
import Derived.Test.YtohjnhekkifhbabAesG
namespace Go.Proofs.Ytohjnhekkifhbab
open Go.RowKit

theorem run_index_arr_u8 {P : Program} {w : World} {ty e : TypeId} {n : Nat} (hu : P.underlying ty = some (.array n e)) (he : P.plainKey e = true) (hc : P.cellsOf e = 1) (i : TypeInfo) (hi : P.info? e = some i) (f : Nat → Value) (k : Nat) (hk : k < n) :
    (Instr.index ty (.agg (arrL n f).toArray) (.int .u8 k)).run P w = .ok (f k) w := by
  have hp := run_part_plain (P := P) (w := w) he (xs := (arrL n f).toArray) (off := k) (v := f k) (by simp [arrL, hk])
  simp [Instr.index, asIntOf, run_underlying hu, run_sizeOf w hi, hc, hp, hk]

theorem box_prog (b : UInt8) (w : World) :
    Calls Try.prog 11 #[.int .u8 (b.toNat : Int)] w fun e w' => e = .returned (byteV (sb b)) ∧ Below w.heap.size w w' := by
  obtain ⟨i0, hi0⟩ : ∃ i, Try.prog.info? 5 = some i := Option.isSome_iff_exists.1 (by kernel_rfl)
  have hb := b.toNat_lt
  have hidx : ∀ W, (Instr.index 41 boxV (.int .u8 (b.toNat : Int))).run Try.prog W = .ok (byteV (sb b)) W := fun W =>
    run_index_arr_u8 (P := Try.prog) (w := W) Try.underlying41 (by kernel_rfl) (by kernel_rfl) i0 hi0 (fun j => byteV (boxL.getD j 0)) b.toNat hb
  go_enter Try.func11, Try.ntmps11
  go_wp2_with fail
  refine (boxBytes_at _).mono ?_
  rintro e w1 ⟨rfl, hb1⟩
  go_wp2
  go_ret
  exact ⟨rfl, hb1⟩

/-- A text of 16 bytes. -/
def txt (B : Nat → UInt8) : ByteArray := ⟨((List.range 16).map B).toArray⟩
theorem txt_size (B : Nat → UInt8) : (txt B).size = 16 := by simp [txt, ByteArray.size]
theorem blk_txt (B : Nat → UInt8) (j : Nat) (h : j < 16) : blk (txt B) j = B j := by simp [blk, txt, h]

set_option maxRecDepth 100000 in
set_option maxHeartbeats 2000000 in
theorem block_bad (k b : ByteArray) (w : World) (h : ¬ (k.size = 16 ∧ b.size = 16)) :
    Calls Try.prog 13 #[.string k, .string b] w fun e w' => e = .returned (.tuple #[.string ⟨#[]⟩, .int .i64 1]) ∧ w = w' := by
  by_cases h1 : k.size = 16
  · have h2 : ((b.size : Int) != 16) = true := by
      have : (b.size : Int) ≠ 16 := by omega
      simpa using this
    have h3 : ((k.size : Int) != 16) = false := by
      have : (k.size : Int) = 16 := by omega
      simpa using this
    clear h h1
    go_enter Try.func13, Try.ntmps13
    go_wp2
    go_ret2
    exact ⟨rfl, rfl⟩
  · have h3 : ((k.size : Int) != 16) = true := by
      have : (k.size : Int) ≠ 16 := by omega
      simpa using this
    clear h h1
    go_enter Try.func13, Try.ntmps13
    go_wp2
    go_ret2
    exact ⟨rfl, rfl⟩

set_option maxRecDepth 100000 in
set_option maxHeartbeats 4000000 in
theorem block_prog (k b : ByteArray) (w : World) (hk : k.size = 16) (hb : b.size = 16) :
    Calls Try.prog 13 #[.string k, .string b] w fun e w' => e = .returned (.tuple #[.string (txt (enc (KWf k.data.toList) (blk b))), .int .i64 0]) ∧ Below w.heap.size w w' := by
  have h2 : ((b.size : Int) != 16) = false := by
    have : (b.size : Int) = 16 := by omega
    simpa using this
  have h3 : ((k.size : Int) != 16) = false := by
    have : (k.size : Int) = 16 := by omega
    simpa using this
  have hz := zero_sched
  have hz2 := zero_blk
  have HK := Lib.hid hk
  have HB := Lib.hid hb
  clear hk hb
  obtain ⟨KW, hKW⟩ : ∃ KW, KWf k.data.toList = KW := ⟨_, rfl⟩
  have HW := Lib.hid hKW
  have hsch : ∀ W, Calls Try.prog 20 #[.string k] W fun e w' => e = .returned (.agg (arrL 432 (schV KW 176)).toArray) ∧ Below W.heap.size W w' := fun W => by rw [← hKW]; exact scheduled_prog k W HK.out
  have HS := Lib.hid hsch
  rw [hKW]
  clear hKW hsch
  go_enter Try.func13, Try.ntmps13
  go_wp2_with fail
  refine (HS.out _).mono ?_
  rintro e w1 ⟨rfl, hb1⟩
  go_wp2_with (first
    | (refine list_store_arr (ty := 47) (n := 432) (by kernel_rfl) rfl _ _ rfl w1.heap.size 47 (fun _ => byteV 0) (schV KW 176) rfl rfl (rowIs_of_block (heap_at_alloc w1 _)) (sch_one KW 176) ?_))
  intro w2 hr2 ho2
  have hq2 : Below w.heap.size w w2 := (hb1.alloc hb1.size _).trans (ho2.below hb1.size (by have := hb1.size; simp; omega))
  obtain ⟨g, hg⟩ : ∃ g, w1.heap.size = g := ⟨_, rfl⟩
  rw [hg] at hr2 ⊢
  clear ho2 hb1 hg
  go_wp2_with fail
  refine (blockOf_prog b _ HB.out).mono ?_
  rintro e w3 ⟨rfl, hb3⟩
  have hr3 := rowIs_later hr2 hb3
  have hq3 := hq2.trans (hb3.mono hq2.size)
  clear hr2 hq2 hb3
  go_wp2_with fail
  refine (under_prog g _ KW (blk b) w3 hr3).mono ?_
  rintro e w4 ⟨rfl, hb4⟩
  have hq4 := hq3.trans (hb4.mono hq3.size)
  clear hr3 hq3 hb4
  go_wp2_with (first
    | (refine list_store_arr (ty := 35) (n := 16) (by kernel_rfl) rfl _ _ rfl w4.heap.size 35 (fun _ => byteV 0) (fun j => byteV (enc KW (blk b) j)) rfl rfl (rowIs_of_block (heap_at_alloc w4 _)) (fun _ => rfl) ?_))
  intro w5 hr5 ho5
  have hq5 : Below w.heap.size w w5 := (hq4.alloc hq4.size _).trans (ho5.below hq4.size (by have := hq4.size; simp; omega))
  have hblk := rowIs_block hr5
  have hcells : arrL 16 (fun j => byteV (enc KW (blk b) j)) = ((List.range 16).map (enc KW (blk b))).map byteV := by simp [arrL]
  rw [hcells] at hblk
  have hcv := run_string_row (src := 29) (dst := 9) Try.underlying29 Try.underlying5 Try.underlying9 w4.heap.size 16 _ (P := Try.prog) (e := 5) (w := w5) hblk
  rw [List.length_map, List.length_range] at hcv
  replace hcv : (convert 29 9 (.slice (some ⟨w4.heap.size, 0, none⟩) 16 16)).run Try.prog w5 = .ok (.string (txt (enc KW (blk b)))) w5 := hcv
  clear hblk hcells hr5 ho5 hz hz2 hq4
  go_wp2
  go_ret2
  exact ⟨rfl, hq5⟩
end Go.Proofs.Ytohjnhekkifhbab
