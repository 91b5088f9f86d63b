import Derived.Test.YtohjnhekkifhbaaDoorShaEnd
import Derived.Test.YtohjnhekkifhbaaDoorRefA
namespace Go.Proofs.YtohjnhekkifhbaaDoor
open Go.RowKit

theorem be4_bytes (y : Int) (h : 0 ≤ y) (h1 : y < 4294967296) : [Value.int .u8 (y / 16777216), .int .u8 (y / 65536 % 256), .int .u8 (y / 256 % 256), .int .u8 (y % 256)] = (beB y.toNat 4).map byteV := by
  obtain ⟨n, rfl⟩ := Int.eq_ofNat_of_zero_le h
  simp [beB, byteV]; omega

set_option maxRecDepth 100000 in
set_option maxHeartbeats 2000000 in
theorem joined_prog (X : St) (w : World) (hX : X.ok) :
    Calls Tryd.prog 24 #[.agg (arrL 8 (fun j => u32V (X.at j))).toArray] w fun e w' => e = .returned (.string ⟨(outL X 8).toArray⟩) ∧ Below w.heap.size w w' := by
  obtain ⟨i0, hi0⟩ : ∃ i, Tryd.prog.info? 35 = some i := Option.isSome_iff_exists.1 (by kernel_rfl)
  have hidx : ∀ k : Nat, k < 8 → ∀ W, (Instr.index 36 (.agg (arrL 8 (fun j => u32V (X.at j))).toArray) (.int .i64 k)).run Tryd.prog W = .ok (u32V (X.at k)) W := fun (k : Nat) (hk : k < 8) W => run_index_arr (P := Tryd.prog) (w := W) Tryd.underlying36 (e := 35) (by kernel_rfl) (by kernel_rfl) i0 hi0 (fun j => u32V (X.at j)) k hk
  go_enter Tryd.func24, Tryd.ntmps24
  have hbox : (w.alloc (.cells (arrL 8 (fun j => u32V (X.at j))).toArray 36)).rowIs w.heap.size 36 8 (fun j => u32V (X.at j)) := rowIs_of_block (heap_at_alloc w _)
  have hb0 : Below w.heap.size w (w.alloc (.cells (arrL 8 (fun j => u32V (X.at j))).toArray 36)) := (Below.refl _ _).alloc (Nat.le_refl _) _
  go_wp2_with (first
    | (at_make; refine list_make0 Tryd.bytesSl rfl _ _ rfl 32 rfl _ rfl rfl (by omega) (by unfold maxLen; omega) ?_))
  intro w1 hown hb1
  have hsz1 : w.heap.size + 1 ≤ w1.heap.size := by have := hb1.size; simpa using this
  replace hown : Owns w1 (w.heap.size + 1) 5 (.slice (some ⟨w.heap.size + 1, 0, none⟩) 0 32) [] := by simpa using hown
  have hbox1 := rowIs_below hbox hb1 (Nat.lt_succ_self _)
  go_wp2_with (first
    | (refine list_load_arr Tryd.underlying36 (by kernel_rfl) rfl _ rfl w.heap.size 36 _ rfl hbox1 ?_))
  have hb2 : Below w.heap.size w w1 := hb0.trans (hb1.mono (by simp))
  clear hbox hbox1 hb0
  obtain ⟨AV, hAV⟩ : ∃ AV, AV = Value.agg (arrL 8 (fun j => u32V (X.at j))).toArray := ⟨_, rfl⟩
  rw [← hAV] at hidx ⊢
  clear hAV
  go_loopw [3, 8] (fun v i wr => ∃ k : Nat, k ≤ 8 ∧ i = .int .i64 k ∧ Owns wr (w.heap.size + 1) 5 v ((outL X k).map byteV) ∧ Below w.heap.size w wr ∧ w.heap.size + 1 ≤ wr.heap.size) (fun _ i _ => 8 - (intOf i).toNat)
  case atStart => exact ⟨0, by omega, rfl, hown, hb2, hsz1⟩
  case round =>
    obtain ⟨k, hk, rfl, hown, hb, hz⟩ := hrel
    by_cases hlt : k < 8
    · have hu := X.at_ok hX k
      have hos := outL_succ X k
      have hol := outL_length X k
      obtain ⟨y, hy⟩ : ∃ y : Int, X.at k = y := ⟨_, rfl⟩
      rw [hy] at hos
      have hi : ∀ W, (Instr.index 36 AV (.int .i64 k)).run Tryd.prog W = .ok (.int .u32 y) W := fun W => by rw [hidx k hlt W, hy]; rfl
      rw [hy] at hu
      obtain ⟨y0, y1⟩ := hu
      have HOS := Lib.hid hos
      have hll : (outL X k).length ≤ 32 := by omega
      clear hos hol hy hidx
      go_wp2_with (first
        | (at_builtin; refine list_app Tryd.bytesSl rfl _ _ rfl (w.heap.size + 1) _ _ rfl (hown.alloc _) wr.heap.size _ rfl (heap_at_alloc wr _) (by simp [Value.oneCell']) (by simp) (by simp; unfold maxLen; omega) (by simp; omega) (by simp; omega) ?_))
      intro v4 w4 hown4 hb4
      have e4 : (outL X k).map byteV ++ [.int .u8 (y / 16777216), .int .u8 (y / 65536 % 256), .int .u8 (y / 256 % 256), .int .u8 (y % 256)] = (outL X (k + 1)).map byteV := by
        rw [HOS.out, be4_bytes y y0 y1, List.map_append]
      rw [e4] at hown4
      have hb5 := (hb.alloc hb.size _).trans (hb4.mono (by omega))
      have hz5 := hb4.size
      simp at hz5
      clear hown hb hb4 e4 hi
      go_wp2
      go_roundw
      case rel => exact ⟨k + 1, by omega, by go_num, hown4, hb5, by omega⟩
      case measure => simp [intOf]; omega
    · have hte : k = 8 := by omega
      have hcv := run_string_owned (src := 32) (dst := 9) Tryd.underlying32 Tryd.underlying5 Tryd.underlying9 hown
      have HT := Lib.hid hte
      have hge : (8 : Int) ≤ (k : Int) := by omega
      clear hte hidx hlt
      go_wp2
      go_ret
      exact ⟨by rw [HT.out]; rfl, hb⟩

theorem keyB_get (s : ByteArray) (m : UInt8) (k : Nat) (h : k < 64) (hs : s.size ≤ 64) :
    (xorL (s.data.toList ++ List.replicate (64 - s.size) 0) m).getD k 0 = (if k < s.size then s.data.getD k 0 else 0) ^^^ m := by
  have hl : k < (s.data.toList ++ List.replicate (64 - s.size) 0).length := by simp; omega
  simp only [xorL, List.getD, List.getElem?_map]
  by_cases hk : k < s.size
  · rw [if_pos hk, List.getElem?_append_left (by simpa using hk)]; simp [Array.getD, hk]
  · rw [if_neg hk, List.getElem?_append_right (by simp; omega)]
    have : k - s.data.toList.length < 64 - s.size := by simp; omega
    have h2 : k - s.size < 64 - s.size := by simpa using this
    simp [h2]

set_option maxRecDepth 100000 in
set_option maxHeartbeats 2000000 in
theorem masked_prog (s : ByteArray) (m : UInt8) (w : World) (hs : s.size ≤ 64) :
    Calls Tryd.prog 33 #[.string s, .int .u8 (m.toNat : Int)] w fun e w' => e = .returned (.string ⟨(xorL (s.data.toList ++ List.replicate (64 - s.size) 0) m).toArray⟩) ∧ Below w.heap.size w w' := by
  obtain ⟨F, hF⟩ : ∃ F : Nat → UInt8, F = fun k => if k < s.size then s.data.getD k 0 else 0 := ⟨_, rfl⟩
  go_enter Tryd.func33, Tryd.ntmps33
  go_wp2_with (first
    | (refine list_copy_str (e := 5) Tryd.underlying32 (by kernel_rfl) rfl _ _ rfl w.heap.size 64 rfl s rfl 61 (fun _ => .int .u8 0) (rowIs_rep (by rfl)) ?_))
  intro w1 hr1 ho1
  have hb1 : Below w.heap.size w w1 := ((Below.refl _ _).alloc (Nat.le_refl _) _).trans (ho1.below (Nat.le_refl _) (by simp))
  clear ho1
  have hr2 : w1.rowIs w.heap.size 61 64 (fun j => byteV (F j)) := hr1.congr (fun j _ => by
    rw [hF]; by_cases h : j < s.size
    · simp [h]
    · simp [h, byteV])
  have hres : ∀ k, k < 64 → (xorL (s.data.toList ++ List.replicate (64 - s.size) 0) m).getD k 0 = F k ^^^ m := fun k hk => by rw [hF]; exact keyB_get s m k hk hs
  have hlen : (xorL (s.data.toList ++ List.replicate (64 - s.size) 0) m).length = 64 := by simp [xorL]; omega
  obtain ⟨R, hR⟩ : ∃ R, R = xorL (s.data.toList ++ List.replicate (64 - s.size) 0) m := ⟨_, rfl⟩
  rw [← hR] at hres hlen
  have HR := Lib.hid hR
  have HRES := Lib.hid hres
  have HLEN := Lib.hid hlen
  clear hr1 hres hlen hR hF
  go_wp2_with fail
  go_loopw [10] (fun i wr => ∃ k : Nat, k ≤ 64 ∧ i = .int .i64 k ∧ wr.rowIs w.heap.size 61 64 (fun j => if j < k then byteV (F j ^^^ m) else byteV (F j)) ∧ Below w.heap.size w wr) (fun i _ => 64 - (intOf i).toNat)
  case atStart => exact ⟨0, by omega, rfl, hr2.congr (fun j _ => by simp), hb1⟩
  case round =>
    obtain ⟨k, hk, rfl, hr, hb⟩ := hrel
    by_cases hlt : k < 64
    · have c := hr.cell (i := k) hlt
      have f := hr.frozen k
      simp only [Nat.lt_irrefl, if_false, byteV] at c
      have i0 : (0 : Int) ≤ (k : Int) := by omega
      have i1 : (k : Int) < 64 := by omega
      have hx := bits_xor8 (F k) m
      go_wp2_with fail
      go_roundw
      case rel =>
        refine ⟨k + 1, by omega, by go_num, row_put hr _ _ (fun j _ => ?_), hb.setCell (Nat.le_refl _) _⟩
        by_cases hjk : j = k
        · subst hjk; rw [if_pos (by omega), if_pos rfl]; simp [byteV]
        · rw [if_neg hjk]
          by_cases hl : j < k
          · rw [if_pos hl, if_pos (by omega)]
          · rw [if_neg hl, if_neg (by omega)]
      case measure => simp [intOf]; omega
    · have hte : k = 64 := by omega
      have hrw : wr.rowIs w.heap.size 61 64 (fun j => byteV (F j ^^^ m)) := hr.congr (fun j hj => by simp [hte, hj])
      have hge : (64 : Int) ≤ (k : Int) := by omega
      have hc := rowIs_block hrw
      have hcells : (arrL 64 (fun j => byteV (F j ^^^ m))) = R.map byteV := by
        apply List.ext_getElem (by rw [arrL_length, List.length_map, HLEN.out])
        intro j h1 h2
        have hj : j < 64 := by simpa [arrL] using h1
        have h3 := HRES.out j hj
        have h4 : j < R.length := by rw [HLEN.out]; exact hj
        simp only [List.getD, List.getElem?_eq_getElem h4, Option.getD_some] at h3
        simp [arrL, h3]
      rw [hcells] at hc
      have hcv := run_string_row (src := 32) (dst := 9) Tryd.underlying32 Tryd.underlying5 Tryd.underlying9 w.heap.size 64 R (P := Tryd.prog) (e := 5) (w := wr) hc
      rw [HLEN.out] at hcv
      clear hr hrw hc hcells hte
      go_wp2
      go_ret
      exact ⟨by rw [HR.out]; rfl, hb⟩
end Go.Proofs.YtohjnhekkifhbaaDoor
