/- AesOn: what stands behind so many blocks of a text is put under the number that is so many more. -/
import Derived.Test.YtohjnhekkifhbabAesLawA
import Derived.Laws.IdiomStrings
import Derived.Deep.DeepCutAuto
import Derived.BigRegion
namespace Go.Proofs.Ytohjnhekkifhbab
open Go.RowKit

/-- A number whose last byte is c. -/
def endN (B : Nat → UInt8) (c : UInt8) (j : Nat) : UInt8 := if j < 15 then B j else c
theorem nxt_end (B : Nat → UInt8) (c : UInt8) (h : c ≠ 255) : ∀ j, j < 16 → nxt (endN B c) j = endN B (c + 1) j := fun j hj => by
  unfold nxt
  by_cases h15 : j < 15
  · rw [if_neg (fun h2 => h (by have := h2 15 (by omega) h15; simpa [endN] using this))]
    unfold endN; rw [if_pos h15, if_pos h15]
  · rw [if_pos (fun i h1 h2 => by omega)]
    unfold endN; rw [if_neg h15, if_neg h15]
theorem nxt_congr {B C : Nat → UInt8} (h : ∀ j, j < 16 → B j = C j) : ∀ j, j < 16 → nxt B j = nxt C j := fun j hj => by
  unfold nxt
  have e : (∀ i, i < 16 → j < i → B i = 255) ↔ (∀ i, i < 16 → j < i → C i = 255) := ⟨fun g i h1 h2 => by rw [← h i h1]; exact g i h1 h2, fun g i h1 h2 => by rw [h i h1]; exact g i h1 h2⟩
  rw [h j hj]
  by_cases hc : ∀ i, i < 16 → j < i → C i = 255
  · rw [if_pos (e.2 hc), if_pos hc]
  · rw [if_neg (fun g => hc (e.1 g)), if_neg hc]
theorem nxtN_congr {B C : Nat → UInt8} (h : ∀ j, j < 16 → B j = C j) : ∀ q j, j < 16 → nxtN B q j = nxtN C q j
  | 0 => h
  | q + 1 => nxt_congr (nxtN_congr h q)
theorem nxtN_end (B : Nat → UInt8) : ∀ (q : Nat), q < 256 → ∀ j, j < 16 → nxtN (endN B 0) q j = endN B (UInt8.ofNat q) j
  | 0, _ => fun j _ => rfl
  | q + 1, h => fun j hj => by
    show nxt (nxtN (endN B 0) q) j = _
    rw [nxt_congr (nxtN_end B q (by omega)) j hj, nxt_end B _ (fun e => by
      have := congrArg UInt8.toNat e
      simp at this; omega) j hj]
    congr 1
    apply UInt8.toNat_inj.1
    simp [UInt8.toNat_add]
theorem nxtN_add (B : Nat → UInt8) (p : Nat) : ∀ q, nxtN (nxtN B p) q = nxtN B (p + q)
  | 0 => rfl
  | q + 1 => by
    show nxt (nxtN (nxtN B p) q) = nxt (nxtN B (p + q))
    rw [nxtN_add B p q]
/-- The stream goes on. -/
theorem str_on (KW B : Nat → UInt8) (q i : Nat) (hq : q < 256) : strB KW (endN B 0) (16 * q + i) = strB KW (endN B (UInt8.ofNat q)) i := by
  unfold strB
  rw [show (16 * q + i) / 16 = q + i / 16 by omega, show (16 * q + i) % 16 = i % 16 by omega, ← nxtN_add]
  exact enc_congr KW (nxtN_congr (nxtN_end B q hq) (i / 16)) (i % 16) (by omega)
theorem strB_congr (KW : Nat → UInt8) {B C : Nat → UInt8} (h : ∀ j, j < 16 → B j = C j) (i : Nat) : strB KW B i = strB KW C i := by
  unfold strB
  exact enc_congr KW (nxtN_congr h _) _ (by omega)

def txt15 (B : Nat → UInt8) : ByteArray := ⟨((List.range 15).map B).toArray⟩
theorem txt15_size (B : Nat → UInt8) : (txt15 B).size = 15 := by
  show ((List.range 15).map B).toArray.size = 15
  simp
theorem num_size (B : Nat → UInt8) (c : UInt8) : (txt15 B ++ ⟨#[c]⟩).size = 16 := by rw [ByteArray.size_append', txt15_size]; rfl
theorem blk_num (B : Nat → UInt8) (c : UInt8) : ∀ j, j < 16 → blk (txt15 B ++ ⟨#[c]⟩) j = endN B c j := fun j hj => by
  have e : (txt15 B ++ ⟨#[c]⟩ : ByteArray).data = ((List.range 15).map B).toArray ++ #[c] := by simp [txt15]
  unfold blk endN
  rw [e]
  by_cases h : j < 15
  · rw [if_pos h, Array.getElem?_append_left (by simpa using h)]; simp [h]
  · have : j = 15 := by omega
    subst this
    rw [if_neg h, Array.getElem?_append_right (by simp)]; simp
theorem on_at (B : Nat → UInt8) (k s : ByteArray) (q : Nat) (hq : q < 256) (hs : 16 * q ≤ s.size) :
    (strT k (txt15 B ++ ⟨#[0]⟩) s).extract (16 * q) s.size = strT k (txt15 B ++ ⟨#[UInt8.ofNat q]⟩) (s.extract (16 * q) s.size) := by
  have hsz : (s.extract (16 * q) s.size).size = s.size - 16 * q := by simp
  apply ByteArray.ext
  apply Array.ext
  · have : (strT k (txt15 B ++ ⟨#[0]⟩) s).size = s.size := strT_size _ _ _
    have h2 : (strT k (txt15 B ++ ⟨#[UInt8.ofNat q]⟩) (s.extract (16 * q) s.size)).size = s.size - 16 * q := by rw [strT_size, hsz]
    have h3 : ((strT k (txt15 B ++ ⟨#[0]⟩) s).extract (16 * q) s.size).size = s.size - 16 * q := by simp [this]
    exact h3.trans h2.symm
  · intro i h1 h2
    have hi : i < s.size - 16 * q := by
      have : (strT k (txt15 B ++ ⟨#[UInt8.ofNat q]⟩) (s.extract (16 * q) s.size)).size = s.size - 16 * q := by rw [strT_size, hsz]
      have h2' : i < (strT k (txt15 B ++ ⟨#[UInt8.ofNat q]⟩) (s.extract (16 * q) s.size)).size := h2
      omega
    have e1 : blk ((strT k (txt15 B ++ ⟨#[0]⟩) s).extract (16 * q) s.size) i = blk (strT k (txt15 B ++ ⟨#[UInt8.ofNat q]⟩) (s.extract (16 * q) s.size)) i := by
      have hss : (strT k (txt15 B ++ ⟨#[0]⟩) s).size = s.size := strT_size _ _ _
      have hb := blk_extract (strT k (txt15 B ++ ⟨#[0]⟩) s) (16 * q) i (by omega)
      rw [hss] at hb
      have hb2 := blk_extract s (16 * q) i (by omega)
      refine (show _ = _ from hb).trans ?_
      unfold strT
      rw [blk_outS _ _ _ _ (by omega), blk_outS _ _ _ _ (by omega)]
      unfold outB
      rw [show blk (s.extract (16 * q) s.size) i = blk s (16 * q + i) from hb2, strB_congr _ (blk_num B 0), strB_congr _ (blk_num B (UInt8.ofNat q)), str_on _ _ _ _ hq]
    unfold blk at e1
    rw [Array.getElem?_eq_getElem h1, Array.getElem?_eq_getElem h2] at e1
    exact e1
theorem row_text15 {w : World} {g t : Nat} {B : Nat → UInt8} (h : w.rowIs g t 15 (fun j => byteV (B j))) :
    (convert 29 9 (.slice (some ⟨g, 0, none⟩) 15 15)).run Try.prog w = .ok (.string (txt15 B)) w := by
  have hblk := rowIs_block h
  have hcells : arrL 15 (fun j => byteV (B j)) = ((List.range 15).map B).map byteV := by simp [arrL]
  rw [hcells] at hblk
  have hcv := run_string_row (src := 29) (dst := 9) Try.underlying29 Try.underlying5 Try.underlying9 g 15 _ (P := Try.prog) (e := 5) (w := w) hblk
  rw [List.length_map, List.length_range] at hcv
  exact hcv

set_option maxRecDepth 100000 in
set_option maxHeartbeats 4000000 in
theorem on_law (B : Nat → UInt8) (s : ByteArray) (c : UInt8) (w : World) (hms : s.size ≤ maxLen) :
    Calls Try.prog 8 #[.agg (arrL 15 (fun j => byteV (B j))).toArray, .string s, .int .u8 (c.toNat : Int)] w fun e w' => e = .returned (.bool true) ∧ Below w.heap.size w w' := by
  unfold maxLen at hms
  have hc := c.toNat_lt
  have hb0 : Below w.heap.size w (w.alloc (.cells (arrL 15 fun j => byteV (B j)).toArray 38)) := (Below.refl _ _).alloc (Nat.le_refl _) _
  have r0 : (w.alloc (.cells (arrL 15 fun j => byteV (B j)).toArray 38)).rowIs w.heap.size 38 15 (fun j => byteV (B j)) := rowIs_of_block (heap_at_alloc w _)
  go_enter Try.func8, Try.ntmps8
  obtain ⟨w0, hw0⟩ : ∃ w0, w.alloc (.cells (arrL 15 fun j => byteV (B j)).toArray 38) = w0 := ⟨_, rfl⟩
  rw [hw0] at hb0 r0
  by_cases hbig : 200 < s.size
  · go_wp2_with fail
    refine (awake_prog w0).mono ?_
    rintro e w1 ⟨rfl, hb1⟩
    clear hw0
    go_wp2
    go_ret
    exact ⟨rfl, belowNext hb0 hb1⟩
  · by_cases hbig2 : 12 < c.toNat
    · go_wp2_with fail
      refine (awake_prog w0).mono ?_
      rintro e w1 ⟨rfl, hb1⟩
      clear hw0
      go_wp2
      go_ret
      exact ⟨rfl, belowNext hb0 hb1⟩
    · by_cases hbig3 : s.size < c.toNat * 16
      · go_wp2_with fail
        refine (awake_prog w0).mono ?_
        rintro e w1 ⟨rfl, hb1⟩
        clear hw0
        go_wp2
        go_ret
        exact ⟨rfl, belowNext hb0 hb1⟩
      · obtain ⟨n0, hn0⟩ : ∃ n0 : ByteArray, txt15 B ++ (⟨#[0]⟩ : ByteArray) = n0 := ⟨_, rfl⟩
        obtain ⟨nc, hnc⟩ : ∃ nc : ByteArray, txt15 B ++ (⟨#[c]⟩ : ByteArray) = nc := ⟨_, rfl⟩
        obtain ⟨X, hX⟩ : ∃ X, strT kb n0 s = X := ⟨_, rfl⟩
        obtain ⟨Y, hY⟩ : ∃ Y, strT kb nc (s.extract (c.toNat * 16) s.size) = Y := ⟨_, rfl⟩
        have zn0 : n0.size = 16 := by rw [← hn0]; exact num_size _ _
        have znc : nc.size = 16 := by rw [← hnc]; exact num_size _ _
        have t15 : (txt15 B).size ≤ 15 := by rw [txt15_size]; exact Nat.le_refl _
        have ZN0 := Lib.hid zn0
        have ZNC := Lib.hid znc
        clear zn0 znc
        have hXs : X.size = s.size := by rw [← hX, strT_size]
        have hxy : X.extract (c.toNat * 16) X.size = Y := by
          have hq := on_at B kb s c.toNat (by omega) (by omega)
          rw [UInt8.ofNat_toNat, Nat.mul_comm 16 c.toNat, hn0, hnc] at hq
          rw [hXs, ← hX, ← hY, hq]
        have HX := Lib.hid hX
        have HY := Lib.hid hY
        have x1 : ((X.size : Int) == (s.size : Int)) = true := by rw [hXs]; simp
        have x2 : X.size ≤ s.size := by omega
        have x3 : s.size ≤ X.size := by omega
        have k0 : (0 : Int) ≤ (c.toNat : Int) * 16 := by omega
        have k1 : (c.toNat : Int) * 16 ≤ (s.size : Int) := by omega
        have k2 : (c.toNat : Int) * 16 ≤ (X.size : Int) := by omega
        have n1 : ((c.toNat : Int) * 16).toNat = c.toNat * 16 := by omega
        have HXY := Lib.hid hxy
        clear hX hY hXs hxy
        have d1 : decide ((200 : Int) < (s.size : Int)) = false := by simp; omega
        have d2 : decide ((12 : Int) < (c.toNat : Int)) = false := by simp; omega
        have d3 : decide ((s.size : Int) < (c.toNat : Int) * 16) = false := by simp; omega
        go_wp2_with fail
        refine (awake_prog w0).mono ?_
        rintro e w1 ⟨rfl, hb1⟩
        clear hw0
        replace r0 := rowIs_later r0 hb1
        have hq1 := hb0.trans (hb1.mono hb0.size)
        clear hb0 hb1
        have v0 := row_text15 r0
        go_wp2_with fail
        refine (streamAt kb n0 s X w1 rfl ZN0.out (by omega) HX.out).mono ?_
        rintro e w2 ⟨rfl, hb2⟩
        clear v0
        replace r0 := rowIs_later r0 hb2
        have hq2 := belowNext hq1 hb2
        clear hq1 hb2
        have lt0 := r0.lt
        go_upto_region 7 with fail
        go_cut [10, 11] (fun s8 s9 wx => s8 = .string Y ∧ s9 = .int .i64 0 ∧ Below w2.heap.size w2 wx)
        case first =>
          have u0 := row_text15 r0.drew
          have u1 := row_text15 (r0.alloc (.cells #[.int .u8 (c.toNat : Int)] 5)).drew
          have u2 : (convert 29 9 (.slice (some ⟨w2.heap.size, 0, none⟩) 1 1)).run Try.prog (w2.alloc (.cells #[.int .u8 (c.toNat : Int)] 5)).drew = .ok (.string ⟨#[c]⟩) (w2.alloc (.cells #[.int .u8 (c.toNat : Int)] 5)).drew :=
            run_string_block (w := (w2.alloc (.cells #[.int .u8 (c.toNat : Int)] 5)).drew) (src := 29) (dst := 9) Try.underlying29 Try.underlying5 Try.underlying9 w2.heap.size 1 [c] (by show (w2.alloc _).heap[_]? = _; rw [heap_at_alloc]; simp [byteV])
          have hbz : Below w2.heap.size w2 (w2.alloc (.cells #[.int .u8 (c.toNat : Int)] 5)).drew := ((Below.refl _ _).alloc (Nat.le_refl _) _).drew
          go_region_with ((go_at_call 16; refine (streamAt kb nc (s.extract (c.toNat * 16) s.size) Y _ rfl ZNC.out (by simp; omega) HY.out).mono ?_; rintro e w3 ⟨rfl, hb3⟩))
          all_goals
            go_wp2_with fail
            go_meet
            exact ⟨rfl, rfl, hbz.trans (hb3.mono hbz.size)⟩
        case rest =>
          obtain ⟨rfl, rfl, hb2⟩ := hcut
          have hq3 := belowNext hq2 hb2
          have hxy := HXY.out
          go_wp2_with fail
          go_ret
          exact ⟨rfl, hq3⟩
end Go.Proofs.Ytohjnhekkifhbab
