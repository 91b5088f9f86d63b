/- TapeEven. -/
import Derived.Test.YtndpdledhjdfeaaTAwk
import Derived.Test.YtndpdledhjdfeaaLib2
import Derived.Laws.BitsLemmas
namespace Go.Proofs.Ytndpdledhjdfeaa
open Go.RowKit

theorem wraps32 (n : Int) (h0 : 0 ≤ n) (h1 : n < 2 ^ 32) : IntKind.i64.wrap n = n := IntWalk.i64_in _ (by omega)
theorem join_lo (i : Nat) (x y : Nat) (hx : x < 2 ^ i) (hx32 : x < 2 ^ 32) (hy : y * 2 ^ i < 2 ^ 32) : bits .or .i64 (x : Int) ((y * 2 ^ i : Nat) : Int) = ((x + y * 2 ^ i : Nat) : Int) := by
  rw [(bits_nat .i64 32 (by decide) wraps32 x (y * 2 ^ i) hx32 hy).2, Nat.or_comm]
  have := Nat.two_pow_add_eq_or_of_lt (b := x) hx y
  rw [Nat.mul_comm y, ← this, Nat.add_comm]
theorem w64_nat (n : Nat) (h : n < 4294967296) : wrap64 (n : Int) = (n : Int) := by unfold wrap64; omega
theorem pow_fits : ∀ p : Fin 32, 1 ≤ (2 : Int) ^ p.val ∧ (2 : Int) ^ p.val ≤ 2147483648 := by decide
theorem low_eq (a b c d : Nat) (ha : a < 256) (hb : b < 256) (hc : c < 256) (hd : d < 256) :
    bits .or .i64 (bits .or .i64 (bits .or .i64 (wrap64 (d : Int)) (wrap64 (wrap64 (c : Int) * 256))) (wrap64 (wrap64 (b : Int) * 65536))) (wrap64 (wrap64 (a : Int) * 16777216)) = ((d + c * 2 ^ 8 + b * 2 ^ 16 + a * 2 ^ 24 : Nat) : Int) := by
  rw [w64_nat d (by omega), w64_nat c (by omega), w64_nat b (by omega), w64_nat a (by omega)]
  rw [show (c : Int) * 256 = ((c * 2 ^ 8 : Nat) : Int) by simp, show (b : Int) * 65536 = ((b * 2 ^ 16 : Nat) : Int) by simp, show (a : Int) * 16777216 = ((a * 2 ^ 24 : Nat) : Int) by simp]
  rw [w64_nat _ (by omega), w64_nat _ (by omega), w64_nat _ (by omega)]
  rw [join_lo 8 d c (by omega) (by omega) (by omega), join_lo 16 _ b (by omega) (by omega) (by omega), join_lo 24 _ a (by omega) (by omega) (by omega)]
theorem even_eq (h a b c d p : Nat) (ha : a < 256) (hb : b < 256) (hc : c < 256) (hd : d < 256) (hp : p ≤ 31) :
    (((h * 4294967296 + (d + c * 2 ^ 8 + b * 2 ^ 16 + a * 2 ^ 24) : Nat) : Int) % 2 ^ p == bits .and .i64 ((d + c * 2 ^ 8 + b * 2 ^ 16 + a * 2 ^ 24 : Nat) : Int) (2 ^ p - 1)) = true := by
  rw [bits_mask .i64 32 (by decide) wraps32 p (by omega) _ (by omega) (by omega)]
  obtain ⟨k, hk⟩ : ∃ k : Int, (4294967296 : Int) = 2 ^ p * k := ⟨2 ^ (32 - p), by rw [← Int.pow_add, show p + (32 - p) = 32 by omega]; rfl⟩
  simp only [beq_iff_eq]
  rw [Int.natCast_add, Int.natCast_mul, show ((4294967296 : Nat) : Int) = 2 ^ p * k from hk, Int.add_comm, ← Int.mul_assoc, Int.mul_comm (h : Int), Int.mul_assoc, Int.add_mul_emod_self_left]
theorem nm8 (F : Nat → UInt8) : nm ((List.range 8).map F) = ((((F 0).toNat * 256 + (F 1).toNat) * 256 + (F 2).toNat) * 256 + (F 3).toNat) * 4294967296 + ((F 7).toNat + (F 6).toNat * 2 ^ 8 + (F 5).toNat * 2 ^ 16 + (F 4).toNat * 2 ^ 24) := by
  simp only [List.range, List.range.loop, List.map, nm, List.foldl]
  omega
set_option maxRecDepth 30000 in
set_option maxHeartbeats 1000000 in
theorem even_law (F : Nat → UInt8) (p : Nat) (w : World) (hp : p ≤ 255) :
    Calls Try.prog 5 #[.agg (arrL 8 (fun j => byteV (F j))).toArray, .int .u8 p] w fun e w' => e = .returned (.bool true) ∧ Below w.heap.size w w' := by
  have hb0 : Below w.heap.size w (w.alloc (.cells (arrL 8 fun j => byteV (F j)).toArray 44)) := (Below.refl _ _).alloc (Nat.le_refl _) _
  have r0 : (w.alloc (.cells (arrL 8 fun j => byteV (F j)).toArray 44)).rowIs w.heap.size 44 8 (fun j => byteV (F j)) := rowIs_of_block (heap_at_alloc w _)
  by_cases h31 : 31 < p
  · have hI : (31 : Int) < (p : Int) := by omega
    go_enter Try.func5, Try.ntmps5
    obtain ⟨w0, hw0⟩ : ∃ w0, w.alloc (.cells (arrL 8 fun j => byteV (F j)).toArray 44) = w0 := ⟨_, rfl⟩
    rw [hw0] at hb0 r0
    go_wp2_with fail
    refine (awake_prog w0).mono ?_
    rintro e w1 ⟨rfl, hb1⟩
    clear hw0
    go_wp2_with fail
    go_ret
    exact ⟨rfl, hb0.trans (hb1.mono hb0.size)⟩
  · have hI : ¬ (31 : Int) < (p : Int) := by omega
    obtain ⟨Q, hQ⟩ : ∃ Q : Int, Q = 2 ^ p := ⟨_, rfl⟩
    obtain ⟨hQ0, hQ1⟩ : 1 ≤ Q ∧ Q ≤ 2147483648 := by rw [hQ]; exact pow_fits ⟨p, by omega⟩
    have hp31 : Hid (p ≤ 31) := Lib.hid (by omega)
    have hwr : wrap64 (2 ^ p) = Q := by
      rw [← hQ]; unfold wrap64; omega
    have hQA : ¬ blArg Q := fun h => by rcases h with h | h <;> omega
    have HQ := Lib.hid hQ
    clear hQ
    go_enter Try.func5, Try.ntmps5
    obtain ⟨w0, hw0⟩ : ∃ w0, w.alloc (.cells (arrL 8 fun j => byteV (F j)).toArray 44) = w0 := ⟨_, rfl⟩
    rw [hw0] at hb0 r0
    go_wp2_with fail
    refine (awake_prog w0).mono ?_
    rintro e w1 ⟨rfl, hb1⟩
    clear hw0
    have hsz : w.heap.size < w0.heap.size := by have := r0.lt; exact this
    have r1 : w1.rowIs w.heap.size 44 8 (fun j => byteV (F j)) := r0.of_block (hb1.block _ hsz)
    have hblk := rowIs_block r1
    have hcells : arrL 8 (fun j => byteV (F j)) = ((List.range 8).map F).map byteV := by simp [arrL]
    rw [hcells] at hblk
    have hcv := run_string_row (src := 42) (dst := 9) Try.underlying42 Try.underlying5 Try.underlying9 w.heap.size 8 _ (P := Try.prog) (e := 5) (w := w1) hblk
    rw [List.length_map, List.length_range] at hcv
    obtain ⟨X, hX⟩ : ∃ X, X = (⟨((List.range 8).map F).toArray⟩ : ByteArray) := ⟨_, rfl⟩
    rw [← hX] at hcv
    have hXs : X.size = 8 := by rw [hX]; show (List.map F (List.range 8)).toArray.size = _; simp
    have HX := Lib.hid hX
    have HXS := Lib.hid hXs
    clear hblk hcells hX hXs
    go_wp2_with fail
    refine (new_prog X w1 (by rw [HXS.out]; omega)).mono ?_
    rintro e w2 ⟨b, rfl, hb, ht, hw2⟩
    go_wp2_with fail
    have hE := Lib.hid (bl_ok (s := X) (a := 0) (m := Q) hQA (by rw [HXS.out]; omega))
    have HB := Lib.hid (below_prog (w := w2) (b := b) Q ht (by omega) (by rw [HXS.out]; omega))
    rw [hE.out.1, hE.out.2.1, hE.out.2.2] at HB
    refine HB.out.mono ?_
    rintro e w3 ⟨rfl, hw3, _⟩
    have hs1 := hb1.size
    have hbb : b ≠ w.heap.size := by omega
    have r2 : w2.rowIs w.heap.size 44 8 (fun j => byteV (F j)) := r1.of_block (hw2.block _ (by omega))
    have r3 : w3.rowIs w.heap.size 44 8 (fun j => byteV (F j)) := r2.of_block (hw3.block _ (by have := hw2.size; omega) (Ne.symm hbb))
    have c4 : w3.cell? ⟨w.heap.size, 4, none⟩ = some (.int .u8 ((F 4).toNat : Int)) := r3.cell (i := 4) (by omega)
    have c5 : w3.cell? ⟨w.heap.size, 5, none⟩ = some (.int .u8 ((F 5).toNat : Int)) := r3.cell (i := 5) (by omega)
    have c6 : w3.cell? ⟨w.heap.size, 6, none⟩ = some (.int .u8 ((F 6).toNat : Int)) := r3.cell (i := 6) (by omega)
    have c7 : w3.cell? ⟨w.heap.size, 7, none⟩ = some (.int .u8 ((F 7).toNat : Int)) := r3.cell (i := 7) (by omega)
    go_wp2_with fail
    go_ret
    refine ⟨?_, ?_⟩
    · have h1 : nm (List.take 8 X.data.toList) = nm ((List.range 8).map F) := by
        rw [HX.out]
        rw [List.take_of_length_le (by simp)]
      rw [h1, low_eq _ _ _ _ (F 4).toNat_lt (F 5).toNat_lt (F 6).toNat_lt (F 7).toNat_lt, HQ.out, nm8, even_eq _ _ _ _ _ _ (F 4).toNat_lt (F 5).toNat_lt (F 6).toNat_lt (F 7).toNat_lt hp31.out]
      rfl
    · exact (hb0.trans (hb1.mono hb0.size)).trans ((hw2.trans (hw3.below hb (hw2.size))).mono (by have := hb0.size; omega))
end Go.Proofs.Ytndpdledhjdfeaa
