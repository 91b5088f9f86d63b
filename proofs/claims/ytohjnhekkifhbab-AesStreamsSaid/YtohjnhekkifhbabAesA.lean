/- The program's small functions of aes: the box, double, a block of a text. -/
import Derived.Test.YtohjnhekkifhbabChecked
import Derived.Test.YtohjnhekkifhbabLib2
import Derived.Test.YtohjnhekkifhbabAesSpec
import Derived.Laws.Tables
namespace Go.Proofs.Ytohjnhekkifhbab
open Go.RowKit

theorem Try.bytesSl : Sl Try.prog 29 5 (.int .u8 0) 1 := ⟨Try.underlying29, by kernel_rfl, rfl⟩

theorem bits_xor8 (a b : UInt8) : bits BinOp.xor IntKind.u8 (a.toNat : Int) (b.toNat : Int) = ((a ^^^ b).toNat : Int) := by
  have := a.toNat_lt; have := b.toNat_lt
  unfold bits
  have e : ∀ n : Nat, n < 256 → (BitVec.ofInt IntKind.u8.bits (n : Int)).toNat = n := by
    intro n hn; show (BitVec.ofInt 8 (n : Int)).toNat = n
    rw [BitVec.ofInt_natCast, BitVec.toNat_ofNat]; omega
  have h : (BitVec.ofInt IntKind.u8.bits (a.toNat : Int) ^^^ BitVec.ofInt IntKind.u8.bits (b.toNat : Int)).toNat = a.toNat ^^^ b.toNat := by
    rw [BitVec.toNat_xor, e _ (by omega), e _ (by omega)]
  have h2 : a.toNat ^^^ b.toNat < 2 ^ 8 := Nat.xor_lt_two_pow (by omega) (by omega)
  simp only [h, IntKind.wrap_u8]
  rw [UInt8.toNat_xor]
  omega
/-- The xor of two bytes, under a name. -/
theorem xname (a b : UInt8) : ∃ x : UInt8, a ^^^ b = x ∧ bits BinOp.xor IntKind.u8 (a.toNat : Int) (b.toNat : Int) = (x.toNat : Int) := ⟨_, rfl, bits_xor8 a b⟩
theorem dname (a : UInt8) : ∃ x : UInt8, dbl a = x := ⟨_, rfl⟩

theorem list_build_arr {P : Program} {w : World} {ops : Array Oper} {rest : List Oper} {o : Oper} {a : Act} {Q : Exit → Act → World → Prop} (hg : o.guard = none) (t : TypeId) (parts : Array (Nat × Operand)) (ho : o.op = .build t parts)
    (cells : Array Value) (hb : P.built t (parts.map fun (i, x) => (i, a.eval x)).toList = some cells)
    (h : wpList P ops Q rest (a.put o.dst (.agg cells)) w) : wpList P ops Q (o :: rest) a w :=
  wpList_build hg t parts ho (by rw [hb]; rfl) (by rw [hb]; exact h)

theorem dbl_bits0 : ∀ x : Nat, x < 256 → bits BinOp.xor IntKind.u8 ((x : Int) * 2 % 256) ((x : Int) / 128 * 27) = ((dbl (UInt8.ofNat x)).toNat : Int) := by decide +kernel
theorem dbl_bits (b : UInt8) : bits BinOp.xor IntKind.u8 ((b.toNat : Int) * 2 % 256) ((b.toNat : Int) / 128 * 27) = ((dbl b).toNat : Int) := by
  have := dbl_bits0 b.toNat b.toNat_lt
  rwa [UInt8.ofNat_toNat] at this

set_option maxHeartbeats 400000 in
theorem double_prog (b : UInt8) (w : World) :
    Calls Try.prog 28 #[.int .u8 (b.toNat : Int)] w fun e w' => e = .returned (byteV (dbl b)) ∧ w' = w := by
  have h := b.toNat_lt
  have HE := Lib.hid (dbl_bits b)
  go_enter Try.func28, Try.ntmps28
  go_wp2
  go_ret
  exact ⟨by unfold byteV; rw [← HE.out]; rfl, rfl⟩

set_option maxRecDepth 100000 in
theorem zero_box (W : World) : (zeroValue 41).run Try.prog W = .ok (.agg (arrL 256 (fun _ => byteV 0)).toArray) W := by kernel_rfl
set_option maxRecDepth 100000 in
theorem zero_sched (W : World) : (zeroValue 47).run Try.prog W = .ok (.agg (arrL 432 (fun _ => byteV 0)).toArray) W := by kernel_rfl
theorem zero_blk (W : World) : (zeroValue 35).run Try.prog W = .ok (.agg (arrL 16 (fun _ => byteV 0)).toArray) W := by kernel_rfl

set_option maxRecDepth 100000 in
set_option maxHeartbeats 2000000 in
theorem boxBytes_prog (w : World) :
    Calls Try.prog 18 #[] w fun e w' => e = .returned (.agg (arrL 256 (fun j => byteV (boxL.getD j 0))).toArray) ∧ Below w.heap.size w w' := by
  have hz := zero_box
  go_enter Try.func18, Try.ntmps18
  go_wp2_with (first
    | (refine list_build_arr rfl _ _ rfl (arrL 256 (fun j => byteV (boxL.getD j 0))).toArray (by kernel_rfl) ?_)
    | (refine list_store_arr (ty := 41) (n := 256) (by kernel_rfl) rfl _ _ rfl w.heap.size 41 (fun _ => byteV 0) _ rfl rfl (rowIs_of_block (heap_at_alloc w _)) (fun _ => rfl) ?_))
  intro w1 hr1 ho1
  go_wp2
  refine ret_arr rfl Try.underlying41 (by kernel_rfl) rfl hr1 rfl ⟨rfl, ?_⟩
  exact ((Below.refl _ _).alloc (Nat.le_refl _) _).trans (ho1.below (Nat.le_refl _) (by simp))

/-- The bytes of a text, by their places. -/
def blk (s : ByteArray) (j : Nat) : UInt8 := s.data[j]?.getD 0

set_option maxRecDepth 100000 in
set_option maxHeartbeats 2000000 in
theorem blockOf_prog (s : ByteArray) (w : World) (hs : s.size = 16) :
    Calls Try.prog 22 #[.string s] w fun e w' => e = .returned (.agg (arrL 16 (fun j => byteV (blk s j))).toArray) ∧ Below w.heap.size w w' := by
  have HS := Lib.hid hs
  clear hs
  go_enter Try.func22, Try.ntmps22
  go_wp2_with (first
    | (refine list_copy_str (e := 5) Try.underlying29 (by kernel_rfl) rfl _ _ rfl (w.heap.size + 1) 16 rfl s rfl 35 (fun _ => .int .u8 0) ?_ ?_))
  · refine rowIs_of_block ?_
    rw [heap_alloc2_new]; rfl
  intro w1 hr1 ho1
  have hr0 : ((w.alloc (.cells (arrL 16 (fun _ => byteV 0)).toArray 35)).alloc (.cells (arrL 16 (fun _ => byteV 0)).toArray 35)).rowIs w.heap.size 35 16 (fun _ => byteV 0) := by
    refine rowIs_of_block ?_
    rw [heap_alloc2_old]
  have hr2 := ho1.row hr0 (by omega)
  have hb0 : Below w.heap.size w ((w.alloc (.cells (arrL 16 (fun _ => byteV 0)).toArray 35)).alloc (.cells (arrL 16 (fun _ => byteV 0)).toArray 35)) := ((Below.refl _ _).alloc (Nat.le_refl _) _).alloc (by simp) _
  have hb1 : Below w.heap.size w w1 := hb0.trans (ho1.below (by omega) (by simp; omega))
  have hr3 : w1.rowIs (w.heap.size + 1) 35 16 (fun j => byteV (blk s j)) := hr1.congr (fun j hj => by rw [if_pos (by rw [HS.out]; exact hj)]; rfl)
  clear hr0 hr1 ho1 hb0
  go_wp2_with (first
    | (refine list_load_arr Try.underlying35 (by kernel_rfl) rfl _ rfl (w.heap.size + 1) 35 _ rfl hr3 ?_)
    | (refine list_store_arr (ty := 35) (n := 16) (by kernel_rfl) rfl _ _ rfl w.heap.size 35 _ _ rfl rfl hr2 (fun _ => rfl) ?_))
  intro w5 hr5 ho5
  go_wp2
  refine ret_arr rfl Try.underlying35 (by kernel_rfl) rfl hr5 rfl ⟨rfl, ?_⟩
  exact hb1.trans (ho5.below (Nat.le_refl _) hb1.size)
end Go.Proofs.Ytohjnhekkifhbab
