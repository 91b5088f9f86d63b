/- Headers in memory: cells, stores, results. -/
import Derived.Test.YtpkkdjmcabefbaaDoorEPure
import Derived.Test.YtpkkdjmcabefbaaDoorDCodW
import Derived.Test.YtpkkdjmcabefbaaDoorDBase
namespace Go.Proofs.YtpkkdjmcabefbaaDoor
open Go.RowKit
open Cod (F Nd nodeL nodeV KidsAt)

def hdV (h : Hd) : Value := .agg #[.int .u64 h.shard, .int .u64 h.seq, .string h.prev, .string h.root, .int .u64 h.who, .int .u64 h.stamp]
def sgV (s : Sg) : Value := .agg #[.int .u64 s.h.shard, .int .u64 s.h.seq, .string s.h.prev, .string s.h.root, .int .u64 s.h.who, .int .u64 s.h.stamp, .string s.mac]
def sgC (s : Sg) : Array Value := #[.int .u64 s.h.shard, .int .u64 s.h.seq, .string s.h.prev, .string s.h.root, .int .u64 s.h.who, .int .u64 s.h.stamp, .string s.mac]
theorem block_lt {w : World} {g : Nat} {o : Obj} (h : w.heap[g]? = some o) : g < w.heap.size := (Array.getElem?_eq_some_iff.1 h).1
theorem cells6 {w : World} {G : Nat} {a0 a1 a2 a3 a4 a5 : Value} {ty : TypeId} (h : w.heap[G]? = some (.cells #[a0, a1, a2, a3, a4, a5] ty (0, 0))) :
    w.cell? ⟨G, 0, none⟩ = some a0 ∧ w.cell? ⟨G, 1, none⟩ = some a1 ∧ w.cell? ⟨G, 2, none⟩ = some a2 ∧ w.cell? ⟨G, 3, none⟩ = some a3 ∧ w.cell? ⟨G, 4, none⟩ = some a4 ∧ w.cell? ⟨G, 5, none⟩ = some a5 := by
  simp [World.cell?, h]
theorem cells6A {w : World} {G : Nat} {a0 a1 a2 a3 a4 a5 : Value} {ty : TypeId} (h : w.heap[G]? = some (.cells #[a0, a1, a2, a3, a4, a5] ty (0, 0))) (o : Obj) :
    (w.alloc o).cell? ⟨G, 0, none⟩ = some a0 ∧ (w.alloc o).cell? ⟨G, 1, none⟩ = some a1 ∧ (w.alloc o).cell? ⟨G, 2, none⟩ = some a2 ∧ (w.alloc o).cell? ⟨G, 3, none⟩ = some a3 ∧ (w.alloc o).cell? ⟨G, 4, none⟩ = some a4 ∧ (w.alloc o).cell? ⟨G, 5, none⟩ = some a5 :=
  cells6 (ty := ty) ((Below.heap_alloc _ _ _ (block_lt h)).trans h)
theorem cells7 {w : World} {G : Nat} {a0 a1 a2 a3 a4 a5 a6 : Value} {ty : TypeId} (h : w.heap[G]? = some (.cells #[a0, a1, a2, a3, a4, a5, a6] ty (0, 0))) :
    w.cell? ⟨G, 0, none⟩ = some a0 ∧ w.cell? ⟨G, 1, none⟩ = some a1 ∧ w.cell? ⟨G, 2, none⟩ = some a2 ∧ w.cell? ⟨G, 3, none⟩ = some a3 ∧ w.cell? ⟨G, 4, none⟩ = some a4 ∧ w.cell? ⟨G, 5, none⟩ = some a5 ∧ w.cell? ⟨G, 6, none⟩ = some a6 := by
  simp [World.cell?, h]
theorem free7 {w : World} {G : Nat} {cs : Array Value} {ty : TypeId} (h : w.heap[G]? = some (.cells cs ty (0, 0))) :
    w.frozen? ⟨G, 0, none⟩ = false ∧ w.frozen? ⟨G, 1, none⟩ = false ∧ w.frozen? ⟨G, 2, none⟩ = false ∧ w.frozen? ⟨G, 3, none⟩ = false ∧ w.frozen? ⟨G, 4, none⟩ = false ∧ w.frozen? ⟨G, 5, none⟩ = false ∧ w.frozen? ⟨G, 6, none⟩ = false := by
  simp [World.frozen?, h]
def set7 (w : World) (G : Nat) (b0 b1 b2 b3 b4 b5 b6 : Value) : World :=
  ((((((w.setCell ⟨G, 0, none⟩ b0).setCell ⟨G, 1, none⟩ b1).setCell ⟨G, 2, none⟩ b2).setCell ⟨G, 3, none⟩ b3).setCell ⟨G, 4, none⟩ b4).setCell ⟨G, 5, none⟩ b5).setCell ⟨G, 6, none⟩ b6
theorem set7_heap {w : World} {G : Nat} {a0 a1 a2 a3 a4 a5 a6 : Value} {ty : TypeId} (h : w.heap[G]? = some (.cells #[a0, a1, a2, a3, a4, a5, a6] ty (0, 0))) (b0 b1 b2 b3 b4 b5 b6 : Value) :
    (set7 w G b0 b1 b2 b3 b4 b5 b6).heap[G]? = some (.cells #[b0, b1, b2, b3, b4, b5, b6] ty (0, 0)) := by
  have h0 := heap_setCell_same w G 0 _ _ b0 h
  have h1 := heap_setCell_same _ G 1 _ _ b1 h0
  have h2 := heap_setCell_same _ G 2 _ _ b2 h1
  have h3 := heap_setCell_same _ G 3 _ _ b3 h2
  have h4 := heap_setCell_same _ G 4 _ _ b4 h3
  have h5 := heap_setCell_same _ G 5 _ _ b5 h4
  have h6 := heap_setCell_same _ G 6 _ _ b6 h5
  simpa [set7] using h6
theorem set7_below {w : World} {G B : Nat} (hB : B ≤ G) (b0 b1 b2 b3 b4 b5 b6 : Value) : Below B w (set7 w G b0 b1 b2 b3 b4 b5 b6) :=
  ((((((((Below.refl B w).setCell hB _).setCell hB _).setCell hB _).setCell hB _).setCell hB _).setCell hB _).setCell hB _)
theorem set7_other (w : World) (G : Nat) (b0 b1 b2 b3 b4 b5 b6 : Value) (j : Nat) (hj : j ≠ G) : (set7 w G b0 b1 b2 b3 b4 b5 b6).heap[j]? = w.heap[j]? := by
  unfold set7
  rw [heap_setCell_other _ ⟨G, 6, none⟩ j _ hj, heap_setCell_other _ ⟨G, 5, none⟩ j _ hj, heap_setCell_other _ ⟨G, 4, none⟩ j _ hj, heap_setCell_other _ ⟨G, 3, none⟩ j _ hj, heap_setCell_other _ ⟨G, 2, none⟩ j _ hj, heap_setCell_other _ ⟨G, 1, none⟩ j _ hj, heap_setCell_other _ ⟨G, 0, none⟩ j _ hj]
theorem cells_map (n : Nat) (R : List UInt8) (F : Nat → UInt8) (hl : R.length = n) (h : ∀ j, j < n → R.getD j 0 = F j) : arrL n (fun j => byteV (F j)) = R.map byteV := by
  apply List.ext_getElem (by rw [arrL_length, List.length_map, hl])
  intro j h1 h2
  have hj : j < n := by simpa [arrL] using h1
  have h3 := h j hj
  have h4 : j < R.length := by rw [hl]; exact hj
  simp only [List.getD, List.getElem?_eq_getElem h4, Option.getD_some] at h3
  simp [arrL, h3]
theorem str_beq (a b : ByteArray) : (a.toList == b.toList) = decide (a = b) := by
  by_cases h : a = b
  · subst h; simp
  · rw [decide_eq_false h, beq_eq_false_iff_ne]
    intro e
    rw [ByteArray.toList_eq, ByteArray.toList_eq] at e
    exact h (ByteArray.ext (Array.toList_inj.1 e))
theorem str_beq' (a b : ByteArray) : (a.toList == b.toList) = decide (b = a) := by rw [str_beq]; exact decide_eq_decide.2 eq_comm
theorem cells6S {w : World} {G B : Nat} {a0 a1 a2 a3 a4 a5 : Value} {ty : TypeId} (h : w.heap[G]? = some (.cells #[a0, a1, a2, a3, a4, a5] ty (0, 0))) (hne : G ≠ B) (b0 b1 b2 b3 b4 b5 b6 : Value) :
    (((((((w.setCell ⟨B, 0, none⟩ b0).setCell ⟨B, 1, none⟩ b1).setCell ⟨B, 2, none⟩ b2).setCell ⟨B, 3, none⟩ b3).setCell ⟨B, 4, none⟩ b4).setCell ⟨B, 5, none⟩ b5).setCell ⟨B, 6, none⟩ b6).cell? ⟨G, 0, none⟩ = some a0 ∧ (((((((w.setCell ⟨B, 0, none⟩ b0).setCell ⟨B, 1, none⟩ b1).setCell ⟨B, 2, none⟩ b2).setCell ⟨B, 3, none⟩ b3).setCell ⟨B, 4, none⟩ b4).setCell ⟨B, 5, none⟩ b5).setCell ⟨B, 6, none⟩ b6).cell? ⟨G, 1, none⟩ = some a1 ∧ (((((((w.setCell ⟨B, 0, none⟩ b0).setCell ⟨B, 1, none⟩ b1).setCell ⟨B, 2, none⟩ b2).setCell ⟨B, 3, none⟩ b3).setCell ⟨B, 4, none⟩ b4).setCell ⟨B, 5, none⟩ b5).setCell ⟨B, 6, none⟩ b6).cell? ⟨G, 2, none⟩ = some a2 ∧ (((((((w.setCell ⟨B, 0, none⟩ b0).setCell ⟨B, 1, none⟩ b1).setCell ⟨B, 2, none⟩ b2).setCell ⟨B, 3, none⟩ b3).setCell ⟨B, 4, none⟩ b4).setCell ⟨B, 5, none⟩ b5).setCell ⟨B, 6, none⟩ b6).cell? ⟨G, 3, none⟩ = some a3 ∧ (((((((w.setCell ⟨B, 0, none⟩ b0).setCell ⟨B, 1, none⟩ b1).setCell ⟨B, 2, none⟩ b2).setCell ⟨B, 3, none⟩ b3).setCell ⟨B, 4, none⟩ b4).setCell ⟨B, 5, none⟩ b5).setCell ⟨B, 6, none⟩ b6).cell? ⟨G, 4, none⟩ = some a4 ∧ (((((((w.setCell ⟨B, 0, none⟩ b0).setCell ⟨B, 1, none⟩ b1).setCell ⟨B, 2, none⟩ b2).setCell ⟨B, 3, none⟩ b3).setCell ⟨B, 4, none⟩ b4).setCell ⟨B, 5, none⟩ b5).setCell ⟨B, 6, none⟩ b6).cell? ⟨G, 5, none⟩ = some a5 :=
  cells6 (ty := ty) ((set7_other w B b0 b1 b2 b3 b4 b5 b6 G hne).trans h)
theorem cells7S {w : World} {G B : Nat} {a0 a1 a2 a3 a4 a5 a6 : Value} {ty : TypeId} (h : w.heap[G]? = some (.cells #[a0, a1, a2, a3, a4, a5, a6] ty (0, 0))) (hne : G ≠ B) (b0 b1 b2 b3 b4 b5 b6 : Value) :
    (((((((w.setCell ⟨B, 0, none⟩ b0).setCell ⟨B, 1, none⟩ b1).setCell ⟨B, 2, none⟩ b2).setCell ⟨B, 3, none⟩ b3).setCell ⟨B, 4, none⟩ b4).setCell ⟨B, 5, none⟩ b5).setCell ⟨B, 6, none⟩ b6).cell? ⟨G, 0, none⟩ = some a0 ∧ (((((((w.setCell ⟨B, 0, none⟩ b0).setCell ⟨B, 1, none⟩ b1).setCell ⟨B, 2, none⟩ b2).setCell ⟨B, 3, none⟩ b3).setCell ⟨B, 4, none⟩ b4).setCell ⟨B, 5, none⟩ b5).setCell ⟨B, 6, none⟩ b6).cell? ⟨G, 1, none⟩ = some a1 ∧ (((((((w.setCell ⟨B, 0, none⟩ b0).setCell ⟨B, 1, none⟩ b1).setCell ⟨B, 2, none⟩ b2).setCell ⟨B, 3, none⟩ b3).setCell ⟨B, 4, none⟩ b4).setCell ⟨B, 5, none⟩ b5).setCell ⟨B, 6, none⟩ b6).cell? ⟨G, 2, none⟩ = some a2 ∧ (((((((w.setCell ⟨B, 0, none⟩ b0).setCell ⟨B, 1, none⟩ b1).setCell ⟨B, 2, none⟩ b2).setCell ⟨B, 3, none⟩ b3).setCell ⟨B, 4, none⟩ b4).setCell ⟨B, 5, none⟩ b5).setCell ⟨B, 6, none⟩ b6).cell? ⟨G, 3, none⟩ = some a3 ∧ (((((((w.setCell ⟨B, 0, none⟩ b0).setCell ⟨B, 1, none⟩ b1).setCell ⟨B, 2, none⟩ b2).setCell ⟨B, 3, none⟩ b3).setCell ⟨B, 4, none⟩ b4).setCell ⟨B, 5, none⟩ b5).setCell ⟨B, 6, none⟩ b6).cell? ⟨G, 4, none⟩ = some a4 ∧ (((((((w.setCell ⟨B, 0, none⟩ b0).setCell ⟨B, 1, none⟩ b1).setCell ⟨B, 2, none⟩ b2).setCell ⟨B, 3, none⟩ b3).setCell ⟨B, 4, none⟩ b4).setCell ⟨B, 5, none⟩ b5).setCell ⟨B, 6, none⟩ b6).cell? ⟨G, 5, none⟩ = some a5 ∧ (((((((w.setCell ⟨B, 0, none⟩ b0).setCell ⟨B, 1, none⟩ b1).setCell ⟨B, 2, none⟩ b2).setCell ⟨B, 3, none⟩ b3).setCell ⟨B, 4, none⟩ b4).setCell ⟨B, 5, none⟩ b5).setCell ⟨B, 6, none⟩ b6).cell? ⟨G, 6, none⟩ = some a6 :=
  cells7 (ty := ty) ((set7_other w B b0 b1 b2 b3 b4 b5 b6 G hne).trans h)
/-- A call's result that lies in a variable of type Signed, in slot k. -/
theorem results_sg {f : Func} {k : Nat} {tmps : Array Value} {w : World} {H : Nat} {cs : Array Value} (hf : f.results = #[.cell k 35]) (h2 : tmps.getD k undef = .pointer (some ⟨H, 0, none⟩))
    (hg : w.heap[H]? = some (.cells cs 35 (0, 0))) (hs : cs.size = 7) : (results f tmps).run Tryd.prog w = .ok (.agg cs) w := by
  have hi : (Tryd.prog.info? 35).map (·.size) = some cs.size := by rw [hs]; kernel_rfl
  have h3 : tmps[k]?.getD undef = .pointer (some ⟨H, 0, none⟩) := by simpa using h2
  simp only [results, hf]
  simp [h3, asAddr, run_loadVar_row w H 35 35 cs (0, 0) _ hg Tryd.underlying35 rfl hi]
/-- .. and a bool in slot m. -/
theorem results_sgb {f : Func} {k m : Nat} {tmps : Array Value} {w : World} {H : Nat} {cs : Array Value} {b : Bool} (hf : f.results = #[.cell k 35, .tmp m]) (h2 : tmps.getD k undef = .pointer (some ⟨H, 0, none⟩)) (h4 : tmps.getD m undef = .bool b)
    (hg : w.heap[H]? = some (.cells cs 35 (0, 0))) (hs : cs.size = 7) : (results f tmps).run Tryd.prog w = .ok (.tuple #[.agg cs, .bool b]) w := by
  have hi : (Tryd.prog.info? 35).map (·.size) = some cs.size := by rw [hs]; kernel_rfl
  have h3 : tmps[k]?.getD undef = .pointer (some ⟨H, 0, none⟩) := by simpa using h2
  have h5 : tmps[m]?.getD undef = .bool b := by simpa using h4
  simp only [results, hf]
  simp [h3, h5, asAddr, run_loadVar_row w H 35 35 cs (0, 0) _ hg Tryd.underlying35 rfl hi]
end Go.Proofs.YtpkkdjmcabefbaaDoor
