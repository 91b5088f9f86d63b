/- disk: a disk in memory; New, Down, Waits, step, Fuel, Read. -/
import Derived.Test.YtfocljmjejniiaaDRow
import Derived.Test.YtfocljmjejniiaaChecked
import Derived.Laws.Rows
import Derived.Laws.LoneSync
import Derived.Deep.RegionHeld3
import Derived.Deep.QuietTactic
import Derived.BigQuiet
namespace Go.Proofs.Ytfocljmjejniiaa
open Go.RowKit

/-- Block b is a disk: its bytes T (as the slice v), n of them sure; down; limited, with k steps left. -/
def Dk (w : World) (b : Nat) (v : Value) (T : ByteArray) (n : Nat) (dn lim : Bool) (k : Nat) : Prop :=
  w.heap[b]? = some (.cells #[v, .int .i64 n, .bool dn, .bool lim, .int .i64 k] 54 (0, 0)) ∧ BRow w 5 v T ∧ v.ownBlock ≠ some b
/-- From w to w' the disk b alone has turned, with the block of its bytes; these lie now in v', where they lay, or in a new block. -/
structure Ch (b : Nat) (v : Value) (w w' : World) (v' : Value) : Prop where
  os : w'.os = w.os
  tape : w'.tape = w.tape
  output : w'.output = w.output
  size : w.heap.size ≤ w'.heap.size
  block : ∀ j, j < w.heap.size → j ≠ b → v.ownBlock ≠ some j → w'.heap[j]? = w.heap[j]?
  loc : ∀ j, v'.ownBlock = some j → v.ownBlock = some j ∨ w.heap.size ≤ j
theorem Ch.refl (b : Nat) (v : Value) (w : World) : Ch b v w w v := ⟨rfl, rfl, rfl, Nat.le_refl _, fun _ _ _ _ => rfl, fun _ h => .inl h⟩
theorem Ch.ofBelow {b : Nat} {w w' : World} (v : Value) (h : Below w.heap.size w w') : Ch b v w w' v := ⟨h.os, h.tape, h.output, h.size, fun j hj _ _ => h.block j hj, fun _ h => .inl h⟩
theorem Ch.trans {b : Nat} {v1 v2 v3 : Value} {w1 w2 w3 : World} (h : Ch b v1 w1 w2 v2) (k : Ch b v2 w2 w3 v3) : Ch b v1 w1 w3 v3 :=
  ⟨k.os.trans h.os, k.tape.trans h.tape, k.output.trans h.output, Nat.le_trans h.size k.size,
   fun j hj h1 h2 => (k.block j (Nat.lt_of_lt_of_le hj h.size) h1 (fun e => by
     rcases h.loc j e with e2 | e2
     · exact h2 e2
     · omega)).trans (h.block j hj h1 h2),
   fun j hj => by
     rcases k.loc j hj with e | e
     · exact h.loc j e
     · exact .inr (Nat.le_trans h.size e)⟩
theorem Ch.set (b o : Nat) (v : Value) (w : World) (x : Value) : Ch b v w (w.setCell ⟨b, o, none⟩ x) v :=
  ⟨rfl, rfl, rfl, by simp, fun j _ hn _ => heap_setCell_other w ⟨b, o, none⟩ j x hn, fun _ h => .inl h⟩
theorem Ch.below {b B : Nat} {v v' : Value} {w w' : World} (h : Ch b v w w' v') (hB : B ≤ b) (hv : ∀ j, v.ownBlock = some j → B ≤ j) (hw : B ≤ w.heap.size) : Below B w w' :=
  ⟨h.os, h.tape, h.output, h.size, fun j hj => h.block j (by omega) (by omega) (fun e => by have := hv j e; omega)⟩
theorem Ch.low {b B : Nat} {v v' : Value} {w w' : World} (h : Ch b v w w' v') (hv : ∀ j, v.ownBlock = some j → B ≤ j) (hw : B ≤ w.heap.size) : ∀ j, v'.ownBlock = some j → B ≤ j := fun j hj => by
  rcases h.loc j hj with e | e
  · exact hv j e
  · omega

section
variable {w w' : World} {b n k : Nat} {v : Value} {T : ByteArray} {dn lim : Bool}
theorem Dk.lt (h : Dk w b v T n dn lim k) : b < w.heap.size := (Array.getElem?_eq_some_iff.1 h.1).1
theorem Dk.cells (h : Dk w b v T n dn lim k) : w.cell? ⟨b, 0, none⟩ = some v ∧ w.cell? ⟨b, 1, none⟩ = some (.int .i64 n) ∧ w.cell? ⟨b, 2, none⟩ = some (.bool dn) ∧ w.cell? ⟨b, 3, none⟩ = some (.bool lim) ∧ w.cell? ⟨b, 4, none⟩ = some (.int .i64 k) := by
  have h1 := h.1
  simp [World.cell?, h1]
theorem Dk.free (h : Dk w b v T n dn lim k) : w.frozen? ⟨b, 0, none⟩ = false ∧ w.frozen? ⟨b, 1, none⟩ = false ∧ w.frozen? ⟨b, 2, none⟩ = false ∧ w.frozen? ⟨b, 3, none⟩ = false ∧ w.frozen? ⟨b, 4, none⟩ = false := by
  have h1 := h.1
  simp [World.frozen?, h1]
theorem Dk.drewN (h : Dk w b v T n dn lim k) (m : Nat) : Dk (w.drewN m) b v T n dn lim k := ⟨h.1, h.2.1.keep fun _ _ => rfl, h.2.2⟩
theorem Dk.keep (h : Dk w b v T n dn lim k) (hb : w'.heap[b]? = w.heap[b]?) (hv : ∀ j, v.ownBlock = some j → w'.heap[j]? = w.heap[j]?) : Dk w' b v T n dn lim k :=
  ⟨by rw [hb]; exact h.1, h.2.1.keep hv, h.2.2⟩
theorem Dk.later (h : Dk w b v T n dn lim k) (hb : Below w.heap.size w w') : Dk w' b v T n dn lim k :=
  h.keep (hb.block b h.lt) (fun j hj => hb.block j (h.2.1.lt j hj))
theorem Dk.set1 (h : Dk w b v T n dn lim k) (x : Nat) : Dk (w.setCell ⟨b, 1, none⟩ (.int .i64 x)) b v T x dn lim k :=
  ⟨heap_setCell_same w b 1 _ _ _ h.1, h.2.1.keep fun j hj => heap_setCell_other w ⟨b, 1, none⟩ j _ (fun e => h.2.2 (by rw [hj, e])), h.2.2⟩
theorem Dk.set2 (h : Dk w b v T n dn lim k) (x : Bool) : Dk (w.setCell ⟨b, 2, none⟩ (.bool x)) b v T n x lim k :=
  ⟨heap_setCell_same w b 2 _ _ _ h.1, h.2.1.keep fun j hj => heap_setCell_other w ⟨b, 2, none⟩ j _ (fun e => h.2.2 (by rw [hj, e])), h.2.2⟩
theorem Dk.set3 (h : Dk w b v T n dn lim k) (x : Bool) : Dk (w.setCell ⟨b, 3, none⟩ (.bool x)) b v T n dn x k :=
  ⟨heap_setCell_same w b 3 _ _ _ h.1, h.2.1.keep fun j hj => heap_setCell_other w ⟨b, 3, none⟩ j _ (fun e => h.2.2 (by rw [hj, e])), h.2.2⟩
theorem Dk.set4 (h : Dk w b v T n dn lim k) (x : Nat) : Dk (w.setCell ⟨b, 4, none⟩ (.int .i64 x)) b v T n dn lim x :=
  ⟨heap_setCell_same w b 4 _ _ _ h.1, h.2.1.keep fun j hj => heap_setCell_other w ⟨b, 4, none⟩ j _ (fun e => h.2.2 (by rw [hj, e])), h.2.2⟩
theorem Dk.set0 (h : Dk w b v T n dn lim k) {v' : Value} {T' : ByteArray} (hr : BRow w 5 v' T') (hne : v'.ownBlock ≠ some b) : Dk (w.setCell ⟨b, 0, none⟩ v') b v' T' n dn lim k :=
  ⟨heap_setCell_same w b 0 _ _ _ h.1, hr.keep fun j hj => heap_setCell_other w ⟨b, 0, none⟩ j _ (fun e => hne (by rw [hj, e])), hne⟩
end

theorem new_prog (w : World) : Calls Try.prog 6 #[] w fun e w' => e = .returned (.pointer (some ⟨w.heap.size, 0, none⟩)) ∧ Dk w' w.heap.size (.slice none 0 0) ⟨#[]⟩ 0 false false 0 ∧ Below w.heap.size w w' := by
  go_enter Try.func6, Try.ntmps6
  go_wp2_with fail
  go_ret
  exact ⟨rfl, ⟨heap_alloc_new _ _, .inl ⟨rfl, rfl⟩, fun h => by cases h⟩, (Below.refl _ _).alloc (Nat.le_refl _) _⟩

section
variable {w : World} {b n k : Nat} {v : Value} {T : ByteArray} {dn lim : Bool}
theorem down_prog (h : Dk w b v T n dn lim k) : Calls Try.prog 34 #[.pointer (some ⟨b, 0, none⟩)] w fun e w' => e = .returned (.bool dn) ∧ w' = w := by
  obtain ⟨c0, c1, c2, c3, c4⟩ := h.cells
  go_enter Try.func34, Try.ntmps34
  go_wp2_with fail
  go_ret
  exact ⟨rfl, rfl⟩
theorem waits_prog (h : Dk w b v T n dn lim k) (hn : n ≤ T.size) (hT : T.size ≤ 100000) : Calls Try.prog 20 #[.pointer (some ⟨b, 0, none⟩)] w fun e w' => e = .returned (.int .i64 ((T.size : Int) - (n : Int))) ∧ Same w w' := by
  obtain ⟨c0, c1, c2, c3, c4⟩ := h.cells
  obtain ⟨a, cap, rfl, hcap, _⟩ := h.2.1.shape
  have hnI : (n : Int) ≤ (T.size : Int) := by omega
  have hTI : (T.size : Int) ≤ 100000 := by omega
  have hn0 : (0 : Int) ≤ (n : Int) := by omega
  clear h hn hT
  go_enter Try.func20, Try.ntmps20
  go_wp2_with fail
  go_quiet (fail)
  go_wp2_with fail
  go_ret
  exact ⟨rfl, _, rfl⟩
theorem read_prog (h : Dk w b v T n dn lim k) : Calls Try.prog 18 #[.pointer (some ⟨b, 0, none⟩)] w fun e w' => e = .returned (.tuple #[.string (if dn then ⟨#[]⟩ else T), .int .i64 (if dn then 3 else 0)]) ∧ w' = w := by
  obtain ⟨c0, c1, c2, c3, c4⟩ := h.cells
  have H := Lib.hid (down_prog h)
  have hst := str_of (P := Try.prog) Try.underlying52 Try.underlying5 Try.underlying9 h.2.1
  obtain ⟨a, cap, rfl, hcap, _⟩ := h.2.1.shape
  cases dn
  · simp only [Bool.false_eq_true, if_false]
    go_enter Try.func18, Try.ntmps18
    go_wp2_with fail
    refine H.out.mono ?_
    rintro e w1 ⟨rfl, rfl⟩
    go_wp2_with fail
    go_ret2
    exact ⟨rfl, rfl⟩
  · simp only [if_true]
    go_enter Try.func18, Try.ntmps18
    go_wp2_with fail
    refine H.out.mono ?_
    rintro e w1 ⟨rfl, rfl⟩
    go_wp2_with fail
    go_ret2
    exact ⟨rfl, rfl⟩
end
end Go.Proofs.Ytfocljmjejniiaa
