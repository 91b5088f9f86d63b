/- The program: Text of a list of signed headers. -/
import Derived.Test.YtpkkdjmcabefbaaDoorETxR
import Derived.Laws.MakeOwn
namespace Go.Proofs.YtpkkdjmcabefbaaDoor
open Go.RowKit
open Cod (F Nd nodeL nodeV KidsAt CellsOf Grew)
def zeroC : Nat → List Value
  | 0 => []
  | n + 1 => [.int .i64 0, .int .u64 0, .string ⟨#[]⟩, .slice none 0 0] ++ zeroC n
theorem zeroC_len : ∀ n, (zeroC n).length = n * 4
  | 0 => rfl
  | n + 1 => by simp only [zeroC, List.length_append, zeroC_len n, List.length_cons, List.length_nil]; omega
theorem made_zero (n : Nat) : (madeCells (Value.agg #[.int .i64 0, .int .u64 0, .string ⟨#[]⟩, .slice none 0 0]).cells (n * 4)).toList = zeroC n := by
  induction n with
  | zero => simp [madeCells, zeroC]
  | succ n ih =>
    refine List.ext_getElem? fun j => ?_
    have hz : (Value.agg #[.int .i64 0, .int .u64 0, .string ⟨#[]⟩, .slice none 0 0]).cells = #[.int .i64 0, .int .u64 0, .string ⟨#[]⟩, .slice none 0 0] := rfl
    have get : ∀ m j, j < m * 4 → (madeCells (Value.agg #[.int .i64 0, .int .u64 0, .string ⟨#[]⟩, .slice none 0 0]).cells (m * 4)).toList[j]? = #[Value.int .i64 0, .int .u64 0, .string ⟨#[]⟩, .slice none 0 0][j % 4]? := fun m j h => by
      rw [hz]
      simp [madeCells, h]
      have : j % 4 < 4 := Nat.mod_lt _ (by omega)
      rcases (by omega : j % 4 = 0 ∨ j % 4 = 1 ∨ j % 4 = 2 ∨ j % 4 = 3) with h | h | h | h <;> simp [h]
    by_cases hj : j < (n + 1) * 4
    · rw [get _ _ hj, zeroC]
      by_cases h4 : j < 4
      · rw [List.getElem?_append_left (by simpa using h4), Nat.mod_eq_of_lt h4]
        rcases (by omega : j = 0 ∨ j = 1 ∨ j = 2 ∨ j = 3) with h | h | h | h <;> simp [h]
      · rw [List.getElem?_append_right (by simp; omega), ← ih]
        have := get n (j - 4) (by omega)
        simp only [List.length_cons, List.length_nil] at *
        rw [this]
        congr 1; omega
    · rw [List.getElem?_eq_none (by simp [size_madeCells]; omega), List.getElem?_eq_none (by rw [zeroC_len]; omega)]

theorem set_at {A B : List Value} {k i j : Nat} (hA : A.length = k * 4) (hi : i = k * 4 + j) (x : Value) : (A ++ B).set i x = A ++ B.set j x := by
  rw [List.set_append_right _ _ (by omega), show i - A.length = j by omega]
theorem heap_setL {w : World} {G i : Nat} {L L' : List Value} {ty : TypeId} (h : w.heap[G]? = some (.cells L.toArray ty (0, 0))) (x : Value) (e : L.set i x = L') : (w.setCell ⟨G, i, none⟩ x).heap[G]? = some (.cells L'.toArray ty (0, 0)) := by
  have := heap_setCell_same w G i _ _ x h
  rw [this, List.setIfInBounds_toArray, e]
theorem heap_set4L {w : World} {G : Nat} {A : List Value} {b0 b1 b2 b3 : Value} {C : List Value} {ty : TypeId} {k : Nat} (h : w.heap[G]? = some (.cells (A ++ ([b0, b1, b2, b3] ++ C)).toArray ty (0, 0))) (hA : A.length = k * 4) (a0 a1 a2 a3 : Value) :
    ((((w.setCell ⟨G, k * 4, none⟩ a0).setCell ⟨G, k * 4 + 1, none⟩ a1).setCell ⟨G, k * 4 + 2, none⟩ a2).setCell ⟨G, k * 4 + 3, none⟩ a3).heap[G]? = some (.cells ((A ++ [a0, a1, a2, a3]) ++ C).toArray ty (0, 0)) := by
  have h0 := heap_setL h a0 (set_at (i := k * 4) (j := 0) hA (by omega) a0)
  have h1 := heap_setL h0 a1 (set_at (i := k * 4 + 1) (j := 1) hA (by omega) a1)
  have h2 := heap_setL h1 a2 (set_at (i := k * 4 + 2) (j := 2) hA (by omega) a2)
  have h3 := heap_setL h2 a3 (set_at (i := k * 4 + 3) (j := 3) hA (by omega) a3)
  rw [h3, List.append_assoc]
  rfl
theorem cells4L {w : World} {G : Nat} {A : List Value} {b0 b1 b2 b3 : Value} {C : List Value} {ty : TypeId} {k : Nat} (h : w.heap[G]? = some (.cells (A ++ ([b0, b1, b2, b3] ++ C)).toArray ty (0, 0))) (hA : A.length = k * 4) :
    w.cell? ⟨G, k * 4, none⟩ = some b0 ∧ w.cell? ⟨G, k * 4 + 1, none⟩ = some b1 ∧ w.cell? ⟨G, k * 4 + 2, none⟩ = some b2 ∧ w.cell? ⟨G, k * 4 + 3, none⟩ = some b3 ∧ ∀ j, w.frozen? ⟨G, j, none⟩ = false := by
  refine ⟨?_, ?_, ?_, ?_, fun j => by simp [World.frozen?, h]⟩ <;>
  · unfold World.cell?
    simp only [h]
    rw [← hA]
    simp
theorem set4_other {w : World} {G b k : Nat} (hne : b ≠ G) (a0 a1 a2 a3 : Value) :
    ((((w.setCell ⟨G, k * 4, none⟩ a0).setCell ⟨G, k * 4 + 1, none⟩ a1).setCell ⟨G, k * 4 + 2, none⟩ a2).setCell ⟨G, k * 4 + 3, none⟩ a3).heap[b]? = w.heap[b]? := by
  rw [heap_setCell_other _ ⟨G, k * 4 + 3, none⟩ b _ hne, heap_setCell_other _ ⟨G, k * 4 + 2, none⟩ b _ hne, heap_setCell_other _ ⟨G, k * 4 + 1, none⟩ b _ hne, heap_setCell_other _ ⟨G, k * 4, none⟩ b _ hne]
theorem set4_belowN {w : World} {G B k : Nat} (hB : B ≤ G) (a0 a1 a2 a3 : Value) : Below B w ((((w.setCell ⟨G, k * 4, none⟩ a0).setCell ⟨G, k * 4 + 1, none⟩ a1).setCell ⟨G, k * 4 + 2, none⟩ a2).setCell ⟨G, k * 4 + 3, none⟩ a3) :=
  ((((Below.refl B w).setCell hB _).setCell hB _).setCell hB _).setCell hB _
theorem sgsF_snoc : ∀ (l : List Sg) (e : Sg), sgsF (l ++ [e]) = (sgsF l).app (.cons 2 0 ⟨#[]⟩ (sgF e) .nil)
  | [], e => rfl
  | x :: r, e => by rw [List.cons_append, sgsF, sgsF_snoc r e]; rfl
def TxRel (w : World) (l : List Sg) (k : Nat) (wr : World) : Prop :=
  ∃ cs, wr.heap[w.heap.size]? = some (.cells (cs ++ zeroC (l.length - k)).toArray 46 (0, 0)) ∧ CellsOf wr (fun b => w.heap.size + 1 < b ∧ b < wr.heap.size) (sgsF (l.take k)) cs ∧ cs.length = k * 4 ∧ Below w.heap.size w wr ∧ w.heap.size + 1 < wr.heap.size
theorem TxRel.step {w wr w7 : World} {l : List Sg} {k : Nat} {x : Sg} {a : Option Addr} {c : Nat} {B : Nat} (h : TxRel w l k wr) (hx : l[k]? = some x) (hb : Below wr.heap.size wr w7) (hB : wr.heap.size ≤ B)
    (hk : KidsAt w7 (fun b => B ≤ b ∧ b < w7.heap.size) (sgF x) (.slice a 7 c)) :
    TxRel w l (k + 1) ((((w7.setCell ⟨w.heap.size, k * 4, none⟩ (.int .i64 2)).setCell ⟨w.heap.size, k * 4 + 1, none⟩ (.int .u64 0)).setCell ⟨w.heap.size, k * 4 + 2, none⟩ (.string ⟨#[]⟩)).setCell ⟨w.heap.size, k * 4 + 3, none⟩ (.slice a 7 c)) := by
  obtain ⟨cs, h1, h2, h3, h4, h5⟩ := h
  have hlt := (List.getElem?_eq_some_iff.1 hx).1
  have e : l.length - k = (l.length - (k + 1)) + 1 := by omega
  rw [e, zeroC] at h1
  have h17 := (hb.block _ (block_lt h1)).trans h1
  have hh := heap_set4L h17 h3 (.int .i64 2) (.int .u64 0) (.string ⟨#[]⟩) (.slice a 7 c)
  have h7s := hb.size
  refine ⟨_, hh, ?_, by simp [h3]; omega, (h4.trans (hb.mono h4.size)).trans (set4_belowN (Nat.le_refl _) _ _ _ _), by simp only [Cod.size_setCell]; omega⟩
  rw [List.take_add_one, hx]
  show CellsOf _ _ (sgsF (l.take k ++ [x])) _
  rw [sgsF_snoc]
  refine CellsOf.snoc (hk.mono (fun b hb' => ⟨by have := hb'.1; omega, by simp only [Cod.size_setCell]; exact hb'.2⟩) (fun b hb' => set4_other (by have := hb'.1; omega) _ _ _ _)) _ _ ?_
  exact CellsOf.mono (fun b hb' => ⟨⟨hb'.1, by have := hb'.2; simp only [Cod.size_setCell]; omega⟩, (set4_other (by have := hb'.1; omega) _ _ _ _).trans (hb.block b hb'.2)⟩) _ _ h2
set_option maxHeartbeats 8000000 in
set_option maxRecDepth 100000 in
theorem ptext_prog (l : List Sg) (m : Nat) (hok : ∀ s ∈ l, s.Ok m) (hm : m ≤ 100000) (hi : ∀ s ∈ l, s.h.is = true) (hl : l.length ≤ 3000) (hfit : (textB l).length ≤ 16777216) (v : Value) (w : World) (hv : SSl w v l) :
    Calls Tryd.prog 6 #[v] w fun e w' => e = .returned (.string ⟨(textB l).toArray⟩) ∧ Below w.heap.size w w' := by
  have HS := Lib.hid hv
  obtain ⟨a, c, rfl⟩ := hv.shape
  obtain ⟨n, hn⟩ : ∃ n, l.length = n := ⟨_, rfl⟩
  have HN := Lib.hid hn
  rw [hn] at HS ⊢
  have hnI : (n : Int) ≤ 3000 := by omega
  have hn0 : (0 : Int) ≤ (n : Int) := by omega
  have KW := Lib.hid (fun u W (hu : KidsAt W (· < W.heap.size) (sgsF l) u) => Cod.write_prog 2 0 ⟨#[]⟩ (sgsF l) u W (text_ok (by omega) l hok (by omega)) hu (by rw [sgsF_len]; exact hfit) true ⟨(textB l).toArray⟩ (text_right l) (by rw [sgsF_len]; rfl))
  unfold nodeV at KW
  have HOK := Lib.hid hok
  have HI := Lib.hid hi
  have HM := Lib.hid hm
  obtain ⟨i0, hi, hz1, hz2, hz3⟩ := info_parts Cod.Tryd.nodeSl.info
  obtain ⟨M, hM⟩ : ∃ M, M = madeCells (Value.agg #[.int .i64 0, .int .u64 0, .string ⟨#[]⟩, .slice none 0 0]).cells ((n : Int).toNat * i0.size) := ⟨_, rfl⟩
  have hMl : M.toList = zeroC n := by rw [hM, hz2]; simpa using made_zero n
  have hmk : ∀ W : World, (Instr.makeSlice 44 (.int .i64 (n : Int)) (.int .i64 (n : Int))).run Tryd.prog W = .ok (.slice (some ⟨W.heap.size, 0, none⟩) n n) (W.alloc (.cells M 46)) := fun W => by
    have h := run_make (P := Tryd.prog) W 44 46 i0 _ Cod.Tryd.nodeSl.und hi hz1 .i64 .i64 (n : Int) (n : Int) (by omega) (by omega) (by rw [hz3]; omega) (by omega)
    rw [← hM] at h
    simpa using h
  obtain ⟨W0, hW0⟩ : ∃ W0, W0 = w.alloc (.cells M 46) := ⟨_, rfl⟩
  have hs0 : W0.heap.size = w.heap.size + 1 := by rw [hW0]; simp
  obtain ⟨W1, hW1⟩ : ∃ W1, W1 = W0.alloc (.cells #[.int .i64 2, .int .u64 0, .string ⟨#[]⟩, .slice (some ⟨w.heap.size, 0, none⟩) n n] 46) := ⟨_, rfl⟩
  have hb0 : Below w.heap.size w W0 := by rw [hW0]; exact (Below.refl _ _).alloc (Nat.le_refl _) _
  have hb1 : Below W0.heap.size W0 W1 := by rw [hW1]; exact (Below.refl _ _).alloc (Nat.le_refl _) _
  have hg0 : W0.heap[w.heap.size]? = some (.cells M 46 (0, 0)) := by rw [hW0]; exact heap_alloc_new _ _
  have HB1 := Lib.hid (hb0.trans (hb1.mono hb0.size))
  have HZ1 : Hid (W1.heap[w.heap.size + 1]? = some (.cells #[.int .i64 2, .int .u64 0, .string ⟨#[]⟩, .slice (some ⟨w.heap.size, 0, none⟩) n n] 46 (0, 0))) := Lib.hid (by rw [← hs0, hW1]; exact heap_alloc_new _ _)
  have HR : Hid (TxRel w l 0 W1) := Lib.hid ⟨[], by rw [hb1.block _ (block_lt hg0), hg0, hn]; congr 2; exact Array.toList_inj.1 (by rw [hMl]; rfl), (by rw [List.take_zero]; exact (rfl : ([] : List Value) = [])), rfl, HB1.out, block_lt HZ1.out⟩
  clear hM hMl hi hz1 hz2 hz3 hg0 hb1 hb0 hn hv hl hfit hok hm
  have hb209 : ¬ (209715 : Int) < (n : Int) := by omega
  have HS0 := Lib.hid hs0
  clear hs0
  go_enter Tryd.func6, Tryd.ntmps6
  go_upto_region 4 with fail
  simp only [← hW0]
  simp only [← hW1]
  clear hW0 hW1 hmk hb209 HS0
  go_wp2_with fail
  go_loopw [17] (fun i wr => ∃ k : Nat, k ≤ n ∧ i = .int .i64 (k : Int) ∧ Hid (TxRel w l k wr) ∧ Hid (wr.heap[w.heap.size + 1]? = some (.cells #[.int .i64 2, .int .u64 0, .string ⟨#[]⟩, .slice (some ⟨w.heap.size, 0, none⟩) n n] 46 (0, 0)))) (fun i _ => n - (intOf i).toNat)
  case atStart => exact ⟨0, by omega, rfl, HR, HZ1⟩
  case round =>
    obtain ⟨k, hk, rfl, HE, HNB⟩ := hrel
    by_cases hlt : k < n
    · have hkI : (k : Int) < (n : Int) := by omega
      have hk0 : (0 : Int) ≤ (k : Int) := by omega
      obtain ⟨s, hx⟩ : ∃ s, l[k]? = some s := ⟨_, List.getElem?_eq_getElem (by rw [HN.out]; exact hlt)⟩
      have hmem := List.mem_of_getElem? hx
      obtain ⟨cs, h1, h2, h3, h4, h5⟩ := id HE.out
      obtain ⟨g, o, cx, ev, hcl⟩ := (HS.out.later h4).get hx
      rw [HN.out] at ev
      injection ev with e1 e2 e3
      subst e1 e3
      clear e2
      obtain ⟨q0, q1, q2, q3, q4, q5, q6⟩ := hcl
      have KI := Lib.hid (fun W => pis_prog s.h m (HOK.out s hmem).1 (by have := HM.out; omega) W)
      rw [HI.out s hmem] at KI
      have KN := Lib.hid (fun W => pnode_prog s m (HOK.out s hmem) (by have := HM.out; omega) (HI.out s hmem) W)
      unfold hdV at KI
      unfold sgV nodeV at KN
      obtain ⟨W2, hW2⟩ : ∃ W2, W2 = wr.alloc (.cells #[.int .u64 s.h.shard, .int .u64 s.h.seq, .string s.h.prev, .string s.h.root, .int .u64 s.h.who, .int .u64 s.h.stamp, .string s.mac] 35) := ⟨_, rfl⟩
      have HB2 : Hid (Below wr.heap.size wr W2) := Lib.hid (by rw [hW2]; exact (Below.refl _ _).alloc (Nat.le_refl _) _)
      have HS2 : Hid (W2.heap[wr.heap.size]? = some (.cells #[.int .u64 s.h.shard, .int .u64 s.h.seq, .string s.h.prev, .string s.h.root, .int .u64 s.h.who, .int .u64 s.h.stamp, .string s.mac] 35 (0, 0))) := Lib.hid (by rw [hW2]; exact heap_alloc_new _ _)
      have hm1 : l.length - k = (n - k - 1) + 1 := by rw [HN.out]; omega
      have HH1 : Hid (wr.heap[w.heap.size]? = some (.cells (cs ++ ([Value.int .i64 0, .int .u64 0, .string ⟨#[]⟩, .slice none 0 0] ++ zeroC (n - k - 1))).toArray 46 (0, 0))) := Lib.hid (by rw [h1, hm1, zeroC])
      have HH3 := Lib.hid h3
      have HX := Lib.hid hx
      have HLT := Lib.hid hlt
      have HBW := Lib.hid h4
      have HGS : Hid (wr.heap.size ≠ w.heap.size) := Lib.hid (by omega)
      clear h1 h2 h3 h4 h5 hx hm1 hmem hk hlt
      go_upto_region 7 with fail
      simp only [← hW2]
      clear hW2 q0 q1 q2 q3 q4 q5 q6
      obtain ⟨k0, k1, k2, k3, k4, k5, k6⟩ := cells7 HS2.out
      go_wp2_with fail
      refine (KI.out _).mono ?_
      rintro e w4 ⟨rfl, hb4⟩
      have HR4 := Lib.hid (HB2.out.trans (hb4.mono HB2.out.size))
      have HS4 := Lib.hid ((hb4.block _ (block_lt HS2.out)).trans HS2.out)
      have HB4 := Lib.hid (HBW.out.trans (HR4.out.mono HBW.out.size))
      have HN4 := Lib.hid ((HR4.out.block _ (block_lt HNB.out)).trans HNB.out)
      have HG4 := Lib.hid ((HR4.out.block _ (block_lt HH1.out)).trans HH1.out)
      clear hb4 k0 k1 k2 k3 k4 k5 k6 KI HS2 HB2
      go_upto_region 9 with fail
      have HND : w4.drew.heap[w.heap.size + 1]? = some (.cells #[.int .i64 2, .int .u64 0, .string ⟨#[]⟩, .slice (some ⟨w.heap.size, 0, none⟩) n n] 46 (0, 0)) := HN4.out
      have HSD : w4.drew.heap[wr.heap.size]? = some (.cells #[.int .u64 s.h.shard, .int .u64 s.h.seq, .string s.h.prev, .string s.h.root, .int .u64 s.h.who, .int .u64 s.h.stamp, .string s.mac] 35 (0, 0)) := HS4.out
      have HGD : w4.drew.heap[w.heap.size]? = some (.cells (cs ++ ([Value.int .i64 0, .int .u64 0, .string ⟨#[]⟩, .slice none 0 0] ++ zeroC (n - k - 1))).toArray 46 (0, 0)) := HG4.out
      have HBD : Below wr.heap.size wr w4.drew := HR4.out.drew
      refine wp_region_held_drew (S := fun w' => Below w.heap.size w w' ∧ w'.heap[w.heap.size + 1]? = some (.cells #[.int .i64 2, .int .u64 0, .string ⟨#[]⟩, .slice (some ⟨w.heap.size, 0, none⟩) n n] 46 (0, 0)) ∧ w'.heap[wr.heap.size]? = some (.cells #[.int .u64 s.h.shard, .int .u64 s.h.seq, .string s.h.prev, .string s.h.root, .int .u64 s.h.who, .int .u64 s.h.stamp, .string s.mac] 35 (0, 0))) (by kernel_rfl) (⟨HB4.out.drew, HN4.out, HS4.out⟩) (fun hHeld => ?_)
      refine wpAnyH_take (i := 0) (v := ?_) rfl (by kernel_rfl) (by kernel_rfl) (by kernel_rfl) (fun _ _ _ h => h) (Or.inl ⟨by rfl, ?_⟩) hHeld ?_
      rotate_left
      · intro w' hSw; obtain ⟨d0, d1, d2, d3, _, _, _, _⟩ := Cod.block4 hSw.2.1; obtain ⟨k0, k1, k2, k3, k4, k5, k6⟩ := cells7 hSw.2.2; go_simp; first | done | with_reducible rfl | rfl
      try simp only [Act.put, List.getElem_toArray, List.getElem_cons_zero, List.setIfInBounds_toArray, List.set_cons_zero, List.set_cons_succ]
      refine wpAnyH_take (i := 1) (v := ?_) rfl (by kernel_rfl) (by kernel_rfl) (by kernel_rfl) (fun _ _ _ h => h) (Or.inl ⟨by rfl, ?_⟩) hHeld ?_
      rotate_left
      · intro w' hSw; obtain ⟨d0, d1, d2, d3, _, _, _, _⟩ := Cod.block4 hSw.2.1; obtain ⟨k0, k1, k2, k3, k4, k5, k6⟩ := cells7 hSw.2.2; go_simp; first | done | with_reducible rfl | rfl
      try simp only [Act.put, List.getElem_toArray, List.getElem_cons_zero, List.getElem_cons_succ, List.setIfInBounds_toArray, List.set_cons_zero, List.set_cons_succ]
      refine wpAnyH_take (i := 2) (v := ?_) rfl (by kernel_rfl) (by kernel_rfl) (by kernel_rfl) (fun _ _ _ h => h) (Or.inl ⟨by rfl, ?_⟩) hHeld ?_
      rotate_left
      · intro w' hSw; obtain ⟨d0, d1, d2, d3, _, _, _, _⟩ := Cod.block4 hSw.2.1; obtain ⟨k0, k1, k2, k3, k4, k5, k6⟩ := cells7 hSw.2.2; go_simp; first | done | with_reducible rfl | rfl
      try simp only [Act.put, List.getElem_toArray, List.getElem_cons_zero, List.getElem_cons_succ, List.setIfInBounds_toArray, List.set_cons_zero, List.set_cons_succ]
      refine wpAnyH_take (i := 3) (v := ?_) rfl (by kernel_rfl) (by kernel_rfl) (by kernel_rfl) (fun _ _ _ h => h) (Or.inl ⟨by rfl, ?_⟩) hHeld ?_
      rotate_left
      · intro w' hSw; obtain ⟨d0, d1, d2, d3, _, _, _, _⟩ := Cod.block4 hSw.2.1; obtain ⟨k0, k1, k2, k3, k4, k5, k6⟩ := cells7 hSw.2.2; go_simp; first | done | with_reducible rfl | rfl
      try simp only [Act.put, List.getElem_toArray, List.getElem_cons_zero, List.getElem_cons_succ, List.setIfInBounds_toArray, List.set_cons_zero, List.set_cons_succ]
      refine wpAnyH_ready (rs := [4]) (by kernel_rfl) (by simp) ?_
      refine AllReadyH.cons rfl (fun K hK => ?_) AllReadyH.nil
      try simp only [Act.put, List.getElem_toArray, List.getElem_cons_zero, List.getElem_cons_succ, List.setIfInBounds_toArray, List.set_cons_zero, List.set_cons_succ]
      go_simp
      go_at_call 18
      refine (KN.out _).mono ?_
      rintro e w5 ⟨na, nc, rfl, hb5, hkn⟩
      have HB5 := HB4.out.drew.trans (hb5.mono HB4.out.drew.size)
      have HN5 := (hb5.block _ (block_lt HND)).trans HND
      have HS5 := (hb5.block _ (block_lt HSD)).trans HSD
      have HG5 := (hb5.block _ (block_lt HGD)).trans HGD
      obtain ⟨t0, t1, t2, t3, tf⟩ := cells4L HG5 HH3.out
      have tf0 := tf (k * 4)
      have tf1 := tf (k * 4 + 1)
      have tf2 := tf (k * 4 + 2)
      have tf3 := tf (k * 4 + 3)
      have HKN := Lib.hid hkn
      clear hkn
      go_wp2_with fail
      refine hK.out _ _ (⟨HB5, HN5, HS5⟩) (fun hS1 => ?_)
      clear hK K
      try simp only [Act.put, List.getElem_toArray, List.getElem_cons_zero, List.getElem_cons_succ, List.setIfInBounds_toArray, List.set_cons_zero, List.set_cons_succ]
      refine wpAnyH_take (i := 5) (v := ?_) rfl (by kernel_rfl) (by kernel_rfl) (by kernel_rfl) (fun _ _ _ h => h) (Or.inl ⟨by rfl, ?_⟩) hS1 ?_
      rotate_left
      · intro w' hSw; obtain ⟨d0, d1, d2, d3, _, _, _, _⟩ := Cod.block4 hSw.2.1; obtain ⟨k0, k1, k2, k3, k4, k5, k6⟩ := cells7 hSw.2.2; go_simp; first | done | with_reducible rfl | rfl
      try simp only [Act.put, List.getElem_toArray, List.getElem_cons_zero, List.getElem_cons_succ, List.setIfInBounds_toArray, List.set_cons_zero, List.set_cons_succ]
      refine wpAnyH_ready (rs := [6]) (by kernel_rfl) (by simp) ?_
      refine AllReadyH.cons rfl (fun K hK => ?_) AllReadyH.nil
      try simp only [Act.put, List.getElem_toArray, List.getElem_cons_zero, List.getElem_cons_succ]
      go_simp
      refine hK.out _ _ (⟨HB5.trans (set4_belowN (Nat.le_refl _) _ _ _ _), (set4_other (by omega) _ _ _ _).trans HN5, (set4_other HGS.out _ _ _ _).trans HS5⟩) (fun hS2 => ?_)
      clear hK K
      try simp only [Act.put, List.getElem_toArray, List.getElem_cons_zero, List.getElem_cons_succ]
      refine wpAnyH_done (by kernel_rfl) ?_ _
      have HST := Lib.hid (TxRel.step HE.out HX.out (HBD.trans (hb5.mono HBD.size)) HBD.size HKN.out)
      have HNN := Lib.hid ((set4_other (w := w5) (G := w.heap.size) (b := w.heap.size + 1) (k := k) (by omega) (.int .i64 2) (.int .u64 0) (.string ⟨#[]⟩) (.slice na 7 nc)).trans HN5)
      clear t0 t1 t2 t3 tf tf0 tf1 tf2 tf3
      go_wp2_with fail
      go_roundw
      case rel => exact ⟨k + 1, HLT.out, by go_num, by simpa using HST, by simpa using HNN⟩
      case measure => simp [intOf]; have := HLT.out; omega
    · have hke : k = n := by omega
      subst hke
      have hkI : ¬ (k : Int) < (k : Int) := by omega
      obtain ⟨cs, h1, h2, h3, h4, h5⟩ := HE.out
      have HKD : Hid (KidsAt wr (· < wr.heap.size) (sgsF l) (.slice (some ⟨w.heap.size, 0, none⟩) k k)) := Lib.hid (by
        rw [HN.out, Nat.sub_self, zeroC, List.append_nil] at h1
        rw [List.take_of_length_le (by rw [HN.out]; omega)] at h2
        refine .inr ⟨w.heap.size, 0, k, by rw [sgsF_len, HN.out], block_lt h1, ⟨_, _, h1⟩, by rw [sgsF_len, HN.out]; exact Nat.le_refl _, ?_⟩
        refine Cod.lies_of_cells (w := wr) (g := w.heap.size) (sgsF l) 0 cs (fun j u hu => ?_) (h2.mono (fun b hb => ⟨hb.2, rfl⟩))
        simp only [World.cell?, h1, Nat.zero_add]
        simpa using hu)
      have HB := Lib.hid h4
      obtain ⟨c0, c1, c2, c3, _, _, _, _⟩ := Cod.block4 HNB.out
      clear h1 h2 h3 h4 h5 HE HR HZ1
      go_wp2_with fail
      refine (KW.out _ _ HKD.out).mono ?_
      rintro e w9 ⟨rfl, hb9⟩
      have HB9 := Lib.hid (HB.out.trans (hb9.mono HB.out.size))
      clear hb9 c0 c1 c2 c3
      go_wp2_with fail
      go_ret
      exact ⟨rfl, HB9.out⟩
end Go.Proofs.YtpkkdjmcabefbaaDoor
