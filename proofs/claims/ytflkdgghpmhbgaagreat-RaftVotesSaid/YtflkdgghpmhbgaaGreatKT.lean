/- raft: Receive, with a greater term. Written by wip/tools/gen9_recvg.py. -/
import Derived.Test.YtflkdgghpmhbgaaGreatKM
namespace Go.Proofs.YtflkdgghpmhbgaaGreat
open Go.RowKit
section
variable {w : World} {p : Pl} {x : RN} {M K : Nat}
set_option maxHeartbeats 4000000 in
set_option maxRecDepth 100000 in
theorem recv_gf (h : XW w p x) (hf : x.Fit) (hkn : x.s.Knows) (hn : x.ps.length ≤ 9) (m : Mg) (ev : Value) (hmt : m.term < m64) (hl : x.leaves m = false) (ht : x.s.c.term < m.term) (hj : (x.join m.term).2 = false) {R : RN × List Mg} (hR : x.receive m = R) (hR2 : R = ((x.join m.term).1, [])) :
    Calls Tryz.prog 23 #[.pointer (some ⟨p.xb, 0, none⟩), .agg (mgL m ev).toArray] w fun e w' => (∃ v, e = .returned v ∧ MOwn w' w.heap.size v (x.receive m).2) ∧ XO p w (x.receive m).1 w' := by
  rw [hR]
  obtain ⟨W0, hW0⟩ : ∃ W0, W0 = w.alloc (.cells (mgL m ev).toArray 40) := ⟨_, rfl⟩
  have hb0 : Below w.heap.size w W0 := by rw [hW0]; exact (Below.refl _ _).alloc (Nat.le_refl _) _
  have hz0 : W0.heap[w.heap.size]? = some (.cells (mgL m ev).toArray 40 (0, 0)) := by rw [hW0]; exact heap_alloc_new _ _
  have h0 := h.later hb0
  have HLO := Lib.hid h.low
  unfold mgL at hW0 hz0 ⊢
  obtain ⟨d0, d1, d2, d3, d4, d5, d6, d7, d8, d9⟩ := cells10 hz0
  obtain ⟨c0, c1, c2, c3, c4, c5, c6⟩ := h0.cells
  have KD := Lib.hid (fun q => quietE ((xdown_q (h0.drewN q) hkn).mono fun _ _ h => ⟨h.1, h.2.symm⟩))
  have KT := Lib.hid (fun q => xterm_prog (h0.drewN q))
  have KJ := Lib.hid (fun q => join_prog (h0.drewN q) hf m.term hmt)
  rw [hj] at KJ
  have ER := Lib.hid hR2
  obtain ⟨n, hnn⟩ : ∃ n, x.ps.length = n := ⟨_, rfl⟩
  obtain ⟨l1, l2, l3, l4, l5⟩ := leaves_not hl
  rw [hnn] at c6 hn l5
  have hnI : (n : Int) ≤ 9 := by omega
  rw [l1] at KD
  obtain ⟨I, hI⟩ : ∃ I, x.id = I := ⟨_, rfl⟩
  rw [hI] at c0 l2 l3
  have hAI : (m.dst != (I : Int)) = false := by simp [l2]
  have hBI : (m.src == (I : Int)) = false := by simp [l3]
  have hCI : decide (m.src < 0) = false := decide_eq_false (by omega)
  have hDI : decide ((n : Int) ≤ m.src) = false := decide_eq_false (by omega)
  have hTI : decide (x.s.c.term < m.term) = true := decide_eq_true ht
  have HB0 := Lib.hid hb0
  have HX0 := Lib.hid h0
  have HZ0 := Lib.hid hz0
  obtain ⟨y, hy⟩ : ∃ y, (x.join m.term).1 = y := ⟨_, rfl⟩
  rw [hy] at KJ ER
  clear h hf hl h0 hb0 hz0 c2 c3 c4 c5 hnn hn hkn hI hR2 l1 l2 l3 l4 l5 hR ht hj hy hmt
  go_enter Tryz.func23, Tryz.ntmps23
  go_wp2_with fail
  simp only [← hW0]
  clear hW0
  go_quiet ((go_at_call 26; exact KD.out _))
  obtain ⟨n1, rfl⟩ : ∃ n1, n1 = nq := ⟨_, rfl⟩
  go_wp2_with fail
  go_region_held3 (fun X => X.cell? ⟨p.xb, 1, none⟩ = some (.pointer (some ⟨p.lb, 0, none⟩)) ∧ X.cell? ⟨w.heap.size, 3, none⟩ = some (.int .u64 (m.term : Int)))
    (first | exact ⟨c1, d3⟩ | exact hcs)
    (first
      | (go_at_call 28; refine (KT.out _).mono ?_; rintro e w3 ⟨rfl, rfl⟩)
      | (go_at_call 73; refine (KJ.out _).mono ?_; rintro e w5 ⟨rfl, ho5⟩; have hx5 := XO.get ho5; obtain ⟨v5, dv5, hp5, hc5⟩ := hx5; have hzk := (hc5.kept HLO.out (Nat.le_refl _) (block_lt HZ0.out)).trans (show (World.drewN W0 _).heap[w.heap.size]? = _ from HZ0.out); have hdd := cells10 hzk; have hcs : w5.cell? ⟨p.xb, 1, none⟩ = some (.pointer (some ⟨p.lb, 0, none⟩)) ∧ w5.cell? ⟨w.heap.size, 3, none⟩ = some (.int .u64 (m.term : Int)) := ⟨hp5.cells.2.1, hdd.2.2.2.1⟩))
  all_goals
    have HC5 := Lib.hid ((XCh.ofBelow p (HB0.out.trans ((Same.of W0 _).below _))).trans hc5)
    have HX5 := Lib.hid hp5
    clear hp5 hc5 ho5 hzk hdd hcs KJ KT KD
    go_wp2_with fail
    go_ret
    rw [ER.out]
    exact ⟨⟨_, rfl, MOwn.nil _ _⟩, XO.of HX5.out HC5.out⟩
set_option maxHeartbeats 4000000 in
set_option maxRecDepth 100000 in
theorem recv_g0 (h : XW w p x) (hf : x.Fit) (hkn : x.s.Knows) (hn : x.ps.length ≤ 9) (m : Mg) (ev : Value) (hmt : m.term < m64) (hl : x.leaves m = false) (ht : x.s.c.term < m.term) (hj : (x.join m.term).2 = true) (hk : m.kind = 0) {R : RN × List Mg} (hR : x.receive m = R)
    (KC : ∀ W p', XW W p' (x.join m.term).1 → XCh p w W p' → Calls Tryz.prog 74 #[.pointer (some ⟨p.xb, 0, none⟩), .agg (mgL m ev).toArray] W fun e w' => (∃ v, e = .returned v ∧ MOwn w' W.heap.size v R.2) ∧ XO p' W R.1 w') :
    Calls Tryz.prog 23 #[.pointer (some ⟨p.xb, 0, none⟩), .agg (mgL m ev).toArray] w fun e w' => (∃ v, e = .returned v ∧ MOwn w' w.heap.size v (x.receive m).2) ∧ XO p w (x.receive m).1 w' := by
  rw [hR]
  obtain ⟨W0, hW0⟩ : ∃ W0, W0 = w.alloc (.cells (mgL m ev).toArray 40) := ⟨_, rfl⟩
  have hb0 : Below w.heap.size w W0 := by rw [hW0]; exact (Below.refl _ _).alloc (Nat.le_refl _) _
  have hz0 : W0.heap[w.heap.size]? = some (.cells (mgL m ev).toArray 40 (0, 0)) := by rw [hW0]; exact heap_alloc_new _ _
  have h0 := h.later hb0
  have HLO := Lib.hid h.low
  unfold mgL at hW0 hz0 KC ⊢
  obtain ⟨d0, d1, d2, d3, d4, d5, d6, d7, d8, d9⟩ := cells10 hz0
  obtain ⟨c0, c1, c2, c3, c4, c5, c6⟩ := h0.cells
  have KD := Lib.hid (fun q => quietE ((xdown_q (h0.drewN q) hkn).mono fun _ _ h => ⟨h.1, h.2.symm⟩))
  have KT := Lib.hid (fun q => xterm_prog (h0.drewN q))
  have KJ := Lib.hid (fun q => join_prog (h0.drewN q) hf m.term hmt)
  rw [hj] at KJ
  have KK := Lib.hid KC
  obtain ⟨n, hnn⟩ : ∃ n, x.ps.length = n := ⟨_, rfl⟩
  obtain ⟨l1, l2, l3, l4, l5⟩ := leaves_not hl
  rw [hnn] at c6 hn l5
  have hnI : (n : Int) ≤ 9 := by omega
  rw [l1] at KD
  obtain ⟨I, hI⟩ : ∃ I, x.id = I := ⟨_, rfl⟩
  rw [hI] at c0 l2 l3
  have hAI : (m.dst != (I : Int)) = false := by simp [l2]
  have hBI : (m.src == (I : Int)) = false := by simp [l3]
  have hCI : decide (m.src < 0) = false := decide_eq_false (by omega)
  have hDI : decide ((n : Int) ≤ m.src) = false := decide_eq_false (by omega)
  have hTI : decide (x.s.c.term < m.term) = true := decide_eq_true ht
  have hk0 : (m.kind == 0) = true := by rw [hk]; rfl
  have HB0 := Lib.hid hb0
  have HX0 := Lib.hid h0
  have HZ0 := Lib.hid hz0
  obtain ⟨y, hy⟩ : ∃ y, (x.join m.term).1 = y := ⟨_, rfl⟩
  rw [hy] at KJ KK
  clear h hf hl h0 hb0 hz0 c2 c3 c4 c5 hnn hn hkn hI KC hk l1 l2 l3 l4 l5 hR ht hj hy hmt
  go_enter Tryz.func23, Tryz.ntmps23
  go_wp2_with fail
  simp only [← hW0]
  clear hW0
  go_quiet ((go_at_call 26; exact KD.out _))
  obtain ⟨n1, rfl⟩ : ∃ n1, n1 = nq := ⟨_, rfl⟩
  go_wp2_with fail
  go_region_held3 (fun X => X.cell? ⟨p.xb, 1, none⟩ = some (.pointer (some ⟨p.lb, 0, none⟩)) ∧ X.cell? ⟨w.heap.size, 3, none⟩ = some (.int .u64 (m.term : Int)))
    (first | exact ⟨c1, d3⟩ | exact hcs)
    (first
      | (go_at_call 28; refine (KT.out _).mono ?_; rintro e w3 ⟨rfl, rfl⟩)
      | (go_at_call 73; refine (KJ.out _).mono ?_; rintro e w5 ⟨rfl, ho5⟩; have hx5 := XO.get ho5; obtain ⟨v5, dv5, hp5, hc5⟩ := hx5; have hzk := (hc5.kept HLO.out (Nat.le_refl _) (block_lt HZ0.out)).trans (show (World.drewN W0 _).heap[w.heap.size]? = _ from HZ0.out); have hdd := cells10 hzk; have hcs : w5.cell? ⟨p.xb, 1, none⟩ = some (.pointer (some ⟨p.lb, 0, none⟩)) ∧ w5.cell? ⟨w.heap.size, 3, none⟩ = some (.int .u64 (m.term : Int)) := ⟨hp5.cells.2.1, hdd.2.2.2.1⟩))
  all_goals
    have HC5 := Lib.hid ((XCh.ofBelow p (HB0.out.trans ((Same.of W0 _).below _))).trans hc5)
    have HX5 := Lib.hid hp5
    obtain ⟨f0, f1, f2, f3, f4, f5, f6, f7, f8, f9⟩ := hdd
    have K5 := Lib.hid (KK.out _ _ hp5 HC5.out)
    clear hp5 hc5 ho5 hzk hcs KJ KT KD KK d0 d1 d2 d3 d4 d5 d6 d7 d8 d9 c0 c1 c6
    go_wp2_with fail
    refine K5.out.mono ?_
    rintro e w7 ⟨⟨v, rfl, hv⟩, ho⟩
    have HV := Lib.hid (hv.base (show w.heap.size ≤ _ from HC5.out.size))
    have HO := Lib.hid (XO.trans HC5.out ho)
    clear hv ho K5
    go_wp2_with fail
    go_ret
    exact ⟨⟨_, rfl, HV.out⟩, HO.out⟩
set_option maxHeartbeats 4000000 in
set_option maxRecDepth 100000 in
theorem recv_g1 (h : XW w p x) (hf : x.Fit) (hkn : x.s.Knows) (hn : x.ps.length ≤ 9) (m : Mg) (ev : Value) (hmt : m.term < m64) (hl : x.leaves m = false) (ht : x.s.c.term < m.term) (hj : (x.join m.term).2 = true) (hk : m.kind = 1) {R : RN × List Mg} (hR : x.receive m = R)
    (KC : ∀ W p', XW W p' (x.join m.term).1 → XCh p w W p' → Calls Tryz.prog 75 #[.pointer (some ⟨p.xb, 0, none⟩), .agg (mgL m ev).toArray] W fun e w' => (∃ v, e = .returned v ∧ MOwn w' W.heap.size v R.2) ∧ XO p' W R.1 w') :
    Calls Tryz.prog 23 #[.pointer (some ⟨p.xb, 0, none⟩), .agg (mgL m ev).toArray] w fun e w' => (∃ v, e = .returned v ∧ MOwn w' w.heap.size v (x.receive m).2) ∧ XO p w (x.receive m).1 w' := by
  rw [hR]
  obtain ⟨W0, hW0⟩ : ∃ W0, W0 = w.alloc (.cells (mgL m ev).toArray 40) := ⟨_, rfl⟩
  have hb0 : Below w.heap.size w W0 := by rw [hW0]; exact (Below.refl _ _).alloc (Nat.le_refl _) _
  have hz0 : W0.heap[w.heap.size]? = some (.cells (mgL m ev).toArray 40 (0, 0)) := by rw [hW0]; exact heap_alloc_new _ _
  have h0 := h.later hb0
  have HLO := Lib.hid h.low
  unfold mgL at hW0 hz0 KC ⊢
  obtain ⟨d0, d1, d2, d3, d4, d5, d6, d7, d8, d9⟩ := cells10 hz0
  obtain ⟨c0, c1, c2, c3, c4, c5, c6⟩ := h0.cells
  have KD := Lib.hid (fun q => quietE ((xdown_q (h0.drewN q) hkn).mono fun _ _ h => ⟨h.1, h.2.symm⟩))
  have KT := Lib.hid (fun q => xterm_prog (h0.drewN q))
  have KJ := Lib.hid (fun q => join_prog (h0.drewN q) hf m.term hmt)
  rw [hj] at KJ
  have KK := Lib.hid KC
  obtain ⟨n, hnn⟩ : ∃ n, x.ps.length = n := ⟨_, rfl⟩
  obtain ⟨l1, l2, l3, l4, l5⟩ := leaves_not hl
  rw [hnn] at c6 hn l5
  have hnI : (n : Int) ≤ 9 := by omega
  rw [l1] at KD
  obtain ⟨I, hI⟩ : ∃ I, x.id = I := ⟨_, rfl⟩
  rw [hI] at c0 l2 l3
  have hAI : (m.dst != (I : Int)) = false := by simp [l2]
  have hBI : (m.src == (I : Int)) = false := by simp [l3]
  have hCI : decide (m.src < 0) = false := decide_eq_false (by omega)
  have hDI : decide ((n : Int) ≤ m.src) = false := decide_eq_false (by omega)
  have hTI : decide (x.s.c.term < m.term) = true := decide_eq_true ht
  have hk0 : (m.kind == 0) = false := by rw [hk]; rfl
  have hk1 : (m.kind == 1) = true := by rw [hk]; rfl
  have HB0 := Lib.hid hb0
  have HX0 := Lib.hid h0
  have HZ0 := Lib.hid hz0
  obtain ⟨y, hy⟩ : ∃ y, (x.join m.term).1 = y := ⟨_, rfl⟩
  rw [hy] at KJ KK
  clear h hf hl h0 hb0 hz0 c2 c3 c4 c5 hnn hn hkn hI KC hk l1 l2 l3 l4 l5 hR ht hj hy hmt
  go_enter Tryz.func23, Tryz.ntmps23
  go_wp2_with fail
  simp only [← hW0]
  clear hW0
  go_quiet ((go_at_call 26; exact KD.out _))
  obtain ⟨n1, rfl⟩ : ∃ n1, n1 = nq := ⟨_, rfl⟩
  go_wp2_with fail
  go_region_held3 (fun X => X.cell? ⟨p.xb, 1, none⟩ = some (.pointer (some ⟨p.lb, 0, none⟩)) ∧ X.cell? ⟨w.heap.size, 3, none⟩ = some (.int .u64 (m.term : Int)))
    (first | exact ⟨c1, d3⟩ | exact hcs)
    (first
      | (go_at_call 28; refine (KT.out _).mono ?_; rintro e w3 ⟨rfl, rfl⟩)
      | (go_at_call 73; refine (KJ.out _).mono ?_; rintro e w5 ⟨rfl, ho5⟩; have hx5 := XO.get ho5; obtain ⟨v5, dv5, hp5, hc5⟩ := hx5; have hzk := (hc5.kept HLO.out (Nat.le_refl _) (block_lt HZ0.out)).trans (show (World.drewN W0 _).heap[w.heap.size]? = _ from HZ0.out); have hdd := cells10 hzk; have hcs : w5.cell? ⟨p.xb, 1, none⟩ = some (.pointer (some ⟨p.lb, 0, none⟩)) ∧ w5.cell? ⟨w.heap.size, 3, none⟩ = some (.int .u64 (m.term : Int)) := ⟨hp5.cells.2.1, hdd.2.2.2.1⟩))
  all_goals
    have HC5 := Lib.hid ((XCh.ofBelow p (HB0.out.trans ((Same.of W0 _).below _))).trans hc5)
    have HX5 := Lib.hid hp5
    obtain ⟨f0, f1, f2, f3, f4, f5, f6, f7, f8, f9⟩ := hdd
    have K5 := Lib.hid (KK.out _ _ hp5 HC5.out)
    clear hp5 hc5 ho5 hzk hcs KJ KT KD KK d0 d1 d2 d3 d4 d5 d6 d7 d8 d9 c0 c1 c6
    go_wp2_with fail
    refine K5.out.mono ?_
    rintro e w7 ⟨⟨v, rfl, hv⟩, ho⟩
    have HV := Lib.hid (hv.base (show w.heap.size ≤ _ from HC5.out.size))
    have HO := Lib.hid (XO.trans HC5.out ho)
    clear hv ho K5
    go_wp2_with fail
    go_ret
    exact ⟨⟨_, rfl, HV.out⟩, HO.out⟩
set_option maxHeartbeats 4000000 in
set_option maxRecDepth 100000 in
theorem recv_g2 (h : XW w p x) (hf : x.Fit) (hkn : x.s.Knows) (hn : x.ps.length ≤ 9) (m : Mg) (ev : Value) (hmt : m.term < m64) (hl : x.leaves m = false) (ht : x.s.c.term < m.term) (hj : (x.join m.term).2 = true) (hk : m.kind = 2) {R : RN × List Mg} (hR : x.receive m = R)
    (KC : ∀ W p', XW W p' (x.join m.term).1 → XCh p w W p' → Calls Tryz.prog 76 #[.pointer (some ⟨p.xb, 0, none⟩), .agg (mgL m ev).toArray] W fun e w' => (∃ v, e = .returned v ∧ MOwn w' W.heap.size v R.2) ∧ XO p' W R.1 w') :
    Calls Tryz.prog 23 #[.pointer (some ⟨p.xb, 0, none⟩), .agg (mgL m ev).toArray] w fun e w' => (∃ v, e = .returned v ∧ MOwn w' w.heap.size v (x.receive m).2) ∧ XO p w (x.receive m).1 w' := by
  rw [hR]
  obtain ⟨W0, hW0⟩ : ∃ W0, W0 = w.alloc (.cells (mgL m ev).toArray 40) := ⟨_, rfl⟩
  have hb0 : Below w.heap.size w W0 := by rw [hW0]; exact (Below.refl _ _).alloc (Nat.le_refl _) _
  have hz0 : W0.heap[w.heap.size]? = some (.cells (mgL m ev).toArray 40 (0, 0)) := by rw [hW0]; exact heap_alloc_new _ _
  have h0 := h.later hb0
  have HLO := Lib.hid h.low
  unfold mgL at hW0 hz0 KC ⊢
  obtain ⟨d0, d1, d2, d3, d4, d5, d6, d7, d8, d9⟩ := cells10 hz0
  obtain ⟨c0, c1, c2, c3, c4, c5, c6⟩ := h0.cells
  have KD := Lib.hid (fun q => quietE ((xdown_q (h0.drewN q) hkn).mono fun _ _ h => ⟨h.1, h.2.symm⟩))
  have KT := Lib.hid (fun q => xterm_prog (h0.drewN q))
  have KJ := Lib.hid (fun q => join_prog (h0.drewN q) hf m.term hmt)
  rw [hj] at KJ
  have KK := Lib.hid KC
  obtain ⟨n, hnn⟩ : ∃ n, x.ps.length = n := ⟨_, rfl⟩
  obtain ⟨l1, l2, l3, l4, l5⟩ := leaves_not hl
  rw [hnn] at c6 hn l5
  have hnI : (n : Int) ≤ 9 := by omega
  rw [l1] at KD
  obtain ⟨I, hI⟩ : ∃ I, x.id = I := ⟨_, rfl⟩
  rw [hI] at c0 l2 l3
  have hAI : (m.dst != (I : Int)) = false := by simp [l2]
  have hBI : (m.src == (I : Int)) = false := by simp [l3]
  have hCI : decide (m.src < 0) = false := decide_eq_false (by omega)
  have hDI : decide ((n : Int) ≤ m.src) = false := decide_eq_false (by omega)
  have hTI : decide (x.s.c.term < m.term) = true := decide_eq_true ht
  have hk0 : (m.kind == 0) = false := by rw [hk]; rfl
  have hk1 : (m.kind == 1) = false := by rw [hk]; rfl
  have hk2 : (m.kind == 2) = true := by rw [hk]; rfl
  have HB0 := Lib.hid hb0
  have HX0 := Lib.hid h0
  have HZ0 := Lib.hid hz0
  obtain ⟨y, hy⟩ : ∃ y, (x.join m.term).1 = y := ⟨_, rfl⟩
  rw [hy] at KJ KK
  clear h hf hl h0 hb0 hz0 c2 c3 c4 c5 hnn hn hkn hI KC hk l1 l2 l3 l4 l5 hR ht hj hy hmt
  go_enter Tryz.func23, Tryz.ntmps23
  go_wp2_with fail
  simp only [← hW0]
  clear hW0
  go_quiet ((go_at_call 26; exact KD.out _))
  obtain ⟨n1, rfl⟩ : ∃ n1, n1 = nq := ⟨_, rfl⟩
  go_wp2_with fail
  go_region_held3 (fun X => X.cell? ⟨p.xb, 1, none⟩ = some (.pointer (some ⟨p.lb, 0, none⟩)) ∧ X.cell? ⟨w.heap.size, 3, none⟩ = some (.int .u64 (m.term : Int)))
    (first | exact ⟨c1, d3⟩ | exact hcs)
    (first
      | (go_at_call 28; refine (KT.out _).mono ?_; rintro e w3 ⟨rfl, rfl⟩)
      | (go_at_call 73; refine (KJ.out _).mono ?_; rintro e w5 ⟨rfl, ho5⟩; have hx5 := XO.get ho5; obtain ⟨v5, dv5, hp5, hc5⟩ := hx5; have hzk := (hc5.kept HLO.out (Nat.le_refl _) (block_lt HZ0.out)).trans (show (World.drewN W0 _).heap[w.heap.size]? = _ from HZ0.out); have hdd := cells10 hzk; have hcs : w5.cell? ⟨p.xb, 1, none⟩ = some (.pointer (some ⟨p.lb, 0, none⟩)) ∧ w5.cell? ⟨w.heap.size, 3, none⟩ = some (.int .u64 (m.term : Int)) := ⟨hp5.cells.2.1, hdd.2.2.2.1⟩))
  all_goals
    have HC5 := Lib.hid ((XCh.ofBelow p (HB0.out.trans ((Same.of W0 _).below _))).trans hc5)
    have HX5 := Lib.hid hp5
    obtain ⟨f0, f1, f2, f3, f4, f5, f6, f7, f8, f9⟩ := hdd
    have K5 := Lib.hid (KK.out _ _ hp5 HC5.out)
    clear hp5 hc5 ho5 hzk hcs KJ KT KD KK d0 d1 d2 d3 d4 d5 d6 d7 d8 d9 c0 c1 c6
    go_wp2_with fail
    refine K5.out.mono ?_
    rintro e w7 ⟨⟨v, rfl, hv⟩, ho⟩
    have HV := Lib.hid (hv.base (show w.heap.size ≤ _ from HC5.out.size))
    have HO := Lib.hid (XO.trans HC5.out ho)
    clear hv ho K5
    go_wp2_with fail
    go_ret
    exact ⟨⟨_, rfl, HV.out⟩, HO.out⟩
set_option maxHeartbeats 4000000 in
set_option maxRecDepth 100000 in
theorem recv_g4 (h : XW w p x) (hf : x.Fit) (hkn : x.s.Knows) (hn : x.ps.length ≤ 9) (m : Mg) (ev : Value) (hmt : m.term < m64) (hl : x.leaves m = false) (ht : x.s.c.term < m.term) (hj : (x.join m.term).2 = true) (hk : m.kind = 4) {R : RN × List Mg} (hR : x.receive m = R)
    (KC : ∀ W p', XW W p' (x.join m.term).1 → XCh p w W p' → Calls Tryz.prog 76 #[.pointer (some ⟨p.xb, 0, none⟩), .agg (mgL m ev).toArray] W fun e w' => (∃ v, e = .returned v ∧ MOwn w' W.heap.size v R.2) ∧ XO p' W R.1 w') :
    Calls Tryz.prog 23 #[.pointer (some ⟨p.xb, 0, none⟩), .agg (mgL m ev).toArray] w fun e w' => (∃ v, e = .returned v ∧ MOwn w' w.heap.size v (x.receive m).2) ∧ XO p w (x.receive m).1 w' := by
  rw [hR]
  obtain ⟨W0, hW0⟩ : ∃ W0, W0 = w.alloc (.cells (mgL m ev).toArray 40) := ⟨_, rfl⟩
  have hb0 : Below w.heap.size w W0 := by rw [hW0]; exact (Below.refl _ _).alloc (Nat.le_refl _) _
  have hz0 : W0.heap[w.heap.size]? = some (.cells (mgL m ev).toArray 40 (0, 0)) := by rw [hW0]; exact heap_alloc_new _ _
  have h0 := h.later hb0
  have HLO := Lib.hid h.low
  unfold mgL at hW0 hz0 KC ⊢
  obtain ⟨d0, d1, d2, d3, d4, d5, d6, d7, d8, d9⟩ := cells10 hz0
  obtain ⟨c0, c1, c2, c3, c4, c5, c6⟩ := h0.cells
  have KD := Lib.hid (fun q => quietE ((xdown_q (h0.drewN q) hkn).mono fun _ _ h => ⟨h.1, h.2.symm⟩))
  have KT := Lib.hid (fun q => xterm_prog (h0.drewN q))
  have KJ := Lib.hid (fun q => join_prog (h0.drewN q) hf m.term hmt)
  rw [hj] at KJ
  have KK := Lib.hid KC
  obtain ⟨n, hnn⟩ : ∃ n, x.ps.length = n := ⟨_, rfl⟩
  obtain ⟨l1, l2, l3, l4, l5⟩ := leaves_not hl
  rw [hnn] at c6 hn l5
  have hnI : (n : Int) ≤ 9 := by omega
  rw [l1] at KD
  obtain ⟨I, hI⟩ : ∃ I, x.id = I := ⟨_, rfl⟩
  rw [hI] at c0 l2 l3
  have hAI : (m.dst != (I : Int)) = false := by simp [l2]
  have hBI : (m.src == (I : Int)) = false := by simp [l3]
  have hCI : decide (m.src < 0) = false := decide_eq_false (by omega)
  have hDI : decide ((n : Int) ≤ m.src) = false := decide_eq_false (by omega)
  have hTI : decide (x.s.c.term < m.term) = true := decide_eq_true ht
  have hk0 : (m.kind == 0) = false := by rw [hk]; rfl
  have hk1 : (m.kind == 1) = false := by rw [hk]; rfl
  have hk2 : (m.kind == 2) = false := by rw [hk]; rfl
  have hk4 : (m.kind == 4) = true := by rw [hk]; rfl
  have HB0 := Lib.hid hb0
  have HX0 := Lib.hid h0
  have HZ0 := Lib.hid hz0
  obtain ⟨y, hy⟩ : ∃ y, (x.join m.term).1 = y := ⟨_, rfl⟩
  rw [hy] at KJ KK
  clear h hf hl h0 hb0 hz0 c2 c3 c4 c5 hnn hn hkn hI KC hk l1 l2 l3 l4 l5 hR ht hj hy hmt
  go_enter Tryz.func23, Tryz.ntmps23
  go_wp2_with fail
  simp only [← hW0]
  clear hW0
  go_quiet ((go_at_call 26; exact KD.out _))
  obtain ⟨n1, rfl⟩ : ∃ n1, n1 = nq := ⟨_, rfl⟩
  go_wp2_with fail
  go_region_held3 (fun X => X.cell? ⟨p.xb, 1, none⟩ = some (.pointer (some ⟨p.lb, 0, none⟩)) ∧ X.cell? ⟨w.heap.size, 3, none⟩ = some (.int .u64 (m.term : Int)))
    (first | exact ⟨c1, d3⟩ | exact hcs)
    (first
      | (go_at_call 28; refine (KT.out _).mono ?_; rintro e w3 ⟨rfl, rfl⟩)
      | (go_at_call 73; refine (KJ.out _).mono ?_; rintro e w5 ⟨rfl, ho5⟩; have hx5 := XO.get ho5; obtain ⟨v5, dv5, hp5, hc5⟩ := hx5; have hzk := (hc5.kept HLO.out (Nat.le_refl _) (block_lt HZ0.out)).trans (show (World.drewN W0 _).heap[w.heap.size]? = _ from HZ0.out); have hdd := cells10 hzk; have hcs : w5.cell? ⟨p.xb, 1, none⟩ = some (.pointer (some ⟨p.lb, 0, none⟩)) ∧ w5.cell? ⟨w.heap.size, 3, none⟩ = some (.int .u64 (m.term : Int)) := ⟨hp5.cells.2.1, hdd.2.2.2.1⟩))
  all_goals
    have HC5 := Lib.hid ((XCh.ofBelow p (HB0.out.trans ((Same.of W0 _).below _))).trans hc5)
    have HX5 := Lib.hid hp5
    obtain ⟨f0, f1, f2, f3, f4, f5, f6, f7, f8, f9⟩ := hdd
    have K5 := Lib.hid (KK.out _ _ hp5 HC5.out)
    clear hp5 hc5 ho5 hzk hcs KJ KT KD KK d0 d1 d2 d3 d4 d5 d6 d7 d8 d9 c0 c1 c6
    go_wp2_with fail
    refine K5.out.mono ?_
    rintro e w7 ⟨⟨v, rfl, hv⟩, ho⟩
    have HV := Lib.hid (hv.base (show w.heap.size ≤ _ from HC5.out.size))
    have HO := Lib.hid (XO.trans HC5.out ho)
    clear hv ho K5
    go_wp2_with fail
    go_ret
    exact ⟨⟨_, rfl, HV.out⟩, HO.out⟩
set_option maxHeartbeats 4000000 in
set_option maxRecDepth 100000 in
theorem recv_g3 (h : XW w p x) (hf : x.Fit) (hkn : x.s.Knows) (hn : x.ps.length ≤ 9) (m : Mg) (ev : Value) (hmt : m.term < m64) (hl : x.leaves m = false) (ht : x.s.c.term < m.term) (hj : (x.join m.term).2 = true) (hk : m.kind = 3) {R : RN × List Mg} (hR : x.receive m = R)
    (KC : ∀ W p', XW W p' (x.join m.term).1 → XCh p w W p' → Calls Tryz.prog 77 #[.pointer (some ⟨p.xb, 0, none⟩), .agg (mgL m ev).toArray] W fun e w' => (∃ v, e = .returned v ∧ MOwn w' W.heap.size v R.2) ∧ XO p' W R.1 w') :
    Calls Tryz.prog 23 #[.pointer (some ⟨p.xb, 0, none⟩), .agg (mgL m ev).toArray] w fun e w' => (∃ v, e = .returned v ∧ MOwn w' w.heap.size v (x.receive m).2) ∧ XO p w (x.receive m).1 w' := by
  rw [hR]
  obtain ⟨W0, hW0⟩ : ∃ W0, W0 = w.alloc (.cells (mgL m ev).toArray 40) := ⟨_, rfl⟩
  have hb0 : Below w.heap.size w W0 := by rw [hW0]; exact (Below.refl _ _).alloc (Nat.le_refl _) _
  have hz0 : W0.heap[w.heap.size]? = some (.cells (mgL m ev).toArray 40 (0, 0)) := by rw [hW0]; exact heap_alloc_new _ _
  have h0 := h.later hb0
  have HLO := Lib.hid h.low
  unfold mgL at hW0 hz0 KC ⊢
  obtain ⟨d0, d1, d2, d3, d4, d5, d6, d7, d8, d9⟩ := cells10 hz0
  obtain ⟨c0, c1, c2, c3, c4, c5, c6⟩ := h0.cells
  have KD := Lib.hid (fun q => quietE ((xdown_q (h0.drewN q) hkn).mono fun _ _ h => ⟨h.1, h.2.symm⟩))
  have KT := Lib.hid (fun q => xterm_prog (h0.drewN q))
  have KJ := Lib.hid (fun q => join_prog (h0.drewN q) hf m.term hmt)
  rw [hj] at KJ
  have KK := Lib.hid KC
  obtain ⟨n, hnn⟩ : ∃ n, x.ps.length = n := ⟨_, rfl⟩
  obtain ⟨l1, l2, l3, l4, l5⟩ := leaves_not hl
  rw [hnn] at c6 hn l5
  have hnI : (n : Int) ≤ 9 := by omega
  rw [l1] at KD
  obtain ⟨I, hI⟩ : ∃ I, x.id = I := ⟨_, rfl⟩
  rw [hI] at c0 l2 l3
  have hAI : (m.dst != (I : Int)) = false := by simp [l2]
  have hBI : (m.src == (I : Int)) = false := by simp [l3]
  have hCI : decide (m.src < 0) = false := decide_eq_false (by omega)
  have hDI : decide ((n : Int) ≤ m.src) = false := decide_eq_false (by omega)
  have hTI : decide (x.s.c.term < m.term) = true := decide_eq_true ht
  have hk0 : (m.kind == 0) = false := by rw [hk]; rfl
  have hk1 : (m.kind == 1) = false := by rw [hk]; rfl
  have hk2 : (m.kind == 2) = false := by rw [hk]; rfl
  have hk4 : (m.kind == 4) = false := by rw [hk]; rfl
  have hk3 : (m.kind == 3) = true := by rw [hk]; rfl
  have HB0 := Lib.hid hb0
  have HX0 := Lib.hid h0
  have HZ0 := Lib.hid hz0
  obtain ⟨y, hy⟩ : ∃ y, (x.join m.term).1 = y := ⟨_, rfl⟩
  rw [hy] at KJ KK
  clear h hf hl h0 hb0 hz0 c2 c3 c4 c5 hnn hn hkn hI KC hk l1 l2 l3 l4 l5 hR ht hj hy hmt
  go_enter Tryz.func23, Tryz.ntmps23
  go_wp2_with fail
  simp only [← hW0]
  clear hW0
  go_quiet ((go_at_call 26; exact KD.out _))
  obtain ⟨n1, rfl⟩ : ∃ n1, n1 = nq := ⟨_, rfl⟩
  go_wp2_with fail
  go_region_held3 (fun X => X.cell? ⟨p.xb, 1, none⟩ = some (.pointer (some ⟨p.lb, 0, none⟩)) ∧ X.cell? ⟨w.heap.size, 3, none⟩ = some (.int .u64 (m.term : Int)))
    (first | exact ⟨c1, d3⟩ | exact hcs)
    (first
      | (go_at_call 28; refine (KT.out _).mono ?_; rintro e w3 ⟨rfl, rfl⟩)
      | (go_at_call 73; refine (KJ.out _).mono ?_; rintro e w5 ⟨rfl, ho5⟩; have hx5 := XO.get ho5; obtain ⟨v5, dv5, hp5, hc5⟩ := hx5; have hzk := (hc5.kept HLO.out (Nat.le_refl _) (block_lt HZ0.out)).trans (show (World.drewN W0 _).heap[w.heap.size]? = _ from HZ0.out); have hdd := cells10 hzk; have hcs : w5.cell? ⟨p.xb, 1, none⟩ = some (.pointer (some ⟨p.lb, 0, none⟩)) ∧ w5.cell? ⟨w.heap.size, 3, none⟩ = some (.int .u64 (m.term : Int)) := ⟨hp5.cells.2.1, hdd.2.2.2.1⟩))
  all_goals
    have HC5 := Lib.hid ((XCh.ofBelow p (HB0.out.trans ((Same.of W0 _).below _))).trans hc5)
    have HX5 := Lib.hid hp5
    obtain ⟨f0, f1, f2, f3, f4, f5, f6, f7, f8, f9⟩ := hdd
    have K5 := Lib.hid (KK.out _ _ hp5 HC5.out)
    clear hp5 hc5 ho5 hzk hcs KJ KT KD KK d0 d1 d2 d3 d4 d5 d6 d7 d8 d9 c0 c1 c6
    go_wp2_with fail
    refine K5.out.mono ?_
    rintro e w7 ⟨⟨v, rfl, hv⟩, ho⟩
    have HV := Lib.hid (hv.base (show w.heap.size ≤ _ from HC5.out.size))
    have HO := Lib.hid (XO.trans HC5.out ho)
    clear hv ho K5
    go_wp2_with fail
    go_ret
    exact ⟨⟨_, rfl, HV.out⟩, HO.out⟩
end
end Go.Proofs.YtflkdgghpmhbgaaGreat
