/- raft: Receive by kinds, of the term or a lesser one. Written by wip/tools/gen9_recv.py. -/
import Derived.Test.YtflkdgghpmhbgaaGreatKK
namespace Go.Proofs.YtflkdgghpmhbgaaGreat
open Go.RowKit

/-- The entries stand behind that index, if what is agreed on need not be given up for them. -/
def RN.keep (x : RN) (b : Nat) : List Ent → RN × Bool
  | [] => (x, true)
  | e :: E => if x.s.c.termAt (b + 1) = some e.1 then x.keep (b + 1) E
    else if (x.s.c.termAt (b + 1)).isSome = true ∧ b + 1 ≤ x.commit then (x, false)
    else ({ x with s := (x.s.add b (e :: E)).1 }, decide ((x.s.add b (e :: E)).2 = 0))
def RN.take2 (x : RN) (m : Mg) (b : Nat) (E : List Ent) : RN × List Mg :=
  if (x.keep b E).2 = true then ({ (x.keep b E).1 with commit := max (x.keep b E).1.commit (min m.commit (b + E.length)) }, [({ (x.keep b E).1 with commit := max (x.keep b E).1.commit (min m.commit (b + E.length)) } : RN).ans m.src true (b + E.length)])
  else ((x.keep b E).1, [])
def RN.take (x : RN) (m : Mg) : RN × List Mg :=
  if m.index < x.s.c.base then
    (if m.ents.length < x.s.c.base - m.index then (x, [x.ans m.src true x.s.c.base]) else x.take2 m x.s.c.base (m.ents.drop (x.s.c.base - m.index)))
  else if x.s.c.termAt m.index = some m.lterm then x.take2 m m.index m.ents
  else (x, [x.ans m.src false (min x.s.c.lastN (max m.index 1 - 1))])
def RN.install (x : RN) (m : Mg) : RN × List Mg :=
  if x.commit < m.index then
    (if (x.s.install m.index m.lterm m.state).2 = 0 then ({ x with s := (x.s.install m.index m.lterm m.state).1, commit := m.index }, [({ x with s := (x.s.install m.index m.lterm m.state).1, commit := m.index } : RN).ans m.src true m.index])
      else ({ x with s := (x.s.install m.index m.lterm m.state).1 }, []))
  else (x, [x.ans m.src true x.commit])
def RN.follow (x : RN) (l : Int) : RN := { x with role := 0, leader := l, pat := 0 }
def RN.led2 (x : RN) (m : Mg) : RN × List Mg :=
  if m.term < x.s.c.term then (x, [x.ans m.src false 0])
  else if x.role = 2 then (x, [])
  else if m.kind = 4 then (x.follow m.src).install m else (x.follow m.src).take m
def RN.backs (x : RN) (m : Mg) (d : Nat) : RN :=
  { x with ps := x.ps.set d { x.ps.getD d ⟨false, 0, 0⟩ with a := max (min (max (x.ps.getD d ⟨false, 0, 0⟩).a 1 - 1) m.index) (x.ps.getD d ⟨false, 0, 0⟩).m } }
def RN.fwd (x : RN) (m : Mg) (d : Nat) : Nat := max (x.ps.getD d ⟨false, 0, 0⟩).m (min m.index x.s.c.lastN)
def RN.goes (x : RN) (m : Mg) (d : Nat) : RN := { x with ps := x.ps.set d { x.ps.getD d ⟨false, 0, 0⟩ with a := x.fwd m d, m := x.fwd m d } }
def RN.told (x : RN) (m : Mg) (d : Nat) : RN × List Mg :=
  if x.role = 2 ∧ m.term = x.s.c.term then
    (if m.ok = true then (if x.s.c.lastN ≤ x.fwd m d then ((x.goes m d).count, []) else ((x.goes m d).count, [(x.goes m d).count.feedM d]))
      else (x.backs m d, [(x.backs m d).feedM d]))
  else (x, [])
/-- What it does by kinds. -/
def RN.kindly (x : RN) (m : Mg) : RN × List Mg :=
  if m.kind = 0 then x.asked m else if m.kind = 1 then x.chosen m m.src.toNat else if m.kind = 2 ∨ m.kind = 4 then x.led2 m else if m.kind = 3 then x.told m m.src.toNat else (x, [])
/-- Messages that are left. -/
def RN.leaves (x : RN) (m : Mg) : Bool := x.s.dn || decide (m.dst ≠ (x.id : Int)) || decide (m.src = (x.id : Int)) || decide (m.src < 0) || decide ((x.ps.length : Int) ≤ m.src)
def RN.receive (x : RN) (m : Mg) : RN × List Mg :=
  if x.leaves m = true then (x, [])
  else if x.s.c.term < m.term then (if (x.join m.term).2 = true then (x.join m.term).1.kindly m else ((x.join m.term).1, []))
  else x.kindly m
theorem leaves_not {x : RN} {m : Mg} (h : x.leaves m = false) : x.s.dn = false ∧ m.dst = (x.id : Int) ∧ m.src ≠ (x.id : Int) ∧ 0 ≤ m.src ∧ m.src < (x.ps.length : Int) := by
  unfold RN.leaves at h
  simp only [Bool.or_eq_false_iff, decide_eq_false_iff_not] at h
  exact ⟨h.1.1.1.1, by omega, h.1.1.2, by omega, by omega⟩
section
variable {w : World} {p : Pl} {x : RN} {M K : Nat}
set_option maxHeartbeats 4000000 in
set_option maxRecDepth 100000 in
theorem recv_left (h : XW w p x) (hk : x.s.Knows) (hn : x.ps.length ≤ 9) (m : Mg) (ev : Value) (hl : x.leaves m = true) :
    Calls Tryz.prog 23 #[.pointer (some ⟨p.xb, 0, none⟩), .agg (mgL m ev).toArray] w fun e w' => (∃ v, e = .returned v ∧ MOwn w' w.heap.size v (x.receive m).2) ∧ XO p w (x.receive m).1 w' := by
  have EW : Hid (x.receive m = (x, [])) := Lib.hid (by unfold RN.receive; rw [if_pos hl])
  obtain ⟨W0, hW0⟩ : ∃ W0, W0 = w.alloc (.cells (mgL m ev).toArray 40) := ⟨_, rfl⟩
  have hb0 : Below w.heap.size w W0 := by rw [hW0]; exact (Below.refl _ _).alloc (Nat.le_refl _) _
  have hz0 : W0.heap[w.heap.size]? = some (.cells (mgL m ev).toArray 40 (0, 0)) := by rw [hW0]; exact heap_alloc_new _ _
  have h0 := h.later hb0
  unfold mgL at hW0 hz0 ⊢
  obtain ⟨d0, d1, d2, d3, d4, d5, d6, d7, d8, d9⟩ := cells10 hz0
  obtain ⟨c0, c1, c2, c3, c4, c5, c6⟩ := h0.cells
  have KD := Lib.hid (fun q => quietE ((xdown_q (h0.drewN q) hk).mono fun _ _ h => ⟨h.1, h.2.symm⟩))
  obtain ⟨n, hnn⟩ : ∃ n, x.ps.length = n := ⟨_, rfl⟩
  have hll : (x.s.dn || decide (m.dst ≠ (x.id : Int)) || decide (m.src = (x.id : Int)) || decide (m.src < 0) || decide ((n : Int) ≤ m.src)) = true := by rw [← hnn]; exact hl
  rw [hnn] at c6 hn
  have hnI : (n : Int) ≤ 9 := by omega
  have HF := Lib.hid (fun q => (XO.of (h0.drewN q) ((XCh.ofBelow p hb0).trans (XCh.ofBelow p ((Same.of W0 q).below _))) : XO p w x (W0.drewN q)))
  obtain ⟨dn, hdn⟩ : ∃ dn, x.s.dn = dn := ⟨_, rfl⟩
  rw [hdn] at KD hll
  obtain ⟨I, hI⟩ : ∃ I, x.id = I := ⟨_, rfl⟩
  rw [hI] at c0 hll
  clear h hl h0 hb0 hz0 c1 c2 c3 c4 c5 d0 d3 d4 d5 d6 d7 d8 d9 hnn hdn hn hk hI
  cases dn
  · by_cases hA : m.dst = (I : Int)
    · have hAI : (m.dst != (I : Int)) = false := by simp [hA]
      by_cases hB : m.src = (I : Int)
      · have hBI : (m.src == (I : Int)) = true := by simp [hB]
        clear hA hB hll
        go_enter Tryz.func23, Tryz.ntmps23
        go_wp2_with fail
        simp only [← hW0]
        clear hW0
        go_quiet ((go_at_call 26; exact KD.out _))
        go_wp2_with fail
        go_ret
        rw [EW.out]
        exact ⟨⟨_, rfl, MOwn.nil _ _⟩, HF.out _⟩
      · have hBI : (m.src == (I : Int)) = false := by simp [hB]
        by_cases hC : m.src < 0
        · have hCI : decide (m.src < 0) = true := decide_eq_true hC
          clear hA hB hll hC
          go_enter Tryz.func23, Tryz.ntmps23
          go_wp2_with fail
          simp only [← hW0]
          clear hW0
          go_quiet ((go_at_call 26; exact KD.out _))
          go_wp2_with fail
          go_ret
          rw [EW.out]
          exact ⟨⟨_, rfl, MOwn.nil _ _⟩, HF.out _⟩
        · have hCI : decide (m.src < 0) = false := decide_eq_false hC
          have hD : (n : Int) ≤ m.src := by simpa [hA, hB, hC] using hll
          have hDI : decide ((n : Int) ≤ m.src) = true := decide_eq_true hD
          clear hA hB hll hC hD
          go_enter Tryz.func23, Tryz.ntmps23
          go_wp2_with fail
          simp only [← hW0]
          clear hW0
          go_quiet ((go_at_call 26; exact KD.out _))
          go_wp2_with fail
          go_ret
          rw [EW.out]
          exact ⟨⟨_, rfl, MOwn.nil _ _⟩, HF.out _⟩
    · have hAI : (m.dst != (I : Int)) = true := by simp [hA]
      clear hA hll
      go_enter Tryz.func23, Tryz.ntmps23
      go_wp2_with fail
      simp only [← hW0]
      clear hW0
      go_quiet ((go_at_call 26; exact KD.out _))
      go_wp2_with fail
      go_ret
      rw [EW.out]
      exact ⟨⟨_, rfl, MOwn.nil _ _⟩, HF.out _⟩
  · clear hll
    go_enter Tryz.func23, Tryz.ntmps23
    go_wp2_with fail
    simp only [← hW0]
    clear hW0
    go_quiet ((go_at_call 26; exact KD.out _))
    go_wp2_with fail
    go_ret
    rw [EW.out]
    exact ⟨⟨_, rfl, MOwn.nil _ _⟩, HF.out _⟩
end
end Go.Proofs.YtflkdgghpmhbgaaGreat
namespace Go.Proofs.YtflkdgghpmhbgaaGreat
open Go.RowKit
section
variable {w : World} {p : Pl} {x : RN} {M K : Nat}
set_option maxHeartbeats 4000000 in
set_option maxRecDepth 100000 in
theorem recv_k0 (h : XW w p x) (hkn : x.s.Knows) (hn : x.ps.length ≤ 9) (m : Mg) (ev : Value) (hl : x.leaves m = false) (ht : m.term ≤ x.s.c.term) (hk : m.kind = 0) {R : RN × List Mg} (hR : x.receive m = R)
    (KC : ∀ W, XW W p x → Below w.heap.size w W → Calls Tryz.prog 74 #[.pointer (some ⟨p.xb, 0, none⟩), .agg (mgL m ev).toArray] W fun e w' => (∃ v, e = .returned v ∧ MOwn w' W.heap.size v R.2) ∧ XO p W R.1 w') :
    Calls Tryz.prog 23 #[.pointer (some ⟨p.xb, 0, none⟩), .agg (mgL m ev).toArray] w fun e w' => (∃ v, e = .returned v ∧ MOwn w' w.heap.size v (x.receive m).2) ∧ XO p w (x.receive m).1 w' := by
  rw [hR]
  obtain ⟨W0, hW0⟩ : ∃ W0, W0 = w.alloc (.cells (mgL m ev).toArray 40) := ⟨_, rfl⟩
  have hb0 : Below w.heap.size w W0 := by rw [hW0]; exact (Below.refl _ _).alloc (Nat.le_refl _) _
  have hz0 : W0.heap[w.heap.size]? = some (.cells (mgL m ev).toArray 40 (0, 0)) := by rw [hW0]; exact heap_alloc_new _ _
  have h0 := h.later hb0
  unfold mgL at hW0 hz0 KC ⊢
  obtain ⟨d0, d1, d2, d3, d4, d5, d6, d7, d8, d9⟩ := cells10 hz0
  obtain ⟨c0, c1, c2, c3, c4, c5, c6⟩ := h0.cells
  have KD := Lib.hid (fun q => quietE ((xdown_q (h0.drewN q) hkn).mono fun _ _ h => ⟨h.1, h.2.symm⟩))
  have KT := Lib.hid (xterm_q2 h0)
  have KK := Lib.hid (fun q => KC _ (h0.drewN q) (hb0.trans ((Same.of W0 q).below _)))
  obtain ⟨n, hnn⟩ : ∃ n, x.ps.length = n := ⟨_, rfl⟩
  obtain ⟨l1, l2, l3, l4, l5⟩ := leaves_not hl
  rw [hnn] at c6 hn l5
  have hnI : (n : Int) ≤ 9 := by omega
  rw [l1] at KD
  obtain ⟨I, hI⟩ : ∃ I, x.id = I := ⟨_, rfl⟩
  rw [hI] at c0 l2 l3
  have hAI : (m.dst != (I : Int)) = false := by simp [l2]
  have hBI : (m.src == (I : Int)) = false := by simp [l3]
  have hCI : decide (m.src < 0) = false := decide_eq_false (by omega)
  have hDI : decide ((n : Int) ≤ m.src) = false := decide_eq_false (by omega)
  have hTI : decide (x.s.c.term < m.term) = false := decide_eq_false (by omega)
  have hk0 : (m.kind == 0) = true := by rw [hk]; rfl
  have HB0 := Lib.hid hb0
  have HX0 := Lib.hid h0
  clear h hl h0 hb0 hz0 c2 c3 c4 c5 hnn hn hkn hI KC l1 l2 l3 l4 l5 hR ht hk
  go_enter Tryz.func23, Tryz.ntmps23
  go_wp2_with fail
  simp only [← hW0]
  clear hW0
  go_quiet ((go_at_call 26; exact KD.out _))
  go_wp2_with fail
  go_quiet ((go_at_call 28; exact KT.out _ _))
  go_wp2_with fail
  refine (KK.out _).mono ?_
  rintro e w3 ⟨⟨v, rfl, hv⟩, ho⟩
  have HV := Lib.hid (hv.base (show w.heap.size ≤ _ from HB0.out.size))
  have HO := Lib.hid (XO.trans ((XCh.ofBelow p HB0.out).trans (XCh.ofBelow p ((Same.of W0 _).below _))) ho)
  clear hv ho KK
  go_wp2_with fail
  go_ret
  exact ⟨⟨_, rfl, HV.out⟩, HO.out⟩
set_option maxHeartbeats 4000000 in
set_option maxRecDepth 100000 in
theorem recv_k1 (h : XW w p x) (hkn : x.s.Knows) (hn : x.ps.length ≤ 9) (m : Mg) (ev : Value) (hl : x.leaves m = false) (ht : m.term ≤ x.s.c.term) (hk : m.kind = 1) {R : RN × List Mg} (hR : x.receive m = R)
    (KC : ∀ W, XW W p x → Below w.heap.size w W → Calls Tryz.prog 75 #[.pointer (some ⟨p.xb, 0, none⟩), .agg (mgL m ev).toArray] W fun e w' => (∃ v, e = .returned v ∧ MOwn w' W.heap.size v R.2) ∧ XO p W R.1 w') :
    Calls Tryz.prog 23 #[.pointer (some ⟨p.xb, 0, none⟩), .agg (mgL m ev).toArray] w fun e w' => (∃ v, e = .returned v ∧ MOwn w' w.heap.size v (x.receive m).2) ∧ XO p w (x.receive m).1 w' := by
  rw [hR]
  obtain ⟨W0, hW0⟩ : ∃ W0, W0 = w.alloc (.cells (mgL m ev).toArray 40) := ⟨_, rfl⟩
  have hb0 : Below w.heap.size w W0 := by rw [hW0]; exact (Below.refl _ _).alloc (Nat.le_refl _) _
  have hz0 : W0.heap[w.heap.size]? = some (.cells (mgL m ev).toArray 40 (0, 0)) := by rw [hW0]; exact heap_alloc_new _ _
  have h0 := h.later hb0
  unfold mgL at hW0 hz0 KC ⊢
  obtain ⟨d0, d1, d2, d3, d4, d5, d6, d7, d8, d9⟩ := cells10 hz0
  obtain ⟨c0, c1, c2, c3, c4, c5, c6⟩ := h0.cells
  have KD := Lib.hid (fun q => quietE ((xdown_q (h0.drewN q) hkn).mono fun _ _ h => ⟨h.1, h.2.symm⟩))
  have KT := Lib.hid (xterm_q2 h0)
  have KK := Lib.hid (fun q => KC _ (h0.drewN q) (hb0.trans ((Same.of W0 q).below _)))
  obtain ⟨n, hnn⟩ : ∃ n, x.ps.length = n := ⟨_, rfl⟩
  obtain ⟨l1, l2, l3, l4, l5⟩ := leaves_not hl
  rw [hnn] at c6 hn l5
  have hnI : (n : Int) ≤ 9 := by omega
  rw [l1] at KD
  obtain ⟨I, hI⟩ : ∃ I, x.id = I := ⟨_, rfl⟩
  rw [hI] at c0 l2 l3
  have hAI : (m.dst != (I : Int)) = false := by simp [l2]
  have hBI : (m.src == (I : Int)) = false := by simp [l3]
  have hCI : decide (m.src < 0) = false := decide_eq_false (by omega)
  have hDI : decide ((n : Int) ≤ m.src) = false := decide_eq_false (by omega)
  have hTI : decide (x.s.c.term < m.term) = false := decide_eq_false (by omega)
  have hk0 : (m.kind == 0) = false := by rw [hk]; rfl
  have hk1 : (m.kind == 1) = true := by rw [hk]; rfl
  have HB0 := Lib.hid hb0
  have HX0 := Lib.hid h0
  clear h hl h0 hb0 hz0 c2 c3 c4 c5 hnn hn hkn hI KC l1 l2 l3 l4 l5 hR ht hk
  go_enter Tryz.func23, Tryz.ntmps23
  go_wp2_with fail
  simp only [← hW0]
  clear hW0
  go_quiet ((go_at_call 26; exact KD.out _))
  go_wp2_with fail
  go_quiet ((go_at_call 28; exact KT.out _ _))
  go_wp2_with fail
  refine (KK.out _).mono ?_
  rintro e w3 ⟨⟨v, rfl, hv⟩, ho⟩
  have HV := Lib.hid (hv.base (show w.heap.size ≤ _ from HB0.out.size))
  have HO := Lib.hid (XO.trans ((XCh.ofBelow p HB0.out).trans (XCh.ofBelow p ((Same.of W0 _).below _))) ho)
  clear hv ho KK
  go_wp2_with fail
  go_ret
  exact ⟨⟨_, rfl, HV.out⟩, HO.out⟩
set_option maxHeartbeats 4000000 in
set_option maxRecDepth 100000 in
theorem recv_k2 (h : XW w p x) (hkn : x.s.Knows) (hn : x.ps.length ≤ 9) (m : Mg) (ev : Value) (hl : x.leaves m = false) (ht : m.term ≤ x.s.c.term) (hk : m.kind = 2) {R : RN × List Mg} (hR : x.receive m = R)
    (KC : ∀ W, XW W p x → Below w.heap.size w W → Calls Tryz.prog 76 #[.pointer (some ⟨p.xb, 0, none⟩), .agg (mgL m ev).toArray] W fun e w' => (∃ v, e = .returned v ∧ MOwn w' W.heap.size v R.2) ∧ XO p W R.1 w') :
    Calls Tryz.prog 23 #[.pointer (some ⟨p.xb, 0, none⟩), .agg (mgL m ev).toArray] w fun e w' => (∃ v, e = .returned v ∧ MOwn w' w.heap.size v (x.receive m).2) ∧ XO p w (x.receive m).1 w' := by
  rw [hR]
  obtain ⟨W0, hW0⟩ : ∃ W0, W0 = w.alloc (.cells (mgL m ev).toArray 40) := ⟨_, rfl⟩
  have hb0 : Below w.heap.size w W0 := by rw [hW0]; exact (Below.refl _ _).alloc (Nat.le_refl _) _
  have hz0 : W0.heap[w.heap.size]? = some (.cells (mgL m ev).toArray 40 (0, 0)) := by rw [hW0]; exact heap_alloc_new _ _
  have h0 := h.later hb0
  unfold mgL at hW0 hz0 KC ⊢
  obtain ⟨d0, d1, d2, d3, d4, d5, d6, d7, d8, d9⟩ := cells10 hz0
  obtain ⟨c0, c1, c2, c3, c4, c5, c6⟩ := h0.cells
  have KD := Lib.hid (fun q => quietE ((xdown_q (h0.drewN q) hkn).mono fun _ _ h => ⟨h.1, h.2.symm⟩))
  have KT := Lib.hid (xterm_q2 h0)
  have KK := Lib.hid (fun q => KC _ (h0.drewN q) (hb0.trans ((Same.of W0 q).below _)))
  obtain ⟨n, hnn⟩ : ∃ n, x.ps.length = n := ⟨_, rfl⟩
  obtain ⟨l1, l2, l3, l4, l5⟩ := leaves_not hl
  rw [hnn] at c6 hn l5
  have hnI : (n : Int) ≤ 9 := by omega
  rw [l1] at KD
  obtain ⟨I, hI⟩ : ∃ I, x.id = I := ⟨_, rfl⟩
  rw [hI] at c0 l2 l3
  have hAI : (m.dst != (I : Int)) = false := by simp [l2]
  have hBI : (m.src == (I : Int)) = false := by simp [l3]
  have hCI : decide (m.src < 0) = false := decide_eq_false (by omega)
  have hDI : decide ((n : Int) ≤ m.src) = false := decide_eq_false (by omega)
  have hTI : decide (x.s.c.term < m.term) = false := decide_eq_false (by omega)
  have hk0 : (m.kind == 0) = false := by rw [hk]; rfl
  have hk1 : (m.kind == 1) = false := by rw [hk]; rfl
  have hk2 : (m.kind == 2) = true := by rw [hk]; rfl
  have HB0 := Lib.hid hb0
  have HX0 := Lib.hid h0
  clear h hl h0 hb0 hz0 c2 c3 c4 c5 hnn hn hkn hI KC l1 l2 l3 l4 l5 hR ht hk
  go_enter Tryz.func23, Tryz.ntmps23
  go_wp2_with fail
  simp only [← hW0]
  clear hW0
  go_quiet ((go_at_call 26; exact KD.out _))
  go_wp2_with fail
  go_quiet ((go_at_call 28; exact KT.out _ _))
  go_wp2_with fail
  refine (KK.out _).mono ?_
  rintro e w3 ⟨⟨v, rfl, hv⟩, ho⟩
  have HV := Lib.hid (hv.base (show w.heap.size ≤ _ from HB0.out.size))
  have HO := Lib.hid (XO.trans ((XCh.ofBelow p HB0.out).trans (XCh.ofBelow p ((Same.of W0 _).below _))) ho)
  clear hv ho KK
  go_wp2_with fail
  go_ret
  exact ⟨⟨_, rfl, HV.out⟩, HO.out⟩
set_option maxHeartbeats 4000000 in
set_option maxRecDepth 100000 in
theorem recv_k4 (h : XW w p x) (hkn : x.s.Knows) (hn : x.ps.length ≤ 9) (m : Mg) (ev : Value) (hl : x.leaves m = false) (ht : m.term ≤ x.s.c.term) (hk : m.kind = 4) {R : RN × List Mg} (hR : x.receive m = R)
    (KC : ∀ W, XW W p x → Below w.heap.size w W → Calls Tryz.prog 76 #[.pointer (some ⟨p.xb, 0, none⟩), .agg (mgL m ev).toArray] W fun e w' => (∃ v, e = .returned v ∧ MOwn w' W.heap.size v R.2) ∧ XO p W R.1 w') :
    Calls Tryz.prog 23 #[.pointer (some ⟨p.xb, 0, none⟩), .agg (mgL m ev).toArray] w fun e w' => (∃ v, e = .returned v ∧ MOwn w' w.heap.size v (x.receive m).2) ∧ XO p w (x.receive m).1 w' := by
  rw [hR]
  obtain ⟨W0, hW0⟩ : ∃ W0, W0 = w.alloc (.cells (mgL m ev).toArray 40) := ⟨_, rfl⟩
  have hb0 : Below w.heap.size w W0 := by rw [hW0]; exact (Below.refl _ _).alloc (Nat.le_refl _) _
  have hz0 : W0.heap[w.heap.size]? = some (.cells (mgL m ev).toArray 40 (0, 0)) := by rw [hW0]; exact heap_alloc_new _ _
  have h0 := h.later hb0
  unfold mgL at hW0 hz0 KC ⊢
  obtain ⟨d0, d1, d2, d3, d4, d5, d6, d7, d8, d9⟩ := cells10 hz0
  obtain ⟨c0, c1, c2, c3, c4, c5, c6⟩ := h0.cells
  have KD := Lib.hid (fun q => quietE ((xdown_q (h0.drewN q) hkn).mono fun _ _ h => ⟨h.1, h.2.symm⟩))
  have KT := Lib.hid (xterm_q2 h0)
  have KK := Lib.hid (fun q => KC _ (h0.drewN q) (hb0.trans ((Same.of W0 q).below _)))
  obtain ⟨n, hnn⟩ : ∃ n, x.ps.length = n := ⟨_, rfl⟩
  obtain ⟨l1, l2, l3, l4, l5⟩ := leaves_not hl
  rw [hnn] at c6 hn l5
  have hnI : (n : Int) ≤ 9 := by omega
  rw [l1] at KD
  obtain ⟨I, hI⟩ : ∃ I, x.id = I := ⟨_, rfl⟩
  rw [hI] at c0 l2 l3
  have hAI : (m.dst != (I : Int)) = false := by simp [l2]
  have hBI : (m.src == (I : Int)) = false := by simp [l3]
  have hCI : decide (m.src < 0) = false := decide_eq_false (by omega)
  have hDI : decide ((n : Int) ≤ m.src) = false := decide_eq_false (by omega)
  have hTI : decide (x.s.c.term < m.term) = false := decide_eq_false (by omega)
  have hk0 : (m.kind == 0) = false := by rw [hk]; rfl
  have hk1 : (m.kind == 1) = false := by rw [hk]; rfl
  have hk2 : (m.kind == 2) = false := by rw [hk]; rfl
  have hk4 : (m.kind == 4) = true := by rw [hk]; rfl
  have HB0 := Lib.hid hb0
  have HX0 := Lib.hid h0
  clear h hl h0 hb0 hz0 c2 c3 c4 c5 hnn hn hkn hI KC l1 l2 l3 l4 l5 hR ht hk
  go_enter Tryz.func23, Tryz.ntmps23
  go_wp2_with fail
  simp only [← hW0]
  clear hW0
  go_quiet ((go_at_call 26; exact KD.out _))
  go_wp2_with fail
  go_quiet ((go_at_call 28; exact KT.out _ _))
  go_wp2_with fail
  refine (KK.out _).mono ?_
  rintro e w3 ⟨⟨v, rfl, hv⟩, ho⟩
  have HV := Lib.hid (hv.base (show w.heap.size ≤ _ from HB0.out.size))
  have HO := Lib.hid (XO.trans ((XCh.ofBelow p HB0.out).trans (XCh.ofBelow p ((Same.of W0 _).below _))) ho)
  clear hv ho KK
  go_wp2_with fail
  go_ret
  exact ⟨⟨_, rfl, HV.out⟩, HO.out⟩
set_option maxHeartbeats 4000000 in
set_option maxRecDepth 100000 in
theorem recv_k3 (h : XW w p x) (hkn : x.s.Knows) (hn : x.ps.length ≤ 9) (m : Mg) (ev : Value) (hl : x.leaves m = false) (ht : m.term ≤ x.s.c.term) (hk : m.kind = 3) {R : RN × List Mg} (hR : x.receive m = R)
    (KC : ∀ W, XW W p x → Below w.heap.size w W → Calls Tryz.prog 77 #[.pointer (some ⟨p.xb, 0, none⟩), .agg (mgL m ev).toArray] W fun e w' => (∃ v, e = .returned v ∧ MOwn w' W.heap.size v R.2) ∧ XO p W R.1 w') :
    Calls Tryz.prog 23 #[.pointer (some ⟨p.xb, 0, none⟩), .agg (mgL m ev).toArray] w fun e w' => (∃ v, e = .returned v ∧ MOwn w' w.heap.size v (x.receive m).2) ∧ XO p w (x.receive m).1 w' := by
  rw [hR]
  obtain ⟨W0, hW0⟩ : ∃ W0, W0 = w.alloc (.cells (mgL m ev).toArray 40) := ⟨_, rfl⟩
  have hb0 : Below w.heap.size w W0 := by rw [hW0]; exact (Below.refl _ _).alloc (Nat.le_refl _) _
  have hz0 : W0.heap[w.heap.size]? = some (.cells (mgL m ev).toArray 40 (0, 0)) := by rw [hW0]; exact heap_alloc_new _ _
  have h0 := h.later hb0
  unfold mgL at hW0 hz0 KC ⊢
  obtain ⟨d0, d1, d2, d3, d4, d5, d6, d7, d8, d9⟩ := cells10 hz0
  obtain ⟨c0, c1, c2, c3, c4, c5, c6⟩ := h0.cells
  have KD := Lib.hid (fun q => quietE ((xdown_q (h0.drewN q) hkn).mono fun _ _ h => ⟨h.1, h.2.symm⟩))
  have KT := Lib.hid (xterm_q2 h0)
  have KK := Lib.hid (fun q => KC _ (h0.drewN q) (hb0.trans ((Same.of W0 q).below _)))
  obtain ⟨n, hnn⟩ : ∃ n, x.ps.length = n := ⟨_, rfl⟩
  obtain ⟨l1, l2, l3, l4, l5⟩ := leaves_not hl
  rw [hnn] at c6 hn l5
  have hnI : (n : Int) ≤ 9 := by omega
  rw [l1] at KD
  obtain ⟨I, hI⟩ : ∃ I, x.id = I := ⟨_, rfl⟩
  rw [hI] at c0 l2 l3
  have hAI : (m.dst != (I : Int)) = false := by simp [l2]
  have hBI : (m.src == (I : Int)) = false := by simp [l3]
  have hCI : decide (m.src < 0) = false := decide_eq_false (by omega)
  have hDI : decide ((n : Int) ≤ m.src) = false := decide_eq_false (by omega)
  have hTI : decide (x.s.c.term < m.term) = false := decide_eq_false (by omega)
  have hk0 : (m.kind == 0) = false := by rw [hk]; rfl
  have hk1 : (m.kind == 1) = false := by rw [hk]; rfl
  have hk2 : (m.kind == 2) = false := by rw [hk]; rfl
  have hk4 : (m.kind == 4) = false := by rw [hk]; rfl
  have hk3 : (m.kind == 3) = true := by rw [hk]; rfl
  have HB0 := Lib.hid hb0
  have HX0 := Lib.hid h0
  clear h hl h0 hb0 hz0 c2 c3 c4 c5 hnn hn hkn hI KC l1 l2 l3 l4 l5 hR ht hk
  go_enter Tryz.func23, Tryz.ntmps23
  go_wp2_with fail
  simp only [← hW0]
  clear hW0
  go_quiet ((go_at_call 26; exact KD.out _))
  go_wp2_with fail
  go_quiet ((go_at_call 28; exact KT.out _ _))
  go_wp2_with fail
  refine (KK.out _).mono ?_
  rintro e w3 ⟨⟨v, rfl, hv⟩, ho⟩
  have HV := Lib.hid (hv.base (show w.heap.size ≤ _ from HB0.out.size))
  have HO := Lib.hid (XO.trans ((XCh.ofBelow p HB0.out).trans (XCh.ofBelow p ((Same.of W0 _).below _))) ho)
  clear hv ho KK
  go_wp2_with fail
  go_ret
  exact ⟨⟨_, rfl, HV.out⟩, HO.out⟩
end
end Go.Proofs.YtflkdgghpmhbgaaGreat
