/- raft: told. -/
import Derived.Test.YtflkdgghpmhbgaaGreatKN
namespace Go.Proofs.YtflkdgghpmhbgaaGreat
open Go.RowKit
section
variable {w : World} {p : Pl} {x : RN} {M K : Nat}
set_option maxHeartbeats 8000000 in
set_option maxRecDepth 100000 in
theorem told_prog {m : Mg} (h : XW w p x) (hf : x.Fit) (d : Nat) (hd : d < x.ps.length) (hsrc : m.src = (d : Int)) (hfb : (x.backs m d).Fit) (hfg : (x.goes m d).Fit) (hfc : (x.goes m d).count.Fit) (ev : Value) (hidx : m.index ≤ 1000000000000000000) :
    Calls Tryz.prog 77 #[.pointer (some ⟨p.xb, 0, none⟩), .agg (mgL m ev).toArray] w fun e w' => (∃ v, e = .returned v ∧ MOwn w' w.heap.size v (x.told m d).2) ∧ XO p w (x.told m d).1 w' := by
  obtain ⟨W0, hW0⟩ : ∃ W0, W0 = w.alloc (.cells (mgL m ev).toArray 40) := ⟨_, rfl⟩
  have hb0 : Below w.heap.size w W0 := by rw [hW0]; exact (Below.refl _ _).alloc (Nat.le_refl _) _
  have hz0 : W0.heap[w.heap.size]? = some (.cells (mgL m ev).toArray 40 (0, 0)) := by rw [hW0]; exact heap_alloc_new _ _
  have h0 := h.later hb0
  have HLO := Lib.hid h.low
  unfold mgL at hW0 hz0 ⊢
  rw [hsrc] at hW0 hz0 ⊢
  obtain ⟨d0, d1, d2, d3, d4, d5, d6, d7, d8, d9⟩ := cells10 hz0
  obtain ⟨c0, c1, c2, c3, c4, c5, c6⟩ := h0.cells
  have KT := Lib.hid (xterm_q h0)
  have EW : Hid (x.told m d = if x.role = 2 ∧ m.term = x.s.c.term then
    (if m.ok = true then (if x.s.c.lastN ≤ x.fwd m d then ((x.goes m d).count, []) else ((x.goes m d).count, [(x.goes m d).count.feedM d]))
      else (x.backs m d, [(x.backs m d).feedM d]))
  else (x, [])) := Lib.hid rfl
  have hq : x.ps[d]? = some (x.ps.getD d ⟨false, 0, 0⟩) := by rw [List.getD_eq_getElem?_getD, List.getElem?_eq_getElem hd]; rfl
  have hqb := hf.ps _ (List.mem_of_getElem? hq)
  have HGB : Hid (∀ W, XW W p x → XW (W.setCell ⟨p.nb, d * 3 + 1, none⟩ (.int .u64 ((max (min (max (x.ps.getD d ⟨false, 0, 0⟩).a 1 - 1) m.index) (x.ps.getD d ⟨false, 0, 0⟩).m : Nat) : Int))) p (x.backs m d)) := Lib.hid (fun W hW => hW.setA hq _)
  obtain ⟨y7, hy7⟩ : ∃ y7 : RN, y7 = { x with ps := x.ps.set d { x.ps.getD d ⟨false, 0, 0⟩ with m := x.fwd m d } } := ⟨_, rfl⟩
  have HG7 : Hid (∀ W, XW W p x → XW (W.setCell ⟨p.nb, d * 3 + 2, none⟩ (.int .u64 ((x.fwd m d : Nat) : Int))) p y7) := Lib.hid (fun W hW => by rw [hy7]; exact hW.setM hq _)
  have hq7 : y7.ps[d]? = some { x.ps.getD d ⟨false, 0, 0⟩ with m := x.fwd m d } := by rw [hy7]; show (x.ps.set d _)[d]? = _; rw [List.getElem?_set_self hd]
  have HGG : Hid (∀ W, XW W p y7 → XW (W.setCell ⟨p.nb, d * 3 + 1, none⟩ (.int .u64 ((x.fwd m d : Nat) : Int))) p (x.goes m d)) := Lib.hid (fun W hW => by
    have h2 := hW.setA hq7 (x.fwd m d)
    have e : ({ y7 with ps := y7.ps.set d { x.ps.getD d ⟨false, 0, 0⟩ with a := x.fwd m d, m := x.fwd m d } } : RN) = x.goes m d := by
      rw [hy7]
      unfold RN.goes
      simp only [List.set_set]
    rw [← e]
    exact h2)
  have hq9 : (x.goes m d).count.ps[d]? = some { x.ps.getD d ⟨false, 0, 0⟩ with a := x.fwd m d, m := x.fwd m d } := by
    have e : (x.goes m d).count.ps = (x.goes m d).ps := by unfold RN.count; split <;> rfl
    rw [e]
    show (x.ps.set d _)[d]? = _
    rw [List.getElem?_set_self hd]
  have HX0 := Lib.hid h0
  have HB0 := Lib.hid hb0
  have HZ0 := Lib.hid hz0
  have hdI : (d : Int) < (x.ps.length : Int) := by omega
  have hd0 : (0 : Int) ≤ (d : Int) := by omega
  have hn := hf.n
  have hnI : (x.ps.length : Int) ≤ 9 := by omega
  have hlB : d < (x.backs m d).ps.length := by show d < (List.set _ _ _).length; rw [List.length_set]; exact hd
  have KFB := Lib.hid (fun W (hW : XW W p (x.backs m d)) => feed_prog hW hfb d hlB)
  have hlC : d < (x.goes m d).count.ps.length := by
    have e : (x.goes m d).count.ps = (x.goes m d).ps := by unfold RN.count; split <;> rfl
    rw [e]
    show d < (List.set _ _ _).length
    rw [List.length_set]
    exact hd
  have KFC := Lib.hid (fun W (hW : XW W p (x.goes m d).count) => feed_prog hW hfc d hlC)
  have KCO := Lib.hid (fun W (hW : XW W p (x.goes m d)) => count_prog hW hfg)
  have KL := Lib.hid (fun q => xlast_prog (h0.drewN q) hf)
  have eS : (x.goes m d).count.s = x.s := by unfold RN.count; split <;> rfl
  have KLC := Lib.hid (fun W (hW : XW W p (x.goes m d).count) => xlast_prog hW hfc)
  rw [eS] at KLC
  obtain ⟨n, hnn⟩ : ∃ n, x.ps.length = n := ⟨_, rfl⟩
  rw [hnn] at c6 hdI hnI
  have HF := Lib.hid (fun q => (XO.of (h0.drewN q) ((XCh.ofBelow p hb0).trans (XCh.ofBelow p ((Same.of W0 q).below _))) : XO p w x (W0.drewN q)))
  obtain ⟨_, q1, q2⟩ := h0.peer hq
  have z1 := h0.nfree (d * 3 + 1)
  have z2 := h0.nfree (d * 3 + 2)
  have HNUM := Lib.hid (And.intro hidx hqb)
  have EFW : Hid (x.fwd m d = max (x.ps.getD d ⟨false, 0, 0⟩).m (min m.index x.s.c.lastN)) := Lib.hid rfl
  obtain ⟨qq, hqq⟩ : ∃ qq, x.ps.getD d ⟨false, 0, 0⟩ = qq := ⟨_, rfl⟩
  rw [hqq] at q1 q2 HGB HNUM EFW hq7 hq9
  have HQ7 := Lib.hid hq7
  obtain ⟨yb, hyb⟩ : ∃ yb, x.backs m d = yb := ⟨_, rfl⟩
  obtain ⟨yg, hyg⟩ : ∃ yg, (x.goes m d).count = yg := ⟨_, rfl⟩
  rw [hyb] at EW HGB KFB
  rw [hyg] at EW KFC KLC KCO hq9
  have HQ9 := Lib.hid hq9
  clear h h0 hf hfb hfg hfc hb0 hz0 hidx c0 c3 c4 c5 d0 d2 d5 d6 d8 d9 hd hsrc hq hqb hn hnn hlB hlC eS hqq hyb hyg hy7 hq7 hq9
  by_cases hA : x.role = 2
  · have hAI : (x.role != 2) = false := by simp [hA]
    by_cases hB : m.term = x.s.c.term
    · have hBI : ((m.term : Int) != (x.s.c.term : Int)) = false := by simp [hB]
      rw [if_pos ⟨hA, hB⟩] at EW
      obtain ⟨ok, hok⟩ : ∃ ok, m.ok = ok := ⟨_, rfl⟩
      rw [hok] at d7 EW
      clear hA hB hok HF
      cases ok
      · have EW2 : Hid (x.told m d = (yb, [yb.feedM d])) := Lib.hid (by rw [EW.out, if_neg (by simp)])
        clear EW KCO KFC KL KLC HGG EFW HG7 HQ7 HQ9
        obtain ⟨X1, hX1⟩ : ∃ X1, max qq.a 1 = X1 := ⟨_, rfl⟩
        obtain ⟨X2, hX2⟩ : ∃ X2, X1 - 1 = X2 := ⟨_, rfl⟩
        obtain ⟨X3, hX3⟩ : ∃ X3, min X2 m.index = X3 := ⟨_, rfl⟩
        obtain ⟨X4, hX4⟩ : ∃ X4, max X3 qq.m = X4 := ⟨_, rfl⟩
        rw [hX1, hX2, hX3, hX4] at HGB
        have hM1 : (if (qq.a : Int) < 1 then 1 else (qq.a : Int)) = (X1 : Int) := by split <;> omega
        have hM2 : IntKind.u64.wrap ((X1 : Int) - 1) = (X2 : Int) := by rw [show (X1 : Int) - 1 = (X2 : Int) by omega]; exact u64_nat' _ (by have := HNUM.out; omega)
        have hM3 : (if m.index < X2 then (m.index : Int) else (X2 : Int)) = (X3 : Int) := by split <;> omega
        have hM4 : (if X3 < qq.m then (qq.m : Int) else (X3 : Int)) = (X4 : Int) := by split <;> omega
        clear hX1 hX2 hX3 hX4
        go_enter Tryz.func77, Tryz.ntmps77
        go_wp2_with fail
        simp only [← hW0]
        clear hW0
        go_quiet ((go_at_call 28; exact KT.out _))
        go_wp2_with fail
        obtain ⟨n1, rfl⟩ : ∃ n1, n1 = nq := ⟨_, rfl⟩
        go_quiet (fail)
        go_wp2_with fail
        go_region
        have hx8 := HGB.out _ (HX0.out.drewN (n1 + nq + 1))
        have hc8 := ((XCh.ofBelow p HB0.out).trans (XCh.ofBelow p ((Same.of W0 (n1 + nq + 1)).below _))).trans (XCh.setP p (W0.drewN (n1 + nq + 1)) (d * 3 + 1) (.int .u64 (X4 : Int)))
        have hng : w.heap.size ≠ p.nb := fun e => by have := HLO.out.nb; omega
        have e1 : ((W0.drewN (n1 + nq + 1)).setCell ⟨p.nb, d * 3 + 1, none⟩ (.int .u64 (X4 : Int))).cell? ⟨w.heap.size, 1, none⟩ = some (.int .i64 (d : Int)) := cellO (w := W0.drewN _) d1 hng
        obtain ⟨W8, hW8⟩ : ∃ W8, W8 = (W0.drewN (n1 + nq + 1)).setCell ⟨p.nb, d * 3 + 1, none⟩ (.int .u64 (X4 : Int)) := ⟨_, rfl⟩
        rw [← hW8] at hx8 hc8 e1 ⊢
        have HX8 := Lib.hid hx8
        have HC8 := Lib.hid hc8
        have KF8 := Lib.hid (KFB.out _ hx8)
        clear hx8 hc8 hW8 d1 d3 d4 d7 c1 c2 c6 q1 q2 z1 z2 HGB KFB KT hM1 hM2 hM3 hM4 hng
        obtain ⟨M9, hM9⟩ : ∃ M9, yb.feedM d = M9 := ⟨_, rfl⟩
        rw [hM9] at KF8 EW2
        clear hM9
        go_wp2_with fail
        refine KF8.out.mono ?_
        rintro e w9 ⟨⟨v, rfl, ev9, rfl, ho9⟩, hb9⟩
        have HX9 := Lib.hid (HX8.out.later hb9)
        have HC9 := Lib.hid (HC8.out.trans (XCh.ofBelow p hb9))
        have HO9 : Hid (EOwn w9 w.heap.size ev9 M9.ents) := Lib.hid (EOwn.base (B := W8.heap.size) ho9 (fun k hk => Nat.le_trans HC8.out.size (EOwn.low (B := W8.heap.size) ho9 k hk)))
        clear ho9 hb9 KF8
        unfold mgL
        go_wp2_with fail
        go_ret
        rw [EW2.out]
        exact ⟨⟨_, rfl, MOwn.one (ev := ev9) (heap_alloc_new _ _) rfl HC9.out.size (HO9.out.later ((Below.refl _ _).alloc (Nat.le_refl _) _))⟩, XO.of (HX9.out.later ((Below.refl _ _).alloc (Nat.le_refl _) _)) (HC9.out.trans (XCh.ofBelow p ((Below.refl _ _).alloc (Nat.le_refl _) _)))⟩
      · rw [if_pos rfl] at EW
        have HXN := Lib.hid HX0.out.xn
        have HNG : Hid (w.heap.size ≠ p.nb) := Lib.hid (fun e => by have := HLO.out.nb; omega)
        clear HGB KFB
        obtain ⟨L, hL⟩ : ∃ L, x.s.c.lastN = L := ⟨_, rfl⟩
        rw [hL] at KL KLC EFW EW
        obtain ⟨Y2, hY2⟩ : ∃ Y2, x.fwd m d = Y2 := ⟨_, rfl⟩
        rw [hY2] at HGG HG7 HQ7 HQ9 EFW EW
        obtain ⟨Y1, hY1⟩ : ∃ Y1, min m.index L = Y1 := ⟨_, rfl⟩
        have hY := EFW.out
        rw [hY1] at hY
        have hM1 : (if L < m.index then (L : Int) else (m.index : Int)) = (Y1 : Int) := by split <;> omega
        have hM2 : (if qq.m < Y1 then (Y1 : Int) else (qq.m : Int)) = (Y2 : Int) := by split <;> omega
        clear hL hY2 hY1 hY EFW
        go_enter Tryz.func77, Tryz.ntmps77
        go_wp2_with fail
        simp only [← hW0]
        clear hW0
        go_quiet ((go_at_call 28; exact KT.out _))
        go_wp2_with fail
        obtain ⟨n1, rfl⟩ : ∃ n1, n1 = nq := ⟨_, rfl⟩
        go_quiet (fail)
        go_upto_region 7 with fail
        go_cut [] (fun wx => ∃ k, wx = (W0.drewN k).setCell ⟨p.nb, d * 3 + 2, none⟩ (.int .u64 (Y2 : Int)))
        case first =>
          go_region_law (first | (go_simp; go_at_call 31; refine (KL.out _).mono ?_; rintro e w4 ⟨rfl, q4, rfl⟩))
          all_goals
            go_wp2_with fail
            go_meet
            exact ⟨_, rfl⟩
        case rest =>
          obtain ⟨k7, rfl⟩ := hcut
          have hng : w.heap.size ≠ p.nb := HNG.out
          have hx7 := HG7.out _ (HX0.out.drewN k7)
          have hc7 := ((XCh.ofBelow p HB0.out).trans (XCh.ofBelow p ((Same.of W0 k7).below _))).trans (XCh.setP p (W0.drewN k7) (d * 3 + 2) (.int .u64 (Y2 : Int)))
          have hz7 : ((W0.drewN k7).setCell ⟨p.nb, d * 3 + 2, none⟩ (.int .u64 (Y2 : Int))).heap[w.heap.size]? = _ := (heap_setCell_other _ ⟨p.nb, d * 3 + 2, none⟩ w.heap.size _ hng).trans HZ0.out
          obtain ⟨W7, hW7⟩ : ∃ W7, W7 = (W0.drewN k7).setCell ⟨p.nb, d * 3 + 2, none⟩ (.int .u64 (Y2 : Int)) := ⟨_, rfl⟩
          rw [← hW7] at hx7 hc7 hz7 ⊢
          obtain ⟨_, r1, r2⟩ := hx7.peer HQ7.out
          have y1 := hx7.nfree (d * 3 + 1)
          have hx8 := HGG.out _ hx7
          have hc8 := hc7.trans (XCh.setP p W7 (d * 3 + 1) (.int .u64 (Y2 : Int)))
          have hz8 : (W7.setCell ⟨p.nb, d * 3 + 1, none⟩ (.int .u64 (Y2 : Int))).heap[w.heap.size]? = _ := (heap_setCell_other _ ⟨p.nb, d * 3 + 1, none⟩ w.heap.size _ hng).trans hz7
          have KC := Lib.hid (KCO.out _ hx8)
          have HC8 := Lib.hid hc8
          have HZ8 := Lib.hid hz8
          clear hx7 hc7 hz7 hW7 hx8 hc8 hz8 hng d1 d3 d4 d7 c1 c2 c6 q1 q2 z1 z2 HGG HG7 KCO KT KL hM1 hM2
          dsimp only at r1 r2
          go_wp2_with fail
          refine KC.out.mono ?_
          rintro e w9 ⟨rfl, hx9, hc9⟩
          have hz9 := (hc9.kept HLO.out (Nat.le_refl _) (block_lt HZ8.out)).trans HZ8.out
          obtain ⟨_, g1, _, _, _, _, _, _, _, _⟩ := cells10 hz9
          obtain ⟨_, b1, _, _, _, _, _⟩ := hx9.cells
          obtain ⟨_, s1, _⟩ := hx9.peer HQ9.out
          dsimp only at s1
          have HX9 := Lib.hid hx9
          have HC9 := Lib.hid (HC8.out.trans hc9)
          have KQ := Lib.hid (fun q => (KLC.out _ (hx9.drewN q)).mono fun _ _ h => And.intro h.1 ((Same.of w9 q).trans h.2))
          have KFQ := Lib.hid (fun q => KFC.out _ (hx9.drewN q))
          clear hx9 hc9 hz9 KC KLC KFC r1 r2 y1
          by_cases hlast : L ≤ Y2
          · have hlI : decide (L ≤ Y2) = true := decide_eq_true hlast
            rw [if_pos hlast] at EW
            clear hlast KFQ
            go_wp2_with fail
            go_quiet ((go_at_call 31; exact KQ.out _))
            go_wp2_with fail
            go_ret
            rw [EW.out]
            exact ⟨⟨_, rfl, MOwn.nil _ _⟩, XO.of (HX9.out.drewN _) (HC9.out.trans (XCh.ofBelow p ((Same.of _ _).below _)))⟩
          · have hlI : decide (L ≤ Y2) = false := decide_eq_false hlast
            rw [if_neg hlast] at EW
            clear hlast
            obtain ⟨M9, hM9⟩ : ∃ M9, yg.feedM d = M9 := ⟨_, rfl⟩
            rw [hM9] at KFQ EW
            clear hM9
            go_wp2_with fail
            go_quiet ((go_at_call 31; exact KQ.out _))
            go_wp2_with fail
            refine (KFQ.out _).mono ?_
            rintro e w10 ⟨⟨v, rfl, ev9, rfl, ho9⟩, hb9⟩
            have HX10 := Lib.hid ((HX9.out.drewN _).later hb9)
            have HC10 := Lib.hid ((HC9.out.trans (XCh.ofBelow p ((Same.of w9 _).below _))).trans (XCh.ofBelow p hb9))
            have HO10 : Hid (EOwn w10 w.heap.size ev9 M9.ents) := Lib.hid (EOwn.base (B := w9.heap.size) ho9 (fun k hk => Nat.le_trans HC9.out.size (EOwn.low (B := w9.heap.size) ho9 k hk)))
            clear ho9 hb9 KFQ KQ
            unfold mgL
            go_wp2_with fail
            go_ret
            rw [EW.out]
            exact ⟨⟨_, rfl, MOwn.one (ev := ev9) (heap_alloc_new _ _) rfl HC10.out.size (HO10.out.later ((Below.refl _ _).alloc (Nat.le_refl _) _))⟩, XO.of (HX10.out.later ((Below.refl _ _).alloc (Nat.le_refl _) _)) (HC10.out.trans (XCh.ofBelow p ((Below.refl _ _).alloc (Nat.le_refl _) _)))⟩
    · have hBI : ((m.term : Int) != (x.s.c.term : Int)) = true := by simp; omega
      have EW2 : Hid (x.told m d = (x, [])) := Lib.hid (by rw [EW.out, if_neg (fun e => hB e.2)])
      clear EW HGB HGG HG7 HQ7 HQ9 KFB KFC KCO KL KLC EFW hA hB q1 q2 z1 z2
      go_enter Tryz.func77, Tryz.ntmps77
      go_wp2_with fail
      simp only [← hW0]
      clear hW0
      go_quiet ((go_at_call 28; exact KT.out _))
      go_wp2_with fail
      go_ret
      rw [EW2.out]
      exact ⟨⟨_, rfl, MOwn.nil _ _⟩, HF.out _⟩
  · have hAI : (x.role != 2) = true := by simp [hA]
    have EW2 : Hid (x.told m d = (x, [])) := Lib.hid (by rw [EW.out, if_neg (fun e => hA e.1)])
    clear EW HGB HGG HG7 HQ7 HQ9 KFB KFC KCO KL KLC EFW hA q1 q2 z1 z2
    go_enter Tryz.func77, Tryz.ntmps77
    go_wp2_with fail
    simp only [← hW0]
    clear hW0
    go_quiet ((go_at_call 28; exact KT.out _))
    go_wp2_with fail
    go_ret
    rw [EW2.out]
    exact ⟨⟨_, rfl, MOwn.nil _ _⟩, HF.out _⟩
end
end Go.Proofs.YtflkdgghpmhbgaaGreat
