/- raft: how large a node's numbers become. -/
import Derived.Test.YtflkdgghpmhbgaaGreatKH
namespace Go.Proofs.YtflkdgghpmhbgaaGreat
open Go.RowKit

theorem set10_size (w : World) (G : Nat) (b0 b1 b2 b3 b4 b5 b6 b7 b8 b9 : Value) : (set10 w G b0 b1 b2 b3 b4 b5 b6 b7 b8 b9).heap.size = w.heap.size := by simp [set10]
theorem set10_alloc {w : World} {G : Nat} {a0 a1 a2 a3 a4 a5 a6 a7 a8 a9 : Value} {ty : TypeId} (h : w.heap[G]? = some (.cells #[a0, a1, a2, a3, a4, a5, a6, a7, a8, a9] ty (0, 0))) (b0 b1 b2 b3 b4 b5 b6 b7 b8 b9 : Value) (o : Obj) :
    ((set10 w G b0 b1 b2 b3 b4 b5 b6 b7 b8 b9).alloc o).heap[G]? = some (.cells #[b0, b1, b2, b3, b4, b5, b6, b7, b8, b9] ty (0, 0)) :=
  (Lib.alloc_old _ _ _ (by rw [set10_size]; exact block_lt h)).trans (set10_heap h _ _ _ _ _ _ _ _ _ _)
section
variable {w : World} {p : Pl} {x : RN}
/-- What feeds a node of whom it knows q. -/
def RN.feedQ (x : RN) (dst : Int) (q : Pr) : Mg :=
  if q.a < x.s.c.base then { x.mg 4 dst with index := x.s.c.base, lterm := x.s.c.bterm, state := x.s.c.state }
  else { x.mg 2 dst with index := q.a, lterm := (x.s.c.termAt q.a).getD 0, commit := x.commit, ents := (x.s.c.ents.drop (q.a - x.s.c.base)).take 8 }
def RN.feedM (x : RN) (dst : Nat) : Mg := x.feedQ dst (x.ps.getD dst ⟨false, 0, 0⟩)
theorem drop_take_succ {α : Type} {l : List α} {d k : Nat} {q : α} (h : l[d + k]? = some q) : (l.drop d).take (k + 1) = (l.drop d).take k ++ [q] := by
  have h2 : (l.drop d)[k]? = some q := by rw [List.getElem?_drop]; exact h
  have hk := (List.getElem?_eq_some_iff.1 h2).1
  rw [List.take_succ_eq_append_getElem hk, (List.getElem?_eq_some_iff.1 h2).2]
set_option maxHeartbeats 4000000 in
set_option maxRecDepth 100000 in
theorem feed_snap (h : XW w p x) (dst : Nat) (q : Pr) (hq : x.ps[dst]? = some q) (hb : q.a < x.s.c.base) (hn : x.ps.length ≤ 9) : Calls Tryz.prog 118 #[.pointer (some ⟨p.xb, 0, none⟩), .int .i64 (dst : Int)] w fun e w' => (∃ v, e = .returned v ∧ MgV w' w.heap.size v (x.feedQ dst q)) ∧ Below w.heap.size w w' := by
  obtain ⟨m0, m1, m2, m3, m4, m5, m6⟩ := h.cells
  obtain ⟨q0, q1, q2⟩ := h.peer hq
  have hdI : (dst : Int) < (x.ps.length : Int) := by have := (List.getElem?_eq_some_iff.1 hq).1; omega
  have hnI : (x.ps.length : Int) ≤ 9 := by omega
  have hd0 : (0 : Int) ≤ (dst : Int) := by omega
  obtain ⟨W0, hW0⟩ : ∃ W0, W0 = w.alloc (.cells #[.int .i64 0, .int .i64 0, .int .i64 0, .int .u64 0, .int .u64 0, .int .u64 0, .int .u64 0, .bool false, .slice none 0 0, .string ⟨#[]⟩] 40) := ⟨_, rfl⟩
  have hb0 : Below w.heap.size w W0 := by rw [hW0]; exact (Below.refl _ _).alloc (Nat.le_refl _) _
  have hz0 : W0.heap[w.heap.size]? = some (.cells #[.int .i64 0, .int .i64 0, .int .i64 0, .int .u64 0, .int .u64 0, .int .u64 0, .int .u64 0, .bool false, .slice none 0 0, .string ⟨#[]⟩] 40 (0, 0)) := by rw [hW0]; exact heap_alloc_new _ _
  have hxl := h.xlt
  have hnl := h.nlt
  have h0 := h.later hb0
  have K := Lib.hid (fun W (hW : XW W p x) => msg_prog hW 4 dst)
  have KB := Lib.hid (gbase_prog h0.lw.log)
  unfold RN.mg mg0 mgL at K
  dsimp only at K
  have EI : Hid (mgL (x.feedQ dst q) (.slice none 0 0) = [.int .i64 4, .int .i64 (x.id : Int), .int .i64 (dst : Int), .int .u64 (x.s.c.term : Int), .int .u64 (x.s.c.base : Int), .int .u64 (x.s.c.bterm : Int), .int .u64 0, .bool false, .slice none 0 0, .string x.s.c.state]) := Lib.hid (by unfold RN.feedQ; rw [if_pos hb]; rfl)
  have EN : Hid ((x.feedQ dst q).ents = []) := Lib.hid (by unfold RN.feedQ; rw [if_pos hb]; rfl)
  have H := Lib.hid h0
  have hbI : (q.a : Int) < (x.s.c.base : Int) := by omega
  obtain ⟨I, hI⟩ : ∃ I, x.id = I := ⟨_, rfl⟩
  obtain ⟨T, hT⟩ : ∃ T, x.s.c.term = T := ⟨_, rfl⟩
  obtain ⟨BA, hBA⟩ : ∃ BA, x.s.c.base = BA := ⟨_, rfl⟩
  obtain ⟨BT, hBT⟩ : ∃ BT, x.s.c.bterm = BT := ⟨_, rfl⟩
  obtain ⟨ST, hST⟩ : ∃ ST, x.s.c.state = ST := ⟨_, rfl⟩
  obtain ⟨M, hM⟩ : ∃ M, x.feedQ dst q = M := ⟨_, rfl⟩
  obtain ⟨qa, hqa⟩ : ∃ qa, q.a = qa := ⟨_, rfl⟩
  obtain ⟨n, hnn⟩ : ∃ n, x.ps.length = n := ⟨_, rfl⟩
  rw [hM] at EI EN ⊢
  rw [hI, hT] at K EI
  rw [hBA, hBT, hST] at KB EI
  rw [hBA, hqa] at hbI
  rw [hqa] at q1
  rw [hnn] at m6 hdI hnI
  have HB0 := Lib.hid hb0
  have HZ0 := Lib.hid hz0
  clear h hI hT hM hb0 hz0 m0 m2 m3 m4 m5 q0 q2 hq hb hn hBA hBT hST hqa hnn h0
  go_enter Tryz.func118, Tryz.ntmps118
  go_wp2_with fail
  simp only [← hW0]
  clear hW0
  refine KB.out.mono ?_
  rintro e w1 ⟨rfl, qn, rfl⟩
  have K1 := Lib.hid (K.out _ (H.out.drewN qn))
  have HB1 := Lib.hid (HB0.out.trans ((Same.of W0 qn).below w.heap.size))
  have HZ1 := Lib.hid (show (W0.drewN qn).heap[w.heap.size]? = _ from HZ0.out)
  obtain ⟨W1, hW1⟩ : ∃ W1, W1 = W0.drewN qn := ⟨_, rfl⟩
  rw [← hW1] at K1 HB1 HZ1 ⊢
  clear KB K HB0 HZ0 hW1 H
  go_wp2_with fail
  refine K1.out.mono ?_
  rintro e w2 ⟨rfl, hb2⟩
  have hb02 := HB1.out.trans (hb2.mono HB1.out.size)
  have hz2 := (hb2.block w.heap.size (block_lt HZ1.out)).trans HZ1.out
  have HB2 := Lib.hid hb02
  have HZ2 := Lib.hid hz2
  clear hb2 hb02 hz2 K1
  obtain ⟨d0, d1, d2, d3, d4, d5, d6, d7, d8, d9⟩ := cells10 HZ2.out
  obtain ⟨e0, e1, e2, e3, e4, e5, e6, e7, e8, e9⟩ := free10 HZ2.out
  have hHl := block_lt HZ2.out
  go_wp2_with fail
  exact bodyPost_ret (results_msg rfl rfl (set10_alloc HZ2.out _ _ _ _ _ _ _ _ _ _ _) rfl) rfl
    ⟨⟨_, rfl, .slice none 0 0, by rw [EI.out], by rw [EN.out]; exact EOwn.nil _ _⟩, HB2.out.trans ((set10_below (Nat.le_refl _) _ _ _ _ _ _ _ _ _ _).alloc (by rw [set10_size]; exact Nat.le_of_lt hHl) _)⟩

set_option maxHeartbeats 4000000 in
set_option maxRecDepth 100000 in
theorem feed_app (h : XW w p x) (hf : x.Fit) (dst : Nat) (q : Pr) (hq : x.ps[dst]? = some q) (hb : x.s.c.base ≤ q.a) : Calls Tryz.prog 118 #[.pointer (some ⟨p.xb, 0, none⟩), .int .i64 (dst : Int)] w fun e w' => (∃ v, e = .returned v ∧ MgV w' w.heap.size v (x.feedQ dst q)) ∧ Below w.heap.size w w' := by
  obtain ⟨m0, m1, m2, m3, m4, m5, m6⟩ := h.cells
  obtain ⟨q0, q1, q2⟩ := h.peer hq
  have hn := hf.n
  have hdI : (dst : Int) < (x.ps.length : Int) := by have := (List.getElem?_eq_some_iff.1 hq).1; omega
  have hnI : (x.ps.length : Int) ≤ 9 := by omega
  have hd0 : (0 : Int) ≤ (dst : Int) := by omega
  obtain ⟨W0, hW0⟩ : ∃ W0, W0 = w.alloc (.cells #[.int .i64 0, .int .i64 0, .int .i64 0, .int .u64 0, .int .u64 0, .int .u64 0, .int .u64 0, .bool false, .slice none 0 0, .string ⟨#[]⟩] 40) := ⟨_, rfl⟩
  have hb0 : Below w.heap.size w W0 := by rw [hW0]; exact (Below.refl _ _).alloc (Nat.le_refl _) _
  have hz0 : W0.heap[w.heap.size]? = some (.cells #[.int .i64 0, .int .i64 0, .int .i64 0, .int .u64 0, .int .u64 0, .int .u64 0, .int .u64 0, .bool false, .slice none 0 0, .string ⟨#[]⟩] 40 (0, 0)) := by rw [hW0]; exact heap_alloc_new _ _
  have hxl := h.xlt
  have hnl := h.nlt
  have h0 := h.later hb0
  have K := Lib.hid (fun W (hW : XW W p x) => msg_prog hW 2 dst)
  have KB := Lib.hid (gbase_prog h0.lw.log)
  have KT := Lib.hid (fun W (hW : XW W p x) => xtermAt_prog q.a hW hf)
  have KA := Lib.hid (fun (i : Nat) W (hW : XW W p x) => gat_prog i hW.lw.log hf.few hf.m64)
  unfold RN.mg mg0 mgL at K
  dsimp only at K
  obtain ⟨E, hE⟩ : ∃ E, (x.s.c.ents.drop (q.a - x.s.c.base)).take 8 = E := ⟨_, rfl⟩
  have EI : Hid (∀ ev, mgL (x.feedQ dst q) ev = [.int .i64 2, .int .i64 (x.id : Int), .int .i64 (dst : Int), .int .u64 (x.s.c.term : Int), .int .u64 (q.a : Int), .int .u64 (((x.s.c.termAt q.a).getD 0 : Nat) : Int), .int .u64 (x.commit : Int), .bool false, ev, .string ⟨#[]⟩]) := Lib.hid (fun ev => by unfold RN.feedQ; rw [if_neg (by omega)]; rfl)
  have EN : Hid ((x.feedQ dst q).ents = (x.s.c.ents.drop (q.a - x.s.c.base)).take 8) := Lib.hid (by unfold RN.feedQ; rw [if_neg (by omega)])
  have H := Lib.hid h0
  have hbI : ¬ (q.a : Int) < (x.s.c.base : Int) := by omega
  have EB : Hid (x.s.c.base ≤ q.a ∧ q.a ≤ 1000000000000000000 ∧ x.s.c.lastN = x.s.c.base + x.s.c.ents.length ∧ x.s.c.base + x.s.c.ents.length ≤ 1000000000000000000 ∧ x.s.c.ents.length ≤ 10000000000) := Lib.hid ⟨hb, (hf.ps q (List.mem_of_getElem? hq)).1, hf.lastN, hf.last, hf.few⟩
  obtain ⟨o, ho⟩ : ∃ o, x.s.c.termAt q.a = o := ⟨_, rfl⟩
  rw [ho] at KT EI
  simp only [numV_getD] at KT
  obtain ⟨LT, hLT⟩ : ∃ LT, o.getD 0 = LT := ⟨_, rfl⟩
  rw [hLT] at KT EI
  obtain ⟨I, hI⟩ : ∃ I, x.id = I := ⟨_, rfl⟩
  obtain ⟨T, hT⟩ : ∃ T, x.s.c.term = T := ⟨_, rfl⟩
  obtain ⟨BA, hBA⟩ : ∃ BA, x.s.c.base = BA := ⟨_, rfl⟩
  obtain ⟨BT, hBT⟩ : ∃ BT, x.s.c.bterm = BT := ⟨_, rfl⟩
  obtain ⟨ST, hST⟩ : ∃ ST, x.s.c.state = ST := ⟨_, rfl⟩
  obtain ⟨M, hM⟩ : ∃ M, x.feedQ dst q = M := ⟨_, rfl⟩
  obtain ⟨qa, hqa⟩ : ∃ qa, q.a = qa := ⟨_, rfl⟩
  obtain ⟨CO, hCO⟩ : ∃ CO, x.commit = CO := ⟨_, rfl⟩
  obtain ⟨n, hnn⟩ : ∃ n, x.ps.length = n := ⟨_, rfl⟩
  rw [hM] at EI EN ⊢
  rw [hI, hT] at K EI
  rw [hBA, hBT, hST] at KB
  rw [hBA, hqa] at hbI
  rw [hqa] at q1 EI EN KT EB
  rw [hBA] at EN EB
  rw [hCO] at m4 EI
  rw [hnn] at m6 hdI hnI
  have HB0 := Lib.hid hb0
  have HZ0 := Lib.hid hz0
  have HBA := Lib.hid hBA
  have C1 := Lib.hid (fun W (hW : Below w.heap.size w W) => show W.cell? ⟨p.xb, 1, none⟩ = some (.pointer (some ⟨p.lb, 0, none⟩)) from cellB hW m1)
  have C4 := Lib.hid (fun W (hW : Below w.heap.size w W) => show W.cell? ⟨p.xb, 4, none⟩ = some (.int .u64 (CO : Int)) from cellB hW m4)
  clear h hI hT hM hb0 hz0 m0 m2 m3 m5 q0 q2 hq hb hn hBA hBT hST hqa hnn h0 hf hE ho hLT hCO
  go_enter Tryz.func118, Tryz.ntmps118
  go_wp2_with fail
  simp only [← hW0]
  clear hW0
  refine KB.out.mono ?_
  rintro e w1 ⟨rfl, qn, rfl⟩
  have K1 := Lib.hid (K.out _ (H.out.drewN qn))
  have H1 := Lib.hid (H.out.drewN qn)
  have HB1 := Lib.hid (HB0.out.trans ((Same.of W0 qn).below w.heap.size))
  have HZ1 := Lib.hid (show (W0.drewN qn).heap[w.heap.size]? = _ from HZ0.out)
  obtain ⟨W1, hW1⟩ : ∃ W1, W1 = W0.drewN qn := ⟨_, rfl⟩
  rw [← hW1] at K1 HB1 HZ1 H1 ⊢
  clear KB K HB0 HZ0 hW1 H
  go_wp2_with fail
  refine K1.out.mono ?_
  rintro e w2 ⟨rfl, hb2⟩
  have hb02 := HB1.out.trans (hb2.mono HB1.out.size)
  have hz2 := (hb2.block w.heap.size (block_lt HZ1.out)).trans HZ1.out
  have h2 := H1.out.later hb2
  have hxl2 := h2.xlt
  have c1 := C1.out _ hb02
  have c4 := C4.out _ hb02
  have HB2 := Lib.hid hb02
  have HZ2 := Lib.hid hz2
  have H2 := Lib.hid h2
  clear hb2 hb02 hz2 h2 K1 H1 HB1 HZ1 m1 m4
  go_wp2_with fail
  go_region
  obtain ⟨W3, hW3⟩ : ∃ W3, W3 = (w2.alloc (.cells #[.int .i64 2, .int .i64 (I : Int), .int .i64 (dst : Int), .int .u64 (T : Int), .int .u64 (qa : Int), .int .u64 0, .int .u64 (CO : Int), .bool false, .slice none 0 0, .string ⟨#[]⟩] 40)).drew := ⟨_, rfl⟩
  have hb23 : Below w2.heap.size w2 W3 := by rw [hW3]; exact ((Below.refl _ _).alloc (Nat.le_refl _) _).trans ((Same.refl _).drew.below _)
  have hy3 : W3.heap[w2.heap.size]? = some (.cells #[.int .i64 2, .int .i64 (I : Int), .int .i64 (dst : Int), .int .u64 (T : Int), .int .u64 (qa : Int), .int .u64 0, .int .u64 (CO : Int), .bool false, .slice none 0 0, .string ⟨#[]⟩] 40 (0, 0)) := by rw [hW3]; exact heap_alloc_new w2 _
  simp only [← hW3]
  clear hW3
  have h3 := H2.out.later hb23
  have K3 := Lib.hid (KT.out W3 h3)
  have c1 := C1.out _ (HB2.out.trans (hb23.mono HB2.out.size))
  obtain ⟨eb1, eb2, eb3, eb4, eb5⟩ := EB.out
  have hwq : IntKind.u64.wrap ((qa : Int) + 1) = (((qa + 1) + 0 : Nat) : Int) := by rw [show (qa : Int) + 1 = (((qa + 1) + 0 : Nat) : Int) by omega]; exact u64_nat' _ (by omega)
  have HWQ := Lib.hid hwq
  clear h3 KT c4 eb1 eb2 eb3 eb4 eb5 q1 m6 hxl hnl hwq
  have hwq := HWQ.out
  go_wp2_with fail
  refine K3.out.mono ?_
  rintro e w4 ⟨rfl, hb4⟩
  have hy4 := (hb4.block w2.heap.size (block_lt hy3)).trans hy3
  have hb24 := hb23.trans (hb4.mono hb23.size)
  have hxl4 : p.xb < w4.heap.size := Nat.lt_of_lt_of_le hxl2 hb24.size
  have y5 : w4.cell? ⟨w2.heap.size, 5, none⟩ = some (.int .u64 0) := by simp [World.cell?, hy4]
  have f5 : w4.frozen? ⟨w2.heap.size, 5, none⟩ = false := by simp [World.frozen?, hy4]
  have hy5 := heap_setCell_same w4 w2.heap.size 5 _ _ (.int .u64 (LT : Int)) hy4
  have hb25 := hb24.setCell (p := ⟨w2.heap.size, 5, none⟩) (Nat.le_refl _) (.int .u64 (LT : Int))
  obtain ⟨W5, hW5⟩ : ∃ W5, W5 = w4.setCell ⟨w2.heap.size, 5, none⟩ (.int .u64 (LT : Int)) := ⟨_, rfl⟩
  rw [← hW5] at hy5 hb25
  simp at hy5
  have HY5 := Lib.hid hy5
  have HB25 := Lib.hid hb25
  clear hy3 hb23 hb4 hy4 hb24 hy5 hb25 K3
  go_wp2_with fail
  simp only [← hW5]
  clear hW5 y5 f5
  go_loopw [11] (fun i wr => ∃ k j ev, k ≤ 8 ∧ Hid (j = qa + 1 + k) ∧ i = .int .u64 (j : Int) ∧ wr.heap[w2.heap.size]? = some (.cells #[.int .i64 2, .int .i64 (I : Int), .int .i64 (dst : Int), .int .u64 (T : Int), .int .u64 (qa : Int), .int .u64 (LT : Int), .int .u64 (CO : Int), .bool false, ev, .string ⟨#[]⟩] 40 (0, 0)) ∧ Hid (EOwn wr (w2.heap.size + 1) ev ((x.s.c.ents.drop (qa - BA)).take k)) ∧ Hid (((x.s.c.ents.drop (qa - BA)).take k).length = k) ∧ Hid (Below w2.heap.size w2 wr)) (fun i _ => 9 + qa - (intOf i).toNat)
  case atStart => exact ⟨0, qa + 1, .slice none 0 0, by omega, Lib.hid rfl, rfl, HY5.out, Lib.hid (by rw [List.take_zero]; exact EOwn.nil _ _), Lib.hid rfl, HB25⟩
  case round =>
    obtain ⟨k, j, ev, hk, HJ, rfl, hG, HE, HL, HB⟩ := hrel
    have hj := HJ.out
    have hb := HB.out
    have hw0r := HB2.out.trans (hb.mono HB2.out.size)
    have hr := H2.out.later hb
    have hGl := block_lt hG
    obtain ⟨g0, g1, g2, g3, g4, g5, g6, g7, g8, g9⟩ := cells10 hG
    have f8 : wr.frozen? ⟨w2.heap.size, 8, none⟩ = false := by simp [World.frozen?, hG]
    have c1 := C1.out _ hw0r
    have hxr := hr.xlt
    obtain ⟨ad, cp, hevs, _⟩ := EOwn.shape HE.out
    rw [HL.out] at hevs
    subst hevs
    obtain ⟨eb1, eb2, eb3, eb4, eb5⟩ := EB.out
    have hcA : x.s.c.at j = x.s.c.ents[qa - BA + k]? := by
      rw [CT.at, HBA.out]
      split
      · rename_i hh
        rw [List.getElem?_eq_none (by omega)]
      · congr 1; omega
    have HCA := Lib.hid hcA
    have HW0R := Lib.hid hw0r
    have HR := Lib.hid hr
    have HG := Lib.hid hG
    have HHl := Lib.hid (block_lt HZ2.out)
    clear hb hw0r hr hcA hG
    by_cases h8 : k < 8
    · have hkI : (k : Int) < 8 := by omega
      obtain ⟨oc, hoc⟩ : ∃ oc, x.s.c.ents[qa - BA + k]? = oc := ⟨_, rfl⟩
      have K6 := Lib.hid (KA.out j wr HR.out)
      rw [HCA.out, hoc] at K6
      have HOC := Lib.hid hoc
      clear hoc
      cases oc with
      | none =>
        have HK8 : Hid ((x.s.c.ents.drop (qa - BA)).take k = (x.s.c.ents.drop (qa - BA)).take 8) := Lib.hid (by
          have hge := List.getElem?_eq_none_iff.1 HOC.out
          rw [List.take_of_length_le (by rw [List.length_drop]; omega), List.take_of_length_le (by rw [List.length_drop]; omega)])
        have HK : Hid (Calls Tryz.prog 32 #[.pointer (some ⟨p.lb, 0, none⟩), .int .u64 (j : Int)] wr fun e w' => e = .returned (.tuple #[.agg #[.int .u64 0, .string ⟨#[]⟩], .bool false]) ∧ Below wr.heap.size wr w') := Lib.hid K6.out
        clear K6 HOC HCA eb1 eb2 eb3 eb4 eb5 hj
        go_wp2_with fail
        refine HK.out.mono ?_
        rintro e w6 ⟨rfl, hb6⟩
        have hG6 := (hb6.block w2.heap.size hGl).trans HG.out
        have HB6 := Lib.hid hb6
        clear g0 g1 g2 g3 g4 g5 g6 g7 g8 g9 f8 hb6
        obtain ⟨g0, g1, g2, g3, g4, g5, g6, g7, g8, g9⟩ := cells10 hG6
        have hGl6 := block_lt hG6
        have hHl6 : w.heap.size < w6.heap.size := Nat.lt_trans HHl.out hGl6
        have HER := Lib.hid (HE.out.later HB6.out)
        have HWR := Lib.hid (HW0R.out.trans (HB6.out.mono HW0R.out.size))
        have hzr := (HB6.out.block w.heap.size (Nat.lt_trans HHl.out hGl)).trans ((HB.out.block w.heap.size HHl.out).trans HZ2.out)
        clear hG6
        obtain ⟨d0, d1, d2, d3, d4, d5, d6, d7, d8, d9⟩ := cells10 hzr
        obtain ⟨e0, e1, e2, e3, e4, e5, e6, e7, e8, e9⟩ := free10 hzr
        have HZR := Lib.hid hzr
        clear hzr
        go_wp2_with fail
        refine bodyPost_ret (results_msg rfl rfl (set10_alloc HZR.out _ _ _ _ _ _ _ _ _ _ _) rfl) rfl
          ⟨⟨_, rfl, .slice ad _ cp, by rw [EI.out], ?_⟩, HWR.out.trans ((set10_below (Nat.le_refl _) _ _ _ _ _ _ _ _ _ _).alloc (by rw [set10_size]; exact Nat.le_of_lt hHl6) _)⟩
        rw [EN.out, ← HK8.out]
        refine (HER.out.mv fun j hj => ?_).base fun j hj => ?_
        · refine (Lib.alloc_old _ _ _ (by simpa using HER.out.lt j hj)).trans ?_
          exact set10_other _ _ _ _ _ _ _ _ _ _ _ _ _ (by have := HER.out.low j hj; have := HHl.out; omega)
        · have := HER.out.low j hj; have := HHl.out; omega
      | some y =>
        obtain ⟨yt, ys⟩ := y
        have HK8 : Hid ((x.s.c.ents.drop (qa - BA)).take (k + 1) = (x.s.c.ents.drop (qa - BA)).take k ++ [(yt, ys)]) := Lib.hid (drop_take_succ HOC.out)
        have HK : Hid (Calls Tryz.prog 32 #[.pointer (some ⟨p.lb, 0, none⟩), .int .u64 (j : Int)] wr fun e w' => e = .returned (.tuple #[.agg #[.int .u64 (yt : Int), .string ys], .bool true]) ∧ Below wr.heap.size wr w') := Lib.hid K6.out
        obtain ⟨j2, hj2⟩ : ∃ j2, j2 = j + 1 := ⟨_, rfl⟩
        have hwk : IntKind.u64.wrap ((j : Int) + 1) = (j2 : Int) := by rw [show (j : Int) + 1 = (j2 : Int) by omega]; exact u64_nat' _ (by omega)
        have HJ2 : Hid (j2 = qa + 1 + (k + 1)) := Lib.hid (by omega)
        clear K6 HOC HCA eb1 eb2 eb3 eb4 eb5 hj hj2
        go_wp2_with fail
        refine HK.out.mono ?_
        rintro e w6 ⟨rfl, hb6⟩
        have hG6 := (hb6.block w2.heap.size hGl).trans HG.out
        have HB6 := Lib.hid hb6
        have HG6 := Lib.hid hG6
        clear g0 g1 g2 g3 g4 g5 g6 g7 g8 g9 f8 hb6
        obtain ⟨g0, g1, g2, g3, g4, g5, g6, g7, g8, g9⟩ := cells10 hG6
        have hGl6 := block_lt hG6
        clear g0 g1 g2 g3 g4 g5 g6 g7 g9 hG6
        have hbA : Below w6.heap.size w6 ((w6.alloc (.cells #[.int .u64 (yt : Int), .string ys] 70)).alloc (.cells #[.int .u64 (yt : Int), .string ys] 70)) := ((Below.refl _ _).alloc (Nat.le_refl _) _).alloc (by simp) _
        have HER := Lib.hid ((HE.out.later HB6.out).later hbA)
        have HBA6 := Lib.hid hbA
        have hlow : w2.heap.size + 1 ≤ ((w6.alloc (.cells #[.int .u64 (yt : Int), .string ys] 70)).alloc (.cells #[.int .u64 (yt : Int), .string ys] 70)).heap.size := by simp; omega
        have hlen : ((x.s.c.ents.drop (qa - BA)).take k).length + 1 ≤ 1000000000 := by rw [HL.out]; omega
        have HLOW := Lib.hid hlow
        have HLEN := Lib.hid hlen
        clear hbA hlow hlen
        go_wp2_with (at_builtin; refine list_appE1 rfl _ _ rfl (w2.heap.size + 1) (.slice ad k cp) ((x.s.c.ents.drop (qa - BA)).take k) rfl HER.out (w6.heap.size + 1) 1 (yt, ys) rfl (alloc2 w6 _ _) HLEN.out HLOW.out ?_)
        intro v7 w7 hown7 hgr7
        obtain ⟨a7, c7, rfl, _⟩ := EOwn.shape hown7
        have hl7 : ((x.s.c.ents.drop (qa - BA)).take k ++ [(yt, ys)]).length = k + 1 := by rw [List.length_append, HL.out]; rfl
        rw [hl7] at hown7 hgr7 ⊢
        have hbA : Below (w2.heap.size + 1) w6 w7 := (HBA6.out.mono hGl6).trans (hgr7.below HLOW.out HER.out.low)
        have hG7 := (hbA.block w2.heap.size (Nat.lt_succ_self _)).trans HG6.out
        have y8 : w7.cell? ⟨w2.heap.size, 8, none⟩ = some (.slice ad k cp) := by simp [World.cell?, hG7]
        have f8 : w7.frozen? ⟨w2.heap.size, 8, none⟩ = false := by simp [World.frozen?, hG7]
        have HG8 := Lib.hid (heap_setCell_same w7 w2.heap.size 8 _ _ (.slice a7 (k + 1) c7) hG7)
        have HB8 := Lib.hid ((HB.out.trans (HB6.out.mono HB.out.size)).trans ((hbA.mono (Nat.le_succ _)).setCell (p := ⟨w2.heap.size, 8, none⟩) (Nat.le_refl _) (.slice a7 (k + 1) c7)))
        have HE8 := Lib.hid (hown7.mv (w' := w7.setCell ⟨w2.heap.size, 8, none⟩ (.slice a7 (k + 1) c7)) fun b hb => heap_setCell_other w7 ⟨w2.heap.size, 8, none⟩ b _ (fun e => by have e2 : b = w2.heap.size := e; have := hown7.low b hb; omega))
        have HL8 : Hid (((x.s.c.ents.drop (qa - BA)).take k ++ [(yt, ys)]).length = k + 1) := Lib.hid hl7
        clear hl7 hbA hG7 hown7 hgr7 g8 hGl6
        go_wp2_with fail
        go_roundw
        case rel => exact ⟨k + 1, j2, _, by omega, HJ2, by rfl, by simpa using HG8.out, by rw [HK8.out]; exact HE8, by rw [HK8.out]; exact HL8, HB8⟩
        case measure => have := HJ.out; have := HJ2.out; simp [intOf]; omega
    · have hke : k = 8 := by omega
      subst hke
      have hkI : ¬ ((8 : Nat) : Int) < 8 := by omega
      have HER := HE
      have HWR := HW0R
      have hzr := (HB.out.block w.heap.size HHl.out).trans HZ2.out
      clear eb1 eb2 eb3 eb4 eb5 HCA h8 hj
      obtain ⟨d0, d1, d2, d3, d4, d5, d6, d7, d8, d9⟩ := cells10 hzr
      obtain ⟨e0, e1, e2, e3, e4, e5, e6, e7, e8, e9⟩ := free10 hzr
      have HZR := Lib.hid hzr
      clear hzr
      go_wp2_with fail
      refine bodyPost_ret (results_msg rfl rfl (set10_heap HZR.out _ _ _ _ _ _ _ _ _ _) rfl) rfl
        ⟨⟨_, rfl, .slice ad _ cp, by rw [EI.out], ?_⟩, HWR.out.trans (set10_below (Nat.le_refl _) _ _ _ _ _ _ _ _ _ _)⟩
      rw [EN.out]
      refine (HER.out.mv fun j hj => ?_).base fun j hj => ?_
      · exact set10_other _ _ _ _ _ _ _ _ _ _ _ _ _ (by have := HER.out.low j hj; have := HHl.out; omega)
      · have := HER.out.low j hj; have := HHl.out; omega
end
end Go.Proofs.YtflkdgghpmhbgaaGreat
namespace Go.Proofs.YtflkdgghpmhbgaaGreat
open Go.RowKit

/-- The block holds these numbers. -/
def Nums (w : World) (g : Nat) (l : List Nat) : Prop := w.heap[g]? = some (.cells (l.map fun (n : Nat) => (.int .u64 (n : Int) : Value)).toArray 37 (0, 0))
section
variable {w : World} {g : Nat} {l : List Nat}
theorem Nums.cell (h : Nums w g l) {i n : Nat} (hi : l[i]? = some n) : w.cell? ⟨g, i, none⟩ = some (.int .u64 (n : Int)) := by
  unfold Nums at h
  simp [World.cell?, h, hi]
theorem Nums.free (h : Nums w g l) (i : Nat) : w.frozen? ⟨g, i, none⟩ = false := by
  unfold Nums at h
  simp [World.frozen?, h]
theorem Nums.set (h : Nums w g l) (i n : Nat) : Nums (w.setCell ⟨g, i, none⟩ (.int .u64 (n : Int))) g (l.set i n) := by
  unfold Nums at *
  rw [set_heap3 h, List.map_set]
theorem Nums.lt (h : Nums w g l) : g < w.heap.size := block_lt h
theorem Nums.only {w' : World} (h : Nums w g l) (hb : w'.heap[g]? = w.heap[g]?) : Nums w' g l := hb.trans h

theorem nan_prog (n : Nat) (w : World) : Calls Tryz.prog 200 #[.int .u64 (n : Int)] w fun e w' => e = .returned (.bool false) ∧ w' = w := by
  go_enter Tryz.func200, Tryz.ntmps200
  go_wp2_with fail
  go_ret
  exact ⟨by simp, rfl⟩
set_option maxRecDepth 100000 in
theorem less_prog (m n : Nat) (w : World) : Calls Tryz.prog 183 #[.int .u64 (m : Int), .int .u64 (n : Int)] w fun e w' => e = .returned (.bool (decide (m < n))) ∧ w' = w := by
  have K := Lib.hid (nan_prog m w)
  go_enter Tryz.func183, Tryz.ntmps183
  go_wp2_with fail
  refine K.out.mono ?_
  rintro e w1 ⟨rfl, rfl⟩
  go_wp2_with fail
  go_ret
  exact ⟨by simp, rfl⟩
set_option maxRecDepth 100000 in
theorem len64_prog (n : Nat) (hn : n ≤ 9) (w : World) : Calls Tryz.prog 187 #[.int .u64 (n : Int)] w fun e w' => (∃ r : Int, e = .returned (.int .i64 r)) ∧ w' = w := by
  rcases (by omega : n = 0 ∨ n = 1 ∨ n = 2 ∨ n = 3 ∨ n = 4 ∨ n = 5 ∨ n = 6 ∨ n = 7 ∨ n = 8 ∨ n = 9) with rfl | rfl | rfl | rfl | rfl | rfl | rfl | rfl | rfl | rfl
  all_goals
    go_enter Tryz.func187, Tryz.ntmps187
    go_wp2_with fail
    go_ret
    exact ⟨⟨_, rfl⟩, rfl⟩
set_option maxRecDepth 100000 in
theorem len_prog (n : Nat) (hn : n ≤ 9) (w : World) : Calls Tryz.prog 159 #[.int .u64 (n : Int)] w fun e w' => (∃ r : Int, e = .returned (.int .i64 r)) ∧ w' = w := by
  have K := Lib.hid (len64_prog n hn w)
  have hnI : (n : Int) ≤ 9 := by omega
  have hw : IntKind.u64.wrap (n : Int) = (n : Int) := u64_nat' n (by omega)
  clear hn
  go_enter Tryz.func159, Tryz.ntmps159
  go_wp2_with fail
  refine K.out.mono ?_
  rintro e w1 ⟨⟨r, rfl⟩, rfl⟩
  go_wp2_with fail
  go_ret
  exact ⟨⟨_, rfl⟩, rfl⟩

/-- All but what stands at j is in order, up to i. -/
def But (l : List Nat) (i j : Nat) : Prop := ∀ a b (x y : Nat), a < b → b ≤ i → b ≠ j → l[a]? = some x → l[b]? = some y → x ≤ y
/-- In order up to i. -/
def Upto (l : List Nat) (i : Nat) : Prop := ∀ a b (x y : Nat), a < b → b < i → l[a]? = some x → l[b]? = some y → x ≤ y
theorem But.start {l : List Nat} {i : Nat} (h : Upto l i) : But l i i := fun a b x y h1 h2 h3 h4 h5 => h a b x y h1 (by omega) h4 h5
theorem But.swap {l : List Nat} {i j m n : Nat} (h : But l i (j + 1)) (hj : j + 1 ≤ i) (hm : l[j]? = some m) (hn : l[j + 1]? = some n) (hlt : n < m) : But ((l.set (j + 1) m).set j n) i j := by
  have hjl := (List.getElem?_eq_some_iff.1 hn).1
  have get : ∀ k z, ((l.set (j + 1) m).set j n)[k]? = some z → (k = j ∧ z = n) ∨ (k = j + 1 ∧ z = m) ∨ (k ≠ j ∧ k ≠ j + 1 ∧ l[k]? = some z) := by
    intro k z hk
    by_cases h1 : k = j
    · subst h1
      rw [List.getElem?_set_self (by rw [List.length_set]; omega)] at hk
      exact .inl ⟨rfl, by injection hk with hk; exact hk.symm⟩
    · rw [List.getElem?_set_ne (Ne.symm h1)] at hk
      by_cases h2 : k = j + 1
      · subst h2
        rw [List.getElem?_set_self (by omega)] at hk
        exact .inr (.inl ⟨rfl, by injection hk with hk; exact hk.symm⟩)
      · rw [List.getElem?_set_ne (Ne.symm h2)] at hk
        exact .inr (.inr ⟨h1, h2, hk⟩)
  intro a b x y h1 h2 h3 h4 h5
  rcases get a x h4 with ⟨ra, rx⟩ | ⟨ra, rx⟩ | ⟨ra, ra2, rx⟩ <;> rcases get b y h5 with ⟨rb, ry⟩ | ⟨rb, ry⟩ | ⟨rb, rb2, ry⟩
  · omega
  · omega
  · rw [rx]; exact h (j + 1) b n y (by omega) h2 (by omega) hn ry
  · omega
  · omega
  · rw [rx]; exact h j b m y (by omega) h2 (by omega) hm ry
  · omega
  · rw [ry]; exact h a j x m (by omega) (by omega) (by omega) rx hm
  · exact h a b x y h1 h2 rb2 rx ry
theorem But.done0 {l : List Nat} {i : Nat} (h : But l i 0) : Upto l (i + 1) := fun a b x y h1 h2 h3 h4 => h a b x y h1 (by omega) (by omega) h3 h4
theorem But.done {l : List Nat} {i j m n : Nat} (h : But l i (j + 1)) (hj : j + 1 ≤ i) (hm : l[j]? = some m) (hn : l[j + 1]? = some n) (hle : m ≤ n) : Upto l (i + 1) := by
  intro a b x y h1 h2 h3 h4
  by_cases hb : b = j + 1
  · subst hb
    obtain rfl : y = n := by rw [h4] at hn; injection hn
    by_cases ha : a = j
    · subst ha
      obtain rfl : x = m := by rw [h3] at hm; injection hm
      exact hle
    · exact Nat.le_trans (h a j x m (by omega) (by omega) (by omega) h3 hm) hle
  · exact h a b x y h1 (by omega) hb h3 h4
theorem swap_perm {l : List Nat} {j m n : Nat} (hm : l[j]? = some m) (hn : l[j + 1]? = some n) : ((l.set (j + 1) m).set j n).Perm l := by
  obtain ⟨h1, h2⟩ := List.getElem?_eq_some_iff.1 hm
  obtain ⟨h3, h4⟩ := List.getElem?_eq_some_iff.1 hn
  have := @List.set_set_perm _ l (j + 1) j h3 h1
  rw [h2, h4] at this
  exact this
section
variable {w : World} {g : Nat} {l : List Nat}
set_option maxHeartbeats 4000000 in
set_option maxRecDepth 100000 in
theorem isort_prog (h : Nums w g l) (n : Nat) (hn : l.length = n) (hs : n ≤ 9) : Calls Tryz.prog 177 #[.slice (some ⟨g, 0, none⟩) n n, .int .i64 0, .int .i64 (n : Int)] w fun e w' => e = .returned (.tuple #[]) ∧ Only g w w' ∧ ∃ l', Nums w' g l' ∧ l'.Perm l ∧ Upto l' n := by
  have H := Lib.hid h
  have HN := Lib.hid hn
  have hsI : (n : Int) ≤ 9 := by omega
  have KL := Lib.hid (fun a b W => less_prog a b W)
  clear h hn
  go_enter Tryz.func177, Tryz.ntmps177
  go_wp2_with fail
  go_loopw [6] (fun i wr => ∃ k l', (k ≤ n ∨ k = 1) ∧ 0 < k ∧ i = .int .i64 (k : Int) ∧ Hid (Nums wr g l' ∧ l'.Perm l ∧ Upto l' k ∧ Only g w wr)) (fun i _ => n + 1 - (intOf i).toNat)
  case atStart => exact ⟨1, l, .inr rfl, by omega, rfl, Lib.hid ⟨H.out, List.Perm.refl _, fun a b x y h1 h2 => by omega, Only.refl _ _⟩⟩
  case round =>
    obtain ⟨k, lo, hk, hk1, rfl, HR⟩ := hrel
    by_cases hlt : k < n
    · have hkI : (k : Int) < (n : Int) := by omega
      have hk0 : (0 : Int) < (k : Int) := by omega
      have HWO : Hid (0 < 1) := Lib.hid (by omega)
      clear hk
      go_wp2_with fail
      go_loopw [7] (fun i wi => ∃ j l', j ≤ k ∧ i = .int .i64 (j : Int) ∧ Hid (Nums wi g l' ∧ l'.Perm l ∧ But l' k j ∧ Only g w wi)) (fun i _ => (intOf i).toNat)
      case atStart => exact ⟨k, lo, Nat.le_refl _, rfl, Lib.hid ⟨HR.out.1, HR.out.2.1, But.start HR.out.2.2.1, HR.out.2.2.2⟩⟩
      case round =>
        obtain ⟨j, li, hj, rfl, HI⟩ := hrel
        cases j with
        | zero =>
          have hG0 : decide ((0 : Int) < ((0 : Nat) : Int)) = false := rfl
          go_wp2_with fail
          go_quiet (fail)
          go_wp2_with fail
          go_roundw
          case rel => exact ⟨k + 1, li, .inl (by omega), by omega, by go_num, Lib.hid ⟨HI.out.1, HI.out.2.1, HI.out.2.2.1.done0, HI.out.2.2.2.trans (Only.ofSame ⟨_, rfl⟩)⟩⟩
          case measure => simp [intOf]; omega
        | succ j =>
          have hjl : j + 1 < li.length := by rw [HI.out.2.1.length_eq, HN.out]; omega
          obtain ⟨m, hm⟩ : ∃ m, li[j]? = some m := ⟨_, List.getElem?_eq_getElem (by omega)⟩
          obtain ⟨b, hb⟩ : ∃ b, li[j + 1]? = some b := ⟨_, List.getElem?_eq_getElem hjl⟩
          have c0 := HI.out.1.cell hm
          have c1 := HI.out.1.cell hb
          have f0 := HI.out.1.free j
          have f1 := HI.out.1.free (j + 1)
          have hjI : (j : Int) + 1 < (n : Int) := by omega
          have hj9 : (j : Int) + 1 ≤ 9 := by omega
          have hj0 : (0 : Int) ≤ (j : Int) := by omega
          have hG1 : (0 : Int) < (j : Int) + 1 := by omega
          have HM := Lib.hid hm
          have HBB := Lib.hid hb
          have HJ := Lib.hid hj
          have K := Lib.hid (fun q => quietE ((KL.out b m (wr.drewN q)).mono fun _ _ h => ⟨h.1, h.2.symm⟩))
          clear hm hb hjl hj
          by_cases hlt2 : b < m
          · rw [decide_eq_true hlt2] at K
            have HLT := Lib.hid hlt2
            clear hlt2
            go_wp2_with fail
            go_quiet ((go_at_call 183; exact K.out _))
            go_wp2_with fail
            go_region
            go_wp2_with fail
            go_roundw
            case rel => exact ⟨j, (li.set (j + 1) m).set j b, by have := HJ.out; omega, by go_num, Lib.hid ⟨((HI.out.1.only rfl).set _ _).set _ _, (swap_perm HM.out HBB.out).trans HI.out.2.1, HI.out.2.2.1.swap HJ.out HM.out HBB.out HLT.out, ((HI.out.2.2.2.trans (Only.ofSame (Same.of wr (nq + 1)))).setCell _ _).setCell _ _⟩⟩
            case measure => simp [intOf]
          · rw [decide_eq_false hlt2] at K
            have HLT := Lib.hid hlt2
            clear hlt2
            go_wp2_with fail
            go_quiet ((go_at_call 183; exact K.out _))
            go_wp2_with fail
            go_roundw
            case rel => exact ⟨k + 1, li, .inl (by omega), by omega, by go_num, Lib.hid ⟨HI.out.1, HI.out.2.1, HI.out.2.2.1.done HJ.out HM.out HBB.out (by have := HLT.out; omega), HI.out.2.2.2.trans (Only.ofSame ⟨_, rfl⟩)⟩⟩
            case measure => simp [intOf]; omega
    · have hkI : ¬ (k : Int) < (n : Int) := by omega
      go_wp2_with fail
      go_end0
      exact ⟨rfl, HR.out.2.2.2, lo, HR.out.1, HR.out.2.1, fun a b x y h1 h2 => HR.out.2.2.1 a b x y h1 (by omega)⟩
set_option maxHeartbeats 1000000 in
set_option maxRecDepth 100000 in
theorem pdq_prog (h : Nums w g l) (n : Nat) (r : Int) (hn : l.length = n) (hs : n ≤ 9) : Calls Tryz.prog 158 #[.slice (some ⟨g, 0, none⟩) n n, .int .i64 0, .int .i64 (n : Int), .int .i64 r] w fun e w' => e = .returned (.tuple #[]) ∧ Only g w w' ∧ ∃ l', Nums w' g l' ∧ l'.Perm l ∧ Upto l' n := by
  have K := Lib.hid (isort_prog h n hn hs)
  have hsI : (n : Int) ≤ 12 := by omega
  clear h hn hs
  go_enter Tryz.func158, Tryz.ntmps158
  go_wp2_with fail
  go_loopw [1, 2] (fun s1 s2 wr => s1 = .int .i64 0 ∧ s2 = .int .i64 (n : Int) ∧ wr = w) (fun _ _ _ => 0)
  case atStart => exact ⟨rfl, rfl, rfl⟩
  case round =>
    obtain ⟨rfl, rfl, rfl⟩ := hrel
    go_wp2_with fail
    refine K.out.mono ?_
    rintro e w1 ⟨rfl, ho, hr⟩
    go_wp2_with fail
    exact bodyPost_ret (results_none rfl _ _ _) rfl ⟨rfl, ho, hr⟩
set_option maxHeartbeats 1000000 in
set_option maxRecDepth 100000 in
theorem sort_prog (h : Nums w g l) (n : Nat) (hn : l.length = n) (hs : n ≤ 9) : Calls Tryz.prog 130 #[.slice (some ⟨g, 0, none⟩) n n] w fun e w' => e = .returned (.tuple #[]) ∧ Only g w w' ∧ ∃ l', Nums w' g l' ∧ l'.Perm l ∧ Upto l' n := by
  have K := Lib.hid (fun r => pdq_prog h n r hn hs)
  have KL := Lib.hid (len_prog n hs w)
  have hnI : (n : Int) ≤ 9 := by omega
  have hw : IntKind.u64.wrap (n : Int) = (n : Int) := u64_nat' n (by omega)
  clear h hn hs
  go_enter Tryz.func130, Tryz.ntmps130
  go_wp2_with fail
  refine KL.out.mono ?_
  rintro e w1 ⟨⟨r, rfl⟩, rfl⟩
  go_wp2_with fail
  refine (K.out r).mono ?_
  rintro e w2 ⟨rfl, ho, hr⟩
  go_wp2_with fail
  go_end0
  exact ⟨rfl, ho, hr⟩
end
end
end Go.Proofs.YtflkdgghpmhbgaaGreat
namespace Go.Proofs.YtflkdgghpmhbgaaGreat
open Go.RowKit

/-- Some order of these numbers. -/
def InOrder (l : List Nat) (l' : List Nat) : Prop := l'.Perm l ∧ Upto l' l.length
/-- Of numbers in order there is one list. -/
theorem order_one : ∀ (a b : List Nat), a.Pairwise (· ≤ ·) → b.Pairwise (· ≤ ·) → a.Perm b → a = b
  | [], b, _, _, h => (List.Perm.nil_eq h)
  | x :: a, [], _, _, h => by have := h.length_eq; simp at this
  | x :: a, y :: b, ha, hb, h => by
    have hx : ∀ z ∈ a, x ≤ z := (List.pairwise_cons.1 ha).1
    have hy : ∀ z ∈ b, y ≤ z := (List.pairwise_cons.1 hb).1
    have h1 : x ≤ y := by
      have : y ∈ x :: a := h.symm.mem_iff.1 (List.mem_cons_self ..)
      rcases List.mem_cons.1 this with h | h
      · omega
      · exact hx y h
    have h2 : y ≤ x := by
      have : x ∈ y :: b := h.mem_iff.1 (List.mem_cons_self ..)
      rcases List.mem_cons.1 this with h | h
      · omega
      · exact hy x h
    have e : x = y := by omega
    subst e
    rw [order_one a b (List.pairwise_cons.1 ha).2 (List.pairwise_cons.1 hb).2 (List.perm_cons x |>.1 h)]
/-- The numbers in order. -/
def ordered (l : List Nat) : List Nat := l.mergeSort (fun a b => decide (a ≤ b))
theorem ordered_perm (l : List Nat) : (ordered l).Perm l := List.mergeSort_perm ..
theorem ordered_pw (l : List Nat) : (ordered l).Pairwise (· ≤ ·) := by
  have := List.pairwise_mergeSort (le := fun (a b : Nat) => decide (a ≤ b)) (fun a b c h1 h2 => by simp at *; omega) (fun a b => by simp; omega) l
  exact this.imp (by simp)
theorem upto_pw {l : List Nat} (h : Upto l l.length) : l.Pairwise (· ≤ ·) := by
  rw [List.pairwise_iff_getElem]
  intro i j hi hj hij
  exact h i j _ _ hij hj (List.getElem?_eq_getElem hi) (List.getElem?_eq_getElem hj)
theorem inOrder_eq {l l' : List Nat} (h : InOrder l l') : l' = ordered l :=
  order_one _ _ (upto_pw (by rw [h.1.length_eq]; exact h.2)) (ordered_pw l) (h.1.trans (ordered_perm l).symm)
theorem ordered_len (l : List Nat) : (ordered l).length = l.length := (ordered_perm l).length_eq

/-- How far each one's entries are known to be the node's. -/
def RN.reach (x : RN) : List Nat := (x.ps.map Pr.m).set x.id x.s.c.lastN
/-- The greatest index that a majority reaches. -/
def RN.agreed (x : RN) : Nat := (ordered x.reach).getD (x.ps.length - x.maj) 0
def RN.count (x : RN) : RN :=
  if (x.s.c.termAt x.agreed).isSome && decide (x.commit < x.agreed) && decide ((x.s.c.termAt x.agreed).getD 0 = x.s.c.term) then { x with commit := x.agreed } else x
theorem Tryz.u64Sl : Sl Tryz.prog 46 37 (.int .u64 0) 8 := ⟨Tryz.underlying46, by kernel_rfl, rfl⟩
theorem Nums.later2 {w : World} {g : Nat} {l : List Nat} {o : Obj} (h : Nums w g l) : Nums (w.alloc o) g l := (Lib.alloc_old _ _ _ h.lt).trans h
theorem nums_made {w : World} {g n : Nat} (h : w.rowIs g 37 n (fun _ => (.int .u64 0 : Value))) : Nums w g (List.replicate n 0) := by
  unfold Nums
  rw [rowIs_block h]
  congr 3
  unfold arrL
  rw [List.map_replicate, List.map_const']
  simp
theorem fill_succ {ps : List Pr} {k n : Nat} {q : Pr} (hq : ps[k]? = some q) (hk : k < n) : ((ps.take k).map Pr.m ++ List.replicate (n - k) 0).set k q.m = (ps.take (k + 1)).map Pr.m ++ List.replicate (n - (k + 1)) 0 := by
  have hkl := (List.getElem?_eq_some_iff.1 hq).1
  have e1 : ((ps.take k).map Pr.m).length = k := by rw [List.length_map, List.length_take]; omega
  rw [List.set_append_right _ _ (by omega), e1, Nat.sub_self, List.take_succ_eq_append_getElem hkl, (List.getElem?_eq_some_iff.1 hq).2, List.map_append, List.append_assoc]
  congr 1
  rw [show n - k = n - (k + 1) + 1 by omega, List.replicate_succ]
  rfl
section
variable {w : World} {p : Pl} {x : RN}
set_option maxHeartbeats 4000000 in
set_option maxRecDepth 100000 in
theorem count_prog (h : XW w p x) (hf : x.Fit) : Calls Tryz.prog 79 #[.pointer (some ⟨p.xb, 0, none⟩)] w fun e w' => e = .returned (.tuple #[]) ∧ XW w' p x.count ∧ XCh p w w' p := by
  obtain ⟨m0, m1, m2, m3, m4, m5, m6⟩ := h.cells
  have hn := hf.n
  have hid := hf.id
  have H := Lib.hid h
  have HF := Lib.hid hf
  obtain ⟨n, hnn⟩ : ∃ n, x.ps.length = n := ⟨_, rfl⟩
  rw [hnn] at m6 hn hid
  have hnI : (n : Int) ≤ 9 := by omega
  have hn0 : (0 : Int) ≤ (n : Int) := by omega
  have HN := Lib.hid hnn
  have hnl := h.nlt
  have hxl := h.xlt
  clear h hf hnn
  go_enter Tryz.func79, Tryz.ntmps79
  go_wp2_with (at_make; refine list_makeN Tryz.u64Sl rfl _ _ rfl n n n rfl rfl rfl rfl (by omega) (by unfold maxLen; omega) rfl ?_)
  intro w1 hrow1 hb1
  have HR1 := Lib.hid (nums_made hrow1)
  have HB1 := Lib.hid hb1
  have C6 := Lib.hid (fun W (hW : Below w.heap.size w W) => cellB hW m6)
  have c6 := C6.out _ hb1
  clear hrow1 hb1
  go_wp2_with fail
  go_loopw [19] (fun i wr => ∃ k : Nat, k ≤ n ∧ i = .int .i64 (k : Int) ∧ Hid (Nums wr w.heap.size ((x.ps.take k).map Pr.m ++ List.replicate (n - k) 0)) ∧ Hid (Below w.heap.size w wr)) (fun i _ => n - (intOf i).toNat)
  case atStart => exact ⟨0, by omega, rfl, HR1, HB1⟩
  case round =>
    obtain ⟨k, hk, rfl, HR, HB⟩ := hrel
    by_cases hlt : k < n
    · have hkI : (k : Int) < (n : Int) := by omega
      have hk0 : (0 : Int) ≤ (k : Int) := by omega
      obtain ⟨q, hq⟩ : ∃ q, x.ps[k]? = some q := ⟨_, List.getElem?_eq_getElem (by rw [HN.out]; exact hlt)⟩
      obtain ⟨q0, q1, q2⟩ := (H.out.later HB.out).peer hq
      have HS := Lib.hid (fill_succ (n := n) hq hlt)
      have hRl := HR.out.lt
      have hkl : k < ((x.ps.take k).map Pr.m ++ List.replicate (n - k) 0).length := by
        rw [List.length_append, List.length_map, List.length_take, List.length_replicate, HN.out]; omega
      obtain ⟨z0, hz0⟩ : ∃ z, ((x.ps.take k).map Pr.m ++ List.replicate (n - k) 0)[k]? = some z := ⟨_, List.getElem?_eq_getElem hkl⟩
      have c0 := HR.out.cell hz0
      have f0 := HR.out.free k
      have HST := Lib.hid ((HR.out.set k q.m).later2 (o := .cells #[.bool q.v, .int .u64 (q.a : Int), .int .u64 (q.m : Int)] 188))
      clear hq hkl hz0
      go_wp2_with fail
      go_roundw
      case rel => exact ⟨k + 1, by omega, by go_num, by rw [← HS.out]; exact HST, Lib.hid ((HB.out.setCell (p := ⟨w.heap.size, k, none⟩) (Nat.le_refl _) (.int .u64 (q.m : Int))).alloc (by simpa using HB.out.size) _)⟩
      case measure => simp [intOf]; omega
    · have hke : k = n := by omega
      subst hke
      have hkI : ¬ (k : Int) < (k : Int) := by omega
      have HRE := Lib.hid (show Nums wr w.heap.size (x.ps.map Pr.m) by
        have := HR.out
        rw [Nat.sub_self, List.take_of_length_le (by rw [HN.out]; omega), List.replicate_zero, List.append_nil] at this
        exact this)
      have hr := H.out.later HB.out
      obtain ⟨c0, c1, _, _, c4, _, _⟩ := hr.cells
      have hidl : x.id < (x.ps.map Pr.m).length := by rw [List.length_map, HN.out]; exact hid
      obtain ⟨z0, hz0⟩ : ∃ z, (x.ps.map Pr.m)[x.id]? = some z := ⟨_, List.getElem?_eq_getElem hidl⟩
      have d0 := HRE.out.cell hz0
      have f0 := HRE.out.free x.id
      have KL := Lib.hid (xlast_prog (hr.drewN 1) HF.out)
      have HLE := Lib.hid (show ((x.ps.map Pr.m).set x.id x.s.c.lastN).length = k by rw [List.length_set, List.length_map, HN.out])
      have HRQ : Hid (x.reach = (x.ps.map Pr.m).set x.id x.s.c.lastN) := Lib.hid rfl
      obtain ⟨I, hI⟩ : ∃ I, x.id = I := ⟨_, rfl⟩
      rw [hI] at c0 d0 f0 HLE HRQ hid
      obtain ⟨L, hL⟩ : ∃ L, x.s.c.lastN = L := ⟨_, rfl⟩
      rw [hL] at KL HLE HRQ
      have hIk : (I : Int) < (k : Int) := by omega
      have hI0 : (0 : Int) ≤ (I : Int) := by omega
      have HID := Lib.hid hid
      have HKN := Lib.hid hn
      clear hr hidl hz0 hI hL m0 m1 m2 m3 m4 m5 m6 c6 c4
      go_wp2_with fail
      have hxR : p.xb ≠ w.heap.size := Nat.ne_of_lt hxl
      go_region_held3 (fun X => X.cell? ⟨p.xb, 0, none⟩ = some (.int .i64 (I : Int)) ∧ X.cell? ⟨p.xb, 1, none⟩ = some (.pointer (some ⟨p.lb, 0, none⟩)))
        (first | exact ⟨c0, c1⟩ | exact ⟨cellO (w := World.drewN _ _) c0 hxR, cellO (w := World.drewN _ _) c1 hxR⟩)
        ((go_at_call 31; refine KL.out.mono ?_; rintro e w5 ⟨rfl, q5, rfl⟩))
      obtain ⟨W2, hW2⟩ : ∃ W2, W2 = (wr.drewN (1 + q5)).setCell ⟨w.heap.size, I, none⟩ (.int .u64 (L : Int)) := ⟨_, rfl⟩
      have HR2 : Hid (Nums W2 w.heap.size x.reach) := Lib.hid (by rw [HRQ.out, hW2]; exact (show Nums (wr.drewN (1 + q5)) _ _ from HRE.out).set I L)
      have HB2 : Hid (Below w.heap.size w W2) := Lib.hid (by rw [hW2]; exact (HB.out.trans ((Same.of wr (1 + q5)).below _)).setCell (Nat.le_refl _) _)
      have HLR : Hid (x.reach.length = k) := Lib.hid (by rw [HRQ.out]; exact HLE.out)
      have KS := Lib.hid (sort_prog HR2.out k HLR.out hn)
      rw [← hW2]
      clear hW2 c0 c1 d0 f0 hIk hI0 HR HB HRE KL hid
      go_wp2_with fail
      refine KS.out.mono ?_
      rintro e w3 ⟨rfl, ho3, l', hl3, hp3, hu3⟩
      have hb3 := HB2.out.trans (ho3.below (Nat.le_refl _) HB2.out.size)
      have h3 := H.out.later hb3
      have hl' : l' = ordered x.reach := inOrder_eq ⟨hp3, by rw [HLR.out]; exact hu3⟩
      rw [hl'] at hl3
      have hmj : x.maj = k / 2 + 1 := by unfold RN.maj; rw [HN.out]
      have KM := Lib.hid (majority_prog h3 HF.out.n)
      obtain ⟨M, hM⟩ : ∃ M, x.maj = M := ⟨_, rfl⟩
      have EAG : Hid (x.agreed = (ordered x.reach).getD (k - M) 0) := Lib.hid (by unfold RN.agreed; rw [HN.out, hM])
      rw [hM] at KM hmj
      have hk1 : 0 < k := by have := HID.out; omega
      obtain ⟨D, hD⟩ : ∃ D, k - M = D := ⟨_, rfl⟩
      have hsub : (k : Int) - (M : Int) = (D : Int) := by omega
      have hDk : (D : Int) < (k : Int) := by omega
      have hD0 : (0 : Int) ≤ (D : Int) := by omega
      have hDl : D < (ordered x.reach).length := by rw [ordered_len, HLR.out]; omega
      obtain ⟨G, hG⟩ : ∃ G, (ordered x.reach)[D]? = some G := ⟨_, List.getElem?_eq_getElem hDl⟩
      have hAG : x.agreed = G := by rw [EAG.out, hD, List.getD_eq_getElem?_getD, hG]; rfl
      have r0 := hl3.cell hG
      have c1 := h3.cells.2.1
      have KT := Lib.hid (xtermAt_prog G h3 HF.out)
      obtain ⟨o, ho⟩ : ∃ o, x.s.c.termAt G = o := ⟨_, rfl⟩
      rw [ho] at KT
      simp only [numV_getD] at KT
      have ECO : Hid (x.count = if o.isSome && decide (x.commit < G) && decide (o.getD 0 = x.s.c.term) then { x with commit := G } else x) := Lib.hid (by unfold RN.count; rw [hAG, ho])
      have HB3 := Lib.hid hb3
      have H3 := Lib.hid h3
      clear ho3 hl3 hp3 hu3 hb3 h3 hl' hmj hM hk1 hD hDl hG hAG ho KS
      go_wp2_with fail
      refine KM.out.mono ?_
      rintro e w4 ⟨rfl, rfl⟩
      go_wp2_with fail
      refine KT.out.mono ?_
      rintro e w5 ⟨rfl, hb5⟩
      have h5 := H3.out.later hb5
      have HC5 := Lib.hid (XCh.ofBelow p (HB3.out.trans (hb5.mono HB3.out.size)))
      obtain ⟨_, c1, _, _, c4, _, _⟩ := h5.cells
      have z4 := h5.free 4
      have KX := Lib.hid (xterm_prog h5)
      have H5 := Lib.hid h5
      have EST := Lib.hid (h5.setCommit G)
      obtain ⟨CO, hCO⟩ : ∃ CO, x.commit = CO := ⟨_, rfl⟩
      obtain ⟨T, hT⟩ : ∃ T, x.s.c.term = T := ⟨_, rfl⟩
      obtain ⟨OT, hOT⟩ : ∃ OT, o.getD 0 = OT := ⟨_, rfl⟩
      rw [hCO] at c4 ECO
      rw [hT] at KX ECO
      rw [hOT] at ECO ⊢
      clear hb5 h5 KT KM hCO hT hOT r0
      obtain ⟨b1, hb1⟩ : ∃ b1, o.isSome = b1 := ⟨_, rfl⟩
      rw [hb1] at ECO ⊢
      clear hb1
      cases b1
      · have e2 : x.count = x := ECO.out
        have E2 := Lib.hid e2
        clear e2
        go_wp2_with fail
        go_end0
        exact ⟨rfl, by rw [E2.out]; exact H5.out, HC5.out⟩
      · by_cases hlt1 : CO < G
        · have hl1 : decide (CO < G) = true := decide_eq_true hlt1
          by_cases heq : OT = T
          · subst heq
            have e2 : x.count = { x with commit := G } := by rw [ECO.out, hl1]; simp
            have E2 := Lib.hid e2
            clear e2 hlt1
            go_wp2_with fail
            refine KX.out.mono ?_
            rintro e w6 ⟨rfl, rfl⟩
            go_wp2_with fail
            go_end0
            exact ⟨rfl, by rw [E2.out]; exact EST.out, HC5.out.trans (XCh.setX _ _ _ _)⟩
          · have hE : ((OT : Int) == (T : Int)) = false := by simp; omega
            have e2 : x.count = x := by rw [ECO.out, decide_eq_false heq]; simp
            have E2 := Lib.hid e2
            clear e2 hlt1 heq
            go_wp2_with fail
            refine KX.out.mono ?_
            rintro e w6 ⟨rfl, rfl⟩
            go_wp2_with fail
            go_end0
            exact ⟨rfl, by rw [E2.out]; exact H5.out, HC5.out⟩
        · have hl1 : decide (CO < G) = false := decide_eq_false hlt1
          have e2 : x.count = x := by rw [ECO.out, hl1]; simp
          have E2 := Lib.hid e2
          clear e2 hlt1
          go_wp2_with fail
          go_end0
          exact ⟨rfl, by rw [E2.out]; exact H5.out, HC5.out⟩
end
end Go.Proofs.YtflkdgghpmhbgaaGreat
namespace Go.Proofs.YtflkdgghpmhbgaaGreat
open Go.RowKit

theorem apart_new {w : World} {lb g o n c : Nat} {v : Value} (h1 : lb < w.heap.size) (h2 : ∀ k, v.ownBlock = some k → k < w.heap.size) (hg : w.heap.size ≤ g) : Apart lb v (.slice (some ⟨g, o, none⟩) n c) := fun k hk => by
  obtain rfl : g = k := by simpa [Value.ownBlock] using hk
  exact ⟨by omega, fun e => by have := h2 _ e; omega⟩
theorem esl_one {w : World} {g c t : Nat} {s : ByteArray} (hc : 1 ≤ c) (h : w.heap[g]? = some (.cells #[.int .u64 (t : Int), .string s] 70 (0, 0))) : ESl w (.slice (some ⟨g, 0, none⟩) 1 c) [(t, s)] := by
  refine ⟨_, c, rfl, hc, fun _ => ⟨g, 0, rfl, block_lt h, fun i y hi => ?_⟩⟩
  cases i with
  | zero =>
    obtain rfl : (t, s) = y := by simpa using hi
    simp [World.cell?, h]
  | succ i => simp at hi
def RN.addS (x : RN) (cmd : ByteArray) : LgS × Int := x.s.add x.s.c.lastN [(x.s.c.term, cmd)]
def RN.add (x : RN) (cmd : ByteArray) : RN := { x with s := (x.addS cmd).1 }
section
variable {w : World} {p : Pl} {x : RN}
set_option maxHeartbeats 4000000 in
set_option maxRecDepth 100000 in
theorem add_prog (h : XW w p x) (hf : x.Fit) (cmd : ByteArray) (hc : cmd.size ≤ 1000000) : Calls Tryz.prog 78 #[.pointer (some ⟨p.xb, 0, none⟩), .string cmd] w fun e w' => e = .returned (.int .i64 (x.addS cmd).2) ∧ XO p w (x.add cmd) w' := by
  obtain ⟨m0, m1, m2, m3, m4, m5, m6⟩ := h.cells
  have KL := Lib.hid (xlast_prog (h.drewN 1) hf)
  have KT := Lib.hid (fun q => xterm_prog (h.drewN q))
  have hEnt : EntsOk [(x.s.c.term, cmd)] := fun y hy => by
    obtain rfl : y = (x.s.c.term, cmd) := by simpa using hy
    exact ⟨by have := hf.term; unfold m64; simp only; omega, by unfold m64; simp only; omega⟩
  have hEl : (entsL [(x.s.c.term, cmd)]).length ≤ 90000000 := by simp [entsL, textL, numL_len]; omega
  have hlb : x.s.c.lastN < m64 := Nat.mod_lt _ (by unfold m64; omega)
  have KA := Lib.hid (fun W (sv : Value) (hW : XW W p x) (hs : ESl W sv [(x.s.c.term, cmd)]) (ha : Apart p.lb p.v sv) => hadd_prog hW.lw hf.s x.s.c.lastN sv [(x.s.c.term, cmd)] hs (fun _ => ha) hEnt hlb hEl)
  have H := Lib.hid h
  have e1 : x.add cmd = { x with s := (x.addS cmd).1 } := rfl
  have e2 : x.addS cmd = x.s.add x.s.c.lastN [(x.s.c.term, cmd)] := rfl
  rw [e1, e2]
  obtain ⟨⟨s2, r2⟩, hS⟩ : ∃ S, x.s.add x.s.c.lastN [(x.s.c.term, cmd)] = S := ⟨_, rfl⟩
  rw [hS] at KA ⊢
  dsimp only at KA ⊢
  obtain ⟨L, hL⟩ : ∃ L, x.s.c.lastN = L := ⟨_, rfl⟩
  obtain ⟨T, hT⟩ : ∃ T, x.s.c.term = T := ⟨_, rfl⟩
  rw [hL] at KL KA
  rw [hT] at KT KA
  clear h hf hc hEnt hEl hlb e1 e2 hS hL hT m0 m2 m3 m4 m5 m6
  go_enter Tryz.func78, Tryz.ntmps78
  go_wp2_with fail
  go_region_held3 (fun X => X.cell? ⟨p.xb, 1, none⟩ = some (.pointer (some ⟨p.lb, 0, none⟩)))
    (first | exact m1 | exact hcs | exact cellB (w := World.drewN _ _) ((Below.refl _ _).alloc (Nat.le_refl _) _) m1)
    (first
      | (go_at_call 31; refine KL.out.mono ?_; rintro e w3 ⟨rfl, q3, rfl⟩)
      | (go_at_call 28; refine (KT.out (1 + q3)).mono ?_; rintro e w4 ⟨rfl, rfl⟩)
      | (go_at_call 129; refine (KA.out _ _ ((H.out.drewN (1 + q3)).later ((Below.refl _ _).alloc (Nat.le_refl _) _)) (esl_one (Nat.le_refl 1) (heap_alloc_new _ _)) (apart_new (w := w) (CtAt.lt H.out.lw.log) (fun k hk => H.out.lw.log.2.1.lt k hk) (Nat.le_refl _))).mono ?_; rintro e w5 ⟨rfl, ho5⟩; have hx5 := XO.ofLog ((H.out.drewN (1 + q3)).later ((Below.refl _ _).alloc (Nat.le_refl _) (.cells #[.int .u64 (T : Int), .string cmd] 70))) ho5; obtain ⟨p5, hp5, hc5⟩ := hx5; have hcs : w5.cell? ⟨p.xb, 1, none⟩ = some (.pointer (some ⟨p.lb, 0, none⟩)) := (hc5.xb ▸ hc5.lb ▸ hp5.cells.2.1)))
  have HP := Lib.hid hp5
  have HC := Lib.hid (((XCh.ofBelow p ((Same.of w (1 + q3)).below _)).trans (XCh.ofBelow p ((Below.refl _ _).alloc (Nat.le_refl _) _))).trans hc5)
  clear hp5 hc5 ho5 hcs
  go_wp2_with fail
  go_ret
  exact ⟨rfl, XO.of HP.out HC.out⟩

set_option maxRecDepth 100000 in
theorem eg_feed : ∀ args w, (callFunc 118 args).run Tryz.prog w = .ok (.enter 118 args) w := fun _ _ => rfl
set_option maxRecDepth 100000 in
theorem eg_ask : ∀ args w, (callFunc 122 args).run Tryz.prog w = .ok (.enter 122 args) w := fun _ _ => rfl
theorem feed_prog (h : XW w p x) (hf : x.Fit) (dst : Nat) (hd : dst < x.ps.length) : Calls Tryz.prog 118 #[.pointer (some ⟨p.xb, 0, none⟩), .int .i64 (dst : Int)] w fun e w' => (∃ v, e = .returned v ∧ MgV w' w.heap.size v (x.feedM dst)) ∧ Below w.heap.size w w' := by
  have hq : x.ps[dst]? = some (x.ps.getD dst ⟨false, 0, 0⟩) := by rw [List.getD_eq_getElem?_getD, List.getElem?_eq_getElem hd]; rfl
  unfold RN.feedM
  by_cases hb : (x.ps.getD dst ⟨false, 0, 0⟩).a < x.s.c.base
  · exact feed_snap h dst _ hq hb hf.n
  · exact feed_app h hf dst _ hq (by omega)
/-- What it feeds the others. -/
def RN.feedAll (x : RN) : List Mg := (othersTo x.id x.ps.length).map x.feedM
def RN.askAll (x : RN) : List Mg := (othersTo x.id x.ps.length).map fun (d : Nat) => x.askM d
set_option maxRecDepth 100000 in
theorem feedAll_prog (h : XW w p x) (hf : x.Fit) : Calls Tryz.prog 70 #[.pointer (some ⟨p.xb, 0, none⟩)] w fun e w' => (∃ v, e = .returned v ∧ MOwn w' w.heap.size v x.feedAll) ∧ Below w.heap.size w w' := by
  have hmf : ∀ (fn : Fn) (first cap : Array Value) (w : World), (Instr.makeFunc fn first cap).run Tryz.prog w = .ok (.func fn first cap) w := fun _ _ _ _ => rfl
  have K := Lib.hid (toAll_prog h hf.n hf.id 118 eg_feed x.feedM (fun d W hW hd _ => feed_prog hW hf d hd))
  have E : x.feedAll = (othersTo x.id x.ps.length).map x.feedM := rfl
  rw [← E] at K
  clear h hf E
  go_enter Tryz.func70, Tryz.ntmps70
  go_wp2_with fail
  refine K.out.mono ?_
  rintro e w1 ⟨⟨v, rfl, hv⟩, hb⟩
  have HV := Lib.hid hv
  have HB := Lib.hid hb
  clear hv hb K
  go_wp2_with fail
  go_ret
  exact ⟨⟨_, rfl, HV.out⟩, HB.out⟩
end
end Go.Proofs.YtflkdgghpmhbgaaGreat
namespace Go.Proofs.YtflkdgghpmhbgaaGreat
open Go.RowKit

/-- No more than M bytes, and no number above K. -/
structure RN.In (x : RN) (M K : Nat) : Prop where
  s : x.s.Sm M
  id : x.id < x.ps.length
  n : x.ps.length ≤ 9
  term : x.s.c.term ≤ K
  last : x.s.c.base + x.s.c.ents.length ≤ K
  commit : x.commit ≤ K
  pat : x.pat ≤ 1000000000
  ps : ∀ q ∈ x.ps, q.a ≤ K ∧ q.m ≤ K
section
variable {x : RN} {M K : Nat}
theorem RN.In.fit (h : x.In M K) (hM : M ≤ 100000000) (hK : K ≤ 1000000000000000000) : x.Fit :=
  ⟨h.s.fit hM, h.id, h.n, Nat.le_trans h.term hK, Nat.le_trans h.last hK, Nat.le_trans h.commit hK, by have := h.pat; omega, fun q hq => ⟨Nat.le_trans (h.ps q hq).1 hK, Nat.le_trans (h.ps q hq).2 hK⟩⟩
theorem RN.In.mono {M2 K2 : Nat} (h : x.In M K) (hM : M ≤ M2) (hK : K ≤ K2) : x.In M2 K2 :=
  ⟨h.s.mono hM, h.id, h.n, Nat.le_trans h.term hK, Nat.le_trans h.last hK, Nat.le_trans h.commit hK, h.pat, fun q hq => ⟨Nat.le_trans (h.ps q hq).1 hK, Nat.le_trans (h.ps q hq).2 hK⟩⟩
theorem lastN_le (c : CT) : c.lastN ≤ c.base + c.ents.length := Nat.mod_le _ _
theorem LgS.change_c (s : LgS) (k : UInt8) (body : ByteArray) {c : CT} (hr : redoC s.c k body = some c) : (s.change k body).1.c = s.c ∨ (s.change k body).1.c = c := by
  unfold LgS.change
  split
  · right; simp only [hr]; rfl
  · left; exact s.write_c _
theorem LgS.setTerm_c (s : LgS) (t : Nat) (v : Int) (ht : t < m64) (hv : v < 9223372036854775808) : (s.setTerm t v).1.c = s.c ∨ (s.setTerm t v).1.c = { s.c with term := t, vote := v } := by
  unfold LgS.setTerm
  split
  · exact .inl rfl
  · split
    · rename_i h
      exact LgS.change_c s.down 249 _ (redo_vote s.c t v ht hv h)
    · exact .inl rfl
theorem LgS.add_c (s : LgS) (b : Nat) (E : List Ent) (hb : b < m64) (hE : EntsOk E) : (s.add b E).1.c = s.c ∨ ((s.add b E).1.c = s.c.addE b E ∧ s.c.takes b E.length = true) := by
  unfold LgS.add
  split
  · exact .inl rfl
  · split
    · rename_i h
      rcases LgS.change_c s.down 250 _ (redo_add s.c b E hb hE h) with e | e
      · exact .inl e
      · exact .inr ⟨e, h⟩
    · exact .inl rfl
theorem LgS.rebase_c (s : LgS) (i t : Nat) (st : ByteArray) : (s.rebase i t st).1.c = s.c ∨ (s.rebase i t st).1.c = s.c.rebase i t st := by
  unfold LgS.rebase
  split
  · exact .inr rfl
  · exact .inl rfl
theorem LgS.install_c (s : LgS) (i t : Nat) (st : ByteArray) : (s.install i t st).1.c = s.c ∨ (s.install i t st).1.c = s.c.rebase i t st := by
  unfold LgS.install
  split
  · exact .inl rfl
  · split
    · exact .inl rfl
    · exact LgS.rebase_c s.down i t st
theorem LgS.compact_c (s : LgS) (i : Nat) (st : ByteArray) : (s.compact i st).1.c = s.c ∨ ∃ t, s.c.termAt i = some t ∧ (s.compact i st).1.c = s.c.rebase i t st := by
  unfold LgS.compact
  split
  · exact .inl rfl
  · cases h : s.c.termAt i with
    | none => exact .inl rfl
    | some t =>
      rcases LgS.rebase_c s.down i t st with e | e
      · exact .inl e
      · exact .inr ⟨t, rfl, e⟩
theorem addE_last {c : CT} {b : Nat} {E : List Ent} (hc : c.base + c.ents.length < m64) (h : c.takes b E.length = true) : (c.addE b E).base + (c.addE b E).ents.length = b + E.length := by
  obtain ⟨h1, h2, h3⟩ := takes_in hc h
  simp only [CT.addE, List.length_append, List.length_take]
  omega
theorem rebase_last (c : CT) (i t : Nat) (st : ByteArray) : (c.rebase i t st).base + (c.rebase i t st).ents.length ≤ max i (c.base + c.ents.length) := by
  unfold CT.rebase
  split
  · rename_i h
    obtain ⟨h1, h2⟩ := termAt_in h
    simp only [List.length_drop]
    omega
  · simp only [List.length_nil]; omega
theorem ent_one_len (t : Nat) (cmd : ByteArray) : (entsL [(t, cmd)]).length = 16 + cmd.size := by simp [entsL, textL, numL_len]; omega
theorem RN.In.add (h : x.In M K) (cmd : ByteArray) (hc : cmd.size ≤ 1000000) (hM : M ≤ 100000000) (hK : K ≤ 1000000000000000000) : (x.add cmd).In (M + cmd.size + 49) (K + 1) := by
  have hf := h.fit hM hK
  have hEnt : EntsOk [(x.s.c.term, cmd)] := fun y hy => by
    obtain rfl : y = (x.s.c.term, cmd) := by simpa using hy
    exact ⟨by have := h.term; unfold m64; simp only; omega, by unfold m64; simp only; omega⟩
  have hlb : x.s.c.lastN < m64 := Nat.mod_lt _ (by unfold m64; omega)
  have hs := (h.s.add x.s.c.lastN [(x.s.c.term, cmd)] hlb hEnt).mono (M2 := M + cmd.size + 49) (by rw [ent_one_len]; omega)
  have hcc := LgS.add_c x.s x.s.c.lastN [(x.s.c.term, cmd)] hlb hEnt
  have ht : (x.add cmd).s.c.term = x.s.c.term := by
    rcases hcc with e | ⟨e, _⟩
    · exact congrArg CT.term e
    · show (x.s.add _ _).1.c.term = _
      rw [e]; rfl
  have hl : (x.add cmd).s.c.base + (x.add cmd).s.c.ents.length ≤ K + 1 := by
    rcases hcc with e | ⟨e, h2⟩
    · show (x.s.add _ _).1.c.base + (x.s.add _ _).1.c.ents.length ≤ K + 1
      rw [e]; have := h.last; omega
    · show (x.s.add _ _).1.c.base + (x.s.add _ _).1.c.ents.length ≤ K + 1
      rw [e, addE_last hf.m64 h2, hf.lastN]; have := h.last; simp; omega
  exact ⟨hs, h.id, h.n, by rw [ht]; have := h.term; omega, hl, by have := h.commit; exact Nat.le_succ_of_le this, h.pat, fun q hq => ⟨Nat.le_succ_of_le (h.ps q hq).1, Nat.le_succ_of_le (h.ps q hq).2⟩⟩
theorem ordered_le {l : List Nat} {K : Nat} (h : ∀ x ∈ l, x ≤ K) (i : Nat) : (ordered l).getD i 0 ≤ K := by
  rw [List.getD_eq_getElem?_getD]
  cases hx : (ordered l)[i]? with
  | none => simp
  | some y => exact h y ((ordered_perm l).mem_iff.1 (List.mem_of_getElem? hx))
theorem reach_le (h : x.In M K) : ∀ y ∈ x.reach, y ≤ K := fun y hy => by
  unfold RN.reach at hy
  rcases List.mem_or_eq_of_mem_set hy with hy | rfl
  · obtain ⟨q, hq, rfl⟩ := List.mem_map.1 hy
    exact (h.ps q hq).2
  · exact Nat.le_trans (lastN_le _) h.last
theorem RN.In.count (h : x.In M K) : x.count.In M K := by
  unfold RN.count
  split
  · exact ⟨h.s, h.id, h.n, h.term, h.last, ordered_le (reach_le h) _, h.pat, h.ps⟩
  · exact h
theorem RN.In.setTerm (h : x.In M K) (t : Nat) (v : Int) (role leader : Int) (pat : Nat) (ht : t ≤ K) (hK : K ≤ 1000000000000000000) (hv : v < 9223372036854775808) (hp : pat ≤ 1000000000) : RN.In { x with s := (x.s.setTerm t v).1, role := role, leader := leader, pat := pat } (M + 41) K := by
  have h1 := h.s.setTerm t v (by unfold m64; omega) hv
  rcases LgS.setTerm_c x.s t v (by unfold m64; omega) hv with e | e
  · exact ⟨h1, h.id, h.n, by show (x.s.setTerm t v).1.c.term ≤ K; rw [e]; exact h.term, by show (x.s.setTerm t v).1.c.base + (x.s.setTerm t v).1.c.ents.length ≤ K; rw [e]; exact h.last, h.commit, hp, h.ps⟩
  · exact ⟨h1, h.id, h.n, by show (x.s.setTerm t v).1.c.term ≤ K; rw [e]; exact ht, by show (x.s.setTerm t v).1.c.base + (x.s.setTerm t v).1.c.ents.length ≤ K; rw [e]; exact h.last, h.commit, hp, h.ps⟩
theorem RN.In.down (h : x.In M K) : x.down.In M K := ⟨h.s.down, h.id, h.n, h.term, h.last, h.commit, h.pat, h.ps⟩
end
end Go.Proofs.YtflkdgghpmhbgaaGreat
