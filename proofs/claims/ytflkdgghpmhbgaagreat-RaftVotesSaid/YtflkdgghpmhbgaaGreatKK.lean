/- raft: Down of a node whose log knows whether its disk is down: nothing turns. -/
import Derived.Test.YtflkdgghpmhbgaaGreatKJ
namespace Go.Proofs.YtflkdgghpmhbgaaGreat
open Go.RowKit

/-- All blocks of a node lie below B. -/
structure Pl.Low (p : Pl) (B : Nat) : Prop where
  xb : p.xb < B
  nb : p.nb < B
  lb : p.lb < B
  db : p.db < B
  v : ∀ k, p.v.ownBlock = some k → k < B
  dv : ∀ k, p.dv.ownBlock = some k → k < B
theorem XW.low {w : World} {p : Pl} {x : RN} (h : XW w p x) : p.Low w.heap.size := by
  obtain ⟨l1, l2, l3, l4⟩ := h.lw.lts
  exact ⟨h.xlt, h.nlt, l1, l2, l3, l4⟩
theorem XCh.kept {w w' : World} {p p' : Pl} {B G : Nat} (h : XCh p w w' p') (hl : p.Low B) (hB : B ≤ G) (hG : G < w.heap.size) : w'.heap[G]? = w.heap[G]? :=
  h.block G hG (by have := hl.xb; omega) (by have := hl.nb; omega) (by have := hl.lb; omega) (by have := hl.db; omega) (fun e => by have := hl.v G e; omega) (fun e => by have := hl.dv G e; omega)
/-- A vote that is given. -/
def RN.grants (x : RN) (m : Mg) : Bool := decide (m.term = x.s.c.term) && decide (x.role = 0) && (decide (x.s.c.vote = -1) || decide (x.s.c.vote = m.src)) && !x.better m.index m.lterm
def RN.voted (x : RN) (s : LgS) : RN := { x with s := s, pat := 0 }
def RN.asked (x : RN) (m : Mg) : RN × List Mg :=
  if x.grants m = true then
    (if (x.s.setTerm m.term m.src).2 = 0 then (x.voted (x.s.setTerm m.term m.src).1, [{ (x.voted (x.s.setTerm m.term m.src).1).mg 1 m.src with ok := true }]) else ({ x with s := (x.s.setTerm m.term m.src).1 }, []))
  else (x, [{ x.mg 1 m.src with ok := false }])
section
variable {w : World} {p : Pl} {x : RN} {M K : Nat}
set_option maxHeartbeats 4000000 in
set_option maxRecDepth 100000 in
theorem asked_prog (h : XW w p x) (hi : x.In M K) (hM : M ≤ 80000000) (hK : K ≤ 10000000000000000) (m : Mg) (ev : Value) (hmt : m.term < m64) :
    Calls Tryz.prog 74 #[.pointer (some ⟨p.xb, 0, none⟩), .agg (mgL m ev).toArray] w fun e w' => (∃ v, e = .returned v ∧ MOwn w' w.heap.size v (x.asked m).2) ∧ XO p w (x.asked m).1 w' := by
  obtain ⟨W0, hW0⟩ : ∃ W0, W0 = w.alloc (.cells (mgL m ev).toArray 40) := ⟨_, rfl⟩
  have hb0 : Below w.heap.size w W0 := by rw [hW0]; exact (Below.refl _ _).alloc (Nat.le_refl _) _
  have hz0 : W0.heap[w.heap.size]? = some (.cells (mgL m ev).toArray 40 (0, 0)) := by rw [hW0]; exact heap_alloc_new _ _
  have h0 := h.later hb0
  have HLO := Lib.hid h.low
  have hf := hi.fit (M := M) (K := K) (by omega) (by omega)
  unfold mgL at hW0 hz0 ⊢
  go_enter Tryz.func74, Tryz.ntmps74
  go_upto_region 1 with fail
  simp only [← hW0]
  go_cut [5] (fun s5 wx => s5 = .bool (x.grants m) ∧ Below W0.heap.size W0 wx)
  case first =>
    clear hW0
    obtain ⟨d0, d1, d2, d3, d4, d5, d6, d7, d8, d9⟩ := cells10 hz0
    obtain ⟨c0, c1, c2, c3, c4, c5, c6⟩ := h0.cells
    have KT := Lib.hid (xterm_q h0)
    have KV := Lib.hid (fun q => quietE ((mayVote_prog (h0.drewN q) m.src).mono fun _ _ h => ⟨h.1, h.2.symm⟩))
    have KB := Lib.hid (fun q => better_prog (h0.drewN q) hf m.index m.lterm)
    have KVV := Lib.hid (fun q => mayVote_prog (h0.drewN q) m.src)
    have KTT := Lib.hid (fun q => xterm_prog (h0.drewN q))
    have EG : Hid (x.grants m = (decide (m.term = x.s.c.term) && decide (x.role = 0) && (decide (x.s.c.vote = -1) || decide (x.s.c.vote = m.src)) && !x.better m.index m.lterm)) := Lib.hid rfl
    clear h h0 hi hM hK hb0 hz0 hf c0 c3 c4 c5 c6 d0 d2 d6 d7 d8 d9 hmt
    by_cases hA : m.term = x.s.c.term
    · have hAI : ((m.term : Int) == (x.s.c.term : Int)) = true := by simp [hA]
      by_cases hB : x.role = 0
      · have hBI : (x.role == 0) = true := by simp [hB]
        rw [decide_eq_true hA, decide_eq_true hB] at EG
        obtain ⟨mv, hmv⟩ : ∃ mv, (decide (x.s.c.vote = -1) || decide (x.s.c.vote = m.src)) = mv := ⟨_, rfl⟩
        rw [hmv] at KV EG KVV
        clear hmv hA hB
        cases mv
        · have EG2 : Hid (x.grants m = false) := Lib.hid (by rw [EG.out]; rfl)
          clear EG KB KVV KTT
          go_quiet ((first | (go_at_call 28; exact KT.out _) | (go_at_call 123; exact KV.out _)))
          go_wp2_with fail
          go_meet
          exact ⟨by rw [EG2.out], (Same.of _ _).below _⟩
        · obtain ⟨bt, hbt⟩ : ∃ bt, x.better m.index m.lterm = bt := ⟨_, rfl⟩
          rw [hbt] at KB EG
          have EG2 : Hid (x.grants m = !bt) := Lib.hid (by rw [EG.out]; simp)
          clear EG KV KT hbt
          have KB2 := Lib.hid (KB.out 1)
          clear KB
          go_region_held3 (fun X => X.cell? ⟨p.xb, 1, none⟩ = some (.pointer (some ⟨p.lb, 0, none⟩)) ∧ X.cell? ⟨p.xb, 2, none⟩ = some (.int .i64 x.role) ∧ X.cell? ⟨w.heap.size, 1, none⟩ = some (.int .i64 m.src) ∧ X.cell? ⟨w.heap.size, 3, none⟩ = some (.int .u64 (m.term : Int)) ∧ X.cell? ⟨w.heap.size, 4, none⟩ = some (.int .u64 (m.index : Int)) ∧ X.cell? ⟨w.heap.size, 5, none⟩ = some (.int .u64 (m.lterm : Int)))
            (first | exact ⟨c1, c2, d1, d3, d4, d5⟩ | exact hcs)
            (first
              | (go_at_call 28; refine (KTT.out 1).mono ?_; rintro e w3 ⟨rfl, rfl⟩)
              | (go_at_call 123; refine (KVV.out 1).mono ?_; rintro e w4 ⟨rfl, rfl⟩)
              | (go_at_call 124; refine KB2.out.mono ?_; rintro e w5 ⟨rfl, hb5⟩; have hcs : w5.cell? ⟨p.xb, 1, none⟩ = some (.pointer (some ⟨p.lb, 0, none⟩)) ∧ w5.cell? ⟨p.xb, 2, none⟩ = some (.int .i64 x.role) ∧ w5.cell? ⟨w.heap.size, 1, none⟩ = some (.int .i64 m.src) ∧ w5.cell? ⟨w.heap.size, 3, none⟩ = some (.int .u64 (m.term : Int)) ∧ w5.cell? ⟨w.heap.size, 4, none⟩ = some (.int .u64 (m.index : Int)) ∧ w5.cell? ⟨w.heap.size, 5, none⟩ = some (.int .u64 (m.lterm : Int)) := ⟨cellB hb5 c1, cellB hb5 c2, cellB hb5 d1, cellB hb5 d3, cellB hb5 d4, cellB hb5 d5⟩))
          all_goals
            go_wp2_with fail
            go_meet
            exact ⟨by rw [EG2.out], ((Same.of W0 1).below _).trans hb5⟩
      · have hBI : (x.role == 0) = false := by simp [hB]
        have EG2 : Hid (x.grants m = false) := Lib.hid (by rw [EG.out, decide_eq_false hB]; simp)
        clear EG KB KV hA hB KVV KTT
        go_quiet ((go_at_call 28; exact KT.out _))
        go_wp2_with fail
        go_meet
        exact ⟨by rw [EG2.out], (Same.of _ _).below _⟩
    · have hAI : ((m.term : Int) == (x.s.c.term : Int)) = false := by simp; omega
      have EG2 : Hid (x.grants m = false) := Lib.hid (by rw [EG.out, decide_eq_false hA]; simp)
      clear EG KB KV hA KVV KTT
      go_quiet ((go_at_call 28; exact KT.out _))
      go_wp2_with fail
      go_meet
      exact ⟨by rw [EG2.out], (Same.of _ _).below _⟩
  case rest =>
    obtain ⟨rfl, hb2⟩ := hcut
    have hbc := hb0.trans (hb2.mono hb0.size)
    have hzc := (hb2.block w.heap.size (block_lt hz0)).trans hz0
    have hxc := h0.later hb2
    obtain ⟨wq, hwq⟩ : ∃ x : World, x = wc := ⟨_, rfl⟩
    subst hwq
    have EW : Hid (x.asked m = if x.grants m = true then (if (x.s.setTerm m.term m.src).2 = 0 then (x.voted (x.s.setTerm m.term m.src).1, [{ (x.voted (x.s.setTerm m.term m.src).1).mg 1 m.src with ok := true }]) else ({ x with s := (x.s.setTerm m.term m.src).1 }, [])) else (x, [{ x.mg 1 m.src with ok := false }])) := Lib.hid rfl
    obtain ⟨g, hg⟩ : ∃ g, x.grants m = g := ⟨_, rfl⟩
    rw [hg] at EW ⊢
    obtain ⟨d0, d1, d2, d3, d4, d5, d6, d7, d8, d9⟩ := cells10 hzc
    obtain ⟨c0, c1, c2, c3, c4, c5, c6⟩ := hxc.cells
    have HXC := Lib.hid hxc
    have HBC := Lib.hid hbc
    clear hW0 h h0 hb0 hz0 hb2 hg d0 d2 d4 d5 d6 d7 d8 d9 c0 c2 c3 c4 c6
    cases g
    · have EW2 : Hid (x.asked m = (x, [{ x.mg 1 m.src with ok := false }])) := Lib.hid (by rw [EW.out]; rfl)
      have K := Lib.hid (msg_prog hxc 1 m.src)
      unfold RN.mg mg0 mgL at K
      dsimp only at K
      have EI : Hid (mgL { x.mg 1 m.src with ok := false } (.slice none 0 0) = [.int .i64 1, .int .i64 (x.id : Int), .int .i64 m.src, .int .u64 (x.s.c.term : Int), .int .u64 0, .int .u64 0, .int .u64 0, .bool false, .slice none 0 0, .string ⟨#[]⟩]) := Lib.hid rfl
      clear EW hxc hbc hzc c1 c5 d3
      go_wp2_with fail
      refine K.out.mono ?_
      rintro e w3 ⟨rfl, hb3⟩
      have HB3 := Lib.hid (HBC.out.trans (hb3.mono HBC.out.size))
      have HX3 := Lib.hid (HXC.out.later hb3)
      clear hb3 K d1
      go_wp2_with fail
      go_ret
      have hb5 := fun o1 o2 => (HB3.out.alloc HB3.out.size o1).alloc (by simp; have := HB3.out.size; omega) o2
      rw [EW2.out]
      exact ⟨⟨_, rfl, MOwn.one (ev := .slice none 0 0) (by rw [EI.out]; exact alloc2 _ _ _) rfl (Nat.le_succ_of_le HB3.out.size) (EOwn.nil _ _)⟩, XO.of (HX3.out.later (((Below.refl _ _).alloc (Nat.le_refl _) _).alloc (by simp) _)) (XCh.ofBelow p (hb5 _ _))⟩
    · have KS := Lib.hid (hterm_prog (hxc.drewN 1).lw hf.s m.term m.src hmt)
      obtain ⟨⟨s2, r⟩, hr⟩ : ∃ S, x.s.setTerm m.term m.src = S := ⟨_, rfl⟩
      rw [hr] at KS EW
      dsimp only at KS EW
      simp only [if_true] at EW
      have HZC := Lib.hid hzc
      clear hr hbc hzc c5 hi hM hK hf hmt
      go_wp2_with fail
      go_region_held3 (fun X => X.cell? ⟨p.xb, 1, none⟩ = some (.pointer (some ⟨p.lb, 0, none⟩)) ∧ X.cell? ⟨w.heap.size, 1, none⟩ = some (.int .i64 m.src) ∧ X.cell? ⟨w.heap.size, 3, none⟩ = some (.int .u64 (m.term : Int)))
        (first | exact ⟨c1, d1, d3⟩ | exact hcs)
        ((go_at_call 119; refine KS.out.mono ?_; rintro e w5 ⟨rfl, ho5⟩; have hx5 := XO.get (XO.ofLog (HXC.out.drewN 1) ho5); obtain ⟨v5, dv5, hp5, hc5⟩ := hx5; have hzk := (hc5.kept HLO.out (Nat.le_refl _) (block_lt HZC.out)).trans (show (wq.drewN 1).heap[w.heap.size]? = _ from HZC.out); have hdd := cells10 hzk; have hcs : w5.cell? ⟨p.xb, 1, none⟩ = some (.pointer (some ⟨p.lb, 0, none⟩)) ∧ w5.cell? ⟨w.heap.size, 1, none⟩ = some (.int .i64 m.src) ∧ w5.cell? ⟨w.heap.size, 3, none⟩ = some (.int .u64 (m.term : Int)) := ⟨hp5.cells.2.1, hdd.2.1, hdd.2.2.2.1⟩))
      have HC5 := Lib.hid ((XCh.ofBelow p (HBC.out.trans ((Same.of wq 1).below _))).trans hc5)
      have HX5 := Lib.hid hp5
      have e1 := hdd.2.1
      by_cases hr0 : r = 0
      · subst hr0
        rw [if_pos rfl] at EW
        obtain ⟨b0, b1, b2, b3, b4, b5, b6⟩ := hp5.cells
        have z5 := hp5.free 5
        dsimp only at b5 z5
        have hx6 : XW (w5.setCell ⟨p.xb, 5, none⟩ (.int .i64 0)) { p with v := v5, dv := dv5 } (x.voted s2) := hp5.setPat0
        have hc6 := HC5.out.trans (XCh.setX { p with v := v5, dv := dv5 } w5 5 (.int .i64 0))
        have K := Lib.hid (msg_prog hx6 1 m.src)
        unfold RN.mg mg0 mgL at K
        dsimp only at K
        have EI : Hid (mgL { (x.voted s2).mg 1 m.src with ok := true } (.slice none 0 0) = [.int .i64 1, .int .i64 ((x.voted s2).id : Int), .int .i64 m.src, .int .u64 ((x.voted s2).s.c.term : Int), .int .u64 0, .int .u64 0, .int .u64 0, .bool true, .slice none 0 0, .string ⟨#[]⟩]) := Lib.hid rfl
        have HX6 := Lib.hid hx6
        have HC6 := Lib.hid hc6
        have hxg : w.heap.size ≠ p.xb := fun e => by have := HLO.out.xb; omega
        have e1' : (w5.setCell ⟨p.xb, 5, none⟩ (.int .i64 0)).cell? ⟨w.heap.size, 1, none⟩ = some (.int .i64 m.src) := cellO e1 hxg
        clear hx6 hc6 b0 b1 b2 b3 b4 b6 hp5 hc5 hcs hdd hzk ho5 KS d1 d3 c1
        go_wp2_with fail
        refine K.out.mono ?_
        rintro e w7 ⟨rfl, hb7⟩
        have HX7 := Lib.hid (HX6.out.later hb7)
        have HC7 := Lib.hid (HC6.out.trans (XCh.ofBelow { p with v := v5, dv := dv5 } hb7))
        clear hb7 K e1 e1'
        go_wp2_with fail
        go_ret
        rw [EW.out]
        exact ⟨⟨_, rfl, MOwn.one (ev := .slice none 0 0) (by rw [EI.out]; exact alloc2 _ _ _) rfl (Nat.le_succ_of_le HC7.out.size) (EOwn.nil _ _)⟩, XO.of (HX7.out.later (((Below.refl _ _).alloc (Nat.le_refl _) _).alloc (by simp) _)) (HC7.out.trans (XCh.ofBelow _ (((Below.refl _ _).alloc (Nat.le_refl _) _).alloc (by simp) _)))⟩
      · rw [if_neg hr0] at EW
        have hrI : (r != 0) = true := by simp [hr0]
        clear hp5 hc5 hcs hdd hzk ho5 KS d1 d3 c1 hr0 e1
        go_wp2_with fail
        go_ret
        rw [EW.out]
        exact ⟨⟨_, rfl, MOwn.nil _ _⟩, XO.of HX5.out HC5.out⟩
end
end Go.Proofs.YtflkdgghpmhbgaaGreat
namespace Go.Proofs.YtflkdgghpmhbgaaGreat
open Go.RowKit

/-- It has that one's vote. -/
def RN.got (x : RN) (d : Nat) : RN := { x with ps := x.ps.set d { x.ps.getD d ⟨false, 0, 0⟩ with v := true } }
def RN.counts (x : RN) (m : Mg) : Bool := decide (x.role = 1) && decide (m.term = x.s.c.term) && m.ok
def RN.chosen (x : RN) (m : Mg) (d : Nat) : RN × List Mg :=
  if x.counts m = true then (if (x.got d).elected = true then (x.got d).win else (x.got d, [])) else (x, [])
section
variable {w : World} {p : Pl} {x : RN} {M K : Nat}
theorem RN.In.got (h : x.In M K) (d : Nat) : (x.got d).In M K := by
  refine ⟨h.s, ?_, ?_, h.term, h.last, h.commit, h.pat, fun q hq => ?_⟩
  · show x.id < (List.set _ _ _).length; rw [List.length_set]; exact h.id
  · show (List.set _ _ _).length ≤ 9; rw [List.length_set]; exact h.n
  · by_cases hd : d < x.ps.length
    · rcases List.mem_or_eq_of_mem_set hq with hq | rfl
      · exact h.ps q hq
      · have hg : x.ps.getD d ⟨false, 0, 0⟩ ∈ x.ps := by rw [List.getD_eq_getElem?_getD, List.getElem?_eq_getElem hd]; exact List.getElem_mem hd
        have h2 := h.ps _ hg
        exact h2
    · have : (x.got d).ps = x.ps := by
        show x.ps.set d _ = x.ps
        exact List.set_eq_of_length_le (by omega)
      rw [this] at hq
      exact h.ps q hq
set_option maxHeartbeats 4000000 in
set_option maxRecDepth 100000 in
theorem chosen_prog (h : XW w p x) (hi : x.In M K) (hM : M ≤ 80000000) (hK : K ≤ 10000000000000000) (m : Mg) (ev : Value) (d : Nat) (hd : d < x.ps.length) (hsrc : m.src = (d : Int)) :
    Calls Tryz.prog 75 #[.pointer (some ⟨p.xb, 0, none⟩), .agg (mgL m ev).toArray] w fun e w' => (∃ v, e = .returned v ∧ MOwn w' w.heap.size v (x.chosen m d).2) ∧ XO p w (x.chosen m d).1 w' := by
  obtain ⟨W0, hW0⟩ : ∃ W0, W0 = w.alloc (.cells (mgL m ev).toArray 40) := ⟨_, rfl⟩
  have hb0 : Below w.heap.size w W0 := by rw [hW0]; exact (Below.refl _ _).alloc (Nat.le_refl _) _
  have hz0 : W0.heap[w.heap.size]? = some (.cells (mgL m ev).toArray 40 (0, 0)) := by rw [hW0]; exact heap_alloc_new _ _
  have h0 := h.later hb0
  have hf := hi.fit (M := M) (K := K) (by omega) (by omega)
  unfold mgL at hW0 hz0 ⊢
  obtain ⟨d0, d1, d2, d3, d4, d5, d6, d7, d8, d9⟩ := cells10 hz0
  obtain ⟨c0, c1, c2, c3, c4, c5, c6⟩ := h0.cells
  rw [hsrc] at d1
  have KT := Lib.hid (xterm_q h0)
  have EW : Hid (x.chosen m d = if x.counts m = true then (if (x.got d).elected = true then (x.got d).win else (x.got d, [])) else (x, [])) := Lib.hid rfl
  have EC : Hid (x.counts m = (decide (x.role = 1) && decide (m.term = x.s.c.term) && m.ok)) := Lib.hid rfl
  have hq : x.ps[d]? = some (x.ps.getD d ⟨false, 0, 0⟩) := by rw [List.getD_eq_getElem?_getD, List.getElem?_eq_getElem hd]; rfl
  obtain ⟨q0, _, _⟩ := h0.peer hq
  have z0 := h0.nfree (d * 3)
  have HG : Hid (∀ k, XW ((W0.drewN k).setCell ⟨p.nb, d * 3, none⟩ (.bool true)) p (x.got d)) := Lib.hid (fun k => (h0.drewN k).setV hq true)
  have HIG := Lib.hid (hi.got d)
  have HX0 := Lib.hid h0
  have HB0 := Lib.hid hb0
  have HMK := Lib.hid (And.intro hM hK)
  have hdI : (d : Int) < (x.ps.length : Int) := by omega
  have hd0 : (0 : Int) ≤ (d : Int) := by omega
  have hn := hi.n
  have hnI : (x.ps.length : Int) ≤ 9 := by omega
  obtain ⟨n, hnn⟩ : ∃ n, x.ps.length = n := ⟨_, rfl⟩
  rw [hnn] at c6 hdI hnI
  have hW0' := Lib.hid hW0
  clear h h0 hi hM hK hb0 hz0 hf c0 c3 c4 c5 d0 d2 d4 d5 d6 d8 d9 hd hsrc hq hn hnn
  have fin : ∀ k, XO p w x (W0.drewN k) := fun k => XO.of (HX0.out.drewN k) ((XCh.ofBelow p HB0.out).trans (XCh.ofBelow p ((Same.of W0 k).below _)))
  have HFIN := Lib.hid fin
  clear fin
  by_cases hA : x.role = 1
  · have hAI : (x.role != 1) = false := by simp [hA]
    by_cases hB : m.term = x.s.c.term
    · have hBI : ((m.term : Int) != (x.s.c.term : Int)) = false := by simp [hB]
      rw [decide_eq_true hA, decide_eq_true hB] at EC
      obtain ⟨ok, hok⟩ : ∃ ok, m.ok = ok := ⟨_, rfl⟩
      rw [hok] at d7 EC
      have EC2 : Hid (x.counts m = ok) := Lib.hid (by rw [EC.out]; simp)
      rw [EC2.out] at EW
      clear EC hA hB hok
      cases ok
      · have EW2 : Hid (x.chosen m d = (x, [])) := Lib.hid (by rw [EW.out]; rfl)
        clear EW HG
        go_enter Tryz.func75, Tryz.ntmps75
        go_wp2_with fail
        simp only [← hW0]
        clear hW0
        go_quiet ((go_at_call 28; exact KT.out _))
        go_wp2_with fail
        go_ret
        rw [EW2.out]
        exact ⟨⟨_, rfl, MOwn.nil _ _⟩, HFIN.out _⟩
      · have EW2 : Hid (x.chosen m d = if (x.got d).elected = true then (x.got d).win else (x.got d, [])) := Lib.hid (by rw [EW.out]; rfl)
        clear EW HFIN
        go_enter Tryz.func75, Tryz.ntmps75
        go_wp2_with fail
        simp only [← hW0]
        clear hW0
        go_quiet ((go_at_call 28; exact KT.out _))
        go_wp2_with fail
        go_region
        have hx8 := HG.out (nq + 1)
        have hc8 := ((XCh.ofBelow p HB0.out).trans (XCh.ofBelow p ((Same.of W0 (nq + 1)).below _))).trans (XCh.setP p (W0.drewN (nq + 1)) (d * 3) (.bool true))
        obtain ⟨W8, hW8⟩ : ∃ W8, W8 = (W0.drewN (nq + 1)).setCell ⟨p.nb, d * 3, none⟩ (.bool true) := ⟨_, rfl⟩
        rw [← hW8] at hx8 hc8 ⊢
        have KE := Lib.hid (elected_prog hx8 HIG.out.n)
        have KW := Lib.hid (fun W (hW : XW W p (x.got d)) => win_prog hW HIG.out (by have := HMK.out; omega) (by have := HMK.out; omega))
        have HX8 := Lib.hid hx8
        have HC8 := Lib.hid hc8
        clear hx8 hc8 hW8 d1 d3 d7 c1 c2 c6 q0 z0 HG KT
        obtain ⟨xc, hxc⟩ : ∃ xc, x.got d = xc := ⟨_, rfl⟩
        rw [hxc] at KE KW HX8 EW2
        obtain ⟨el, hel⟩ : ∃ el, xc.elected = el := ⟨_, rfl⟩
        rw [hel] at KE EW2
        clear hxc hel
        go_wp2_with fail
        refine KE.out.mono ?_
        rintro e w9 ⟨rfl, hb9⟩
        have HX9 := Lib.hid (HX8.out.later hb9)
        have HC9 := Lib.hid (HC8.out.trans (XCh.ofBelow p hb9))
        clear hb9 KE
        cases el
        · have EW3 : Hid (x.chosen m d = (xc, [])) := Lib.hid (by rw [EW2.out]; rfl)
          clear EW2 KW
          go_wp2_with fail
          go_ret
          rw [EW3.out]
          exact ⟨⟨_, rfl, MOwn.nil _ _⟩, XO.of HX9.out HC9.out⟩
        · have EW3 : Hid (x.chosen m d = xc.win) := Lib.hid (by rw [EW2.out]; rfl)
          have K2 := Lib.hid (KW.out _ HX9.out)
          clear EW2 KW
          go_wp2_with fail
          refine K2.out.mono ?_
          rintro e w10 ⟨⟨v, rfl, hv⟩, ho10⟩
          have HV := Lib.hid (hv.base HC9.out.size)
          have HO10 := Lib.hid (XO.trans HC9.out ho10)
          clear hv ho10 K2
          go_wp2_with fail
          go_ret
          rw [EW3.out]
          exact ⟨⟨_, rfl, HV.out⟩, HO10.out⟩
    · have hBI : ((m.term : Int) != (x.s.c.term : Int)) = true := by simp; omega
      have EW2 : Hid (x.chosen m d = (x, [])) := Lib.hid (by rw [EW.out, EC.out, decide_eq_false hB]; simp)
      clear EW HG EC hA hB
      go_enter Tryz.func75, Tryz.ntmps75
      go_wp2_with fail
      simp only [← hW0]
      clear hW0
      go_quiet ((go_at_call 28; exact KT.out _))
      go_wp2_with fail
      go_ret
      rw [EW2.out]
      exact ⟨⟨_, rfl, MOwn.nil _ _⟩, HFIN.out _⟩
  · have hAI : (x.role != 1) = true := by simp [hA]
    have EW2 : Hid (x.chosen m d = (x, [])) := Lib.hid (by rw [EW.out, EC.out, decide_eq_false hA]; simp)
    clear EW HG EC hA
    go_enter Tryz.func75, Tryz.ntmps75
    go_wp2_with fail
    simp only [← hW0]
    clear hW0
    go_quiet (fail)
    go_wp2_with fail
    go_ret
    rw [EW2.out]
    exact ⟨⟨_, rfl, MOwn.nil _ _⟩, HFIN.out _⟩
end
end Go.Proofs.YtflkdgghpmhbgaaGreat
namespace Go.Proofs.YtflkdgghpmhbgaaGreat
open Go.RowKit

theorem setCell_id {w : World} {b o : Nat} {v : Value} (h : w.cell? ⟨b, o, none⟩ = some v) : w.setCell ⟨b, o, none⟩ v = w := by
  have hh : (w.setCell ⟨b, o, none⟩ v).heap = w.heap := by
    apply Array.ext_getElem?
    intro j
    simp only [World.setCell, Array.getElem?_modify]
    split
    · rename_i e
      subst e
      unfold World.cell? at h
      cases hb : w.heap[b]? with
      | none => rfl
      | some ob =>
        rw [hb] at h
        cases ob with
        | cells c e f =>
          simp only [Option.isSome_none, Bool.false_eq_true, if_false] at h
          simp only [Option.map_some, Option.isSome_none, Bool.false_eq_true, if_false]
          congr 2
          apply Array.ext_getElem?
          intro k
          rw [Array.getElem?_setIfInBounds]
          split
          · rename_i e2
            rw [← e2, h]
            split <;> simp_all
          · rfl
        | _ => simp at h
    · rfl
  cases w
  simp only [World.setCell] at hh ⊢
  simp only [hh]
/-- The log knows whether its disk is down. -/
def LgS.Knows (s : LgS) : Prop := s.d.dn = true → s.dn = true
theorem LgS.Knows.or {s : LgS} (h : s.Knows) : (s.dn || s.d.dn) = s.dn := by
  unfold LgS.Knows at h
  cases h1 : s.dn <;> cases h2 : s.d.dn <;> simp_all
theorem LgS.Knows.down {s : LgS} (h : s.Knows) : s.down = s := by
  unfold LgS.down
  rw [h.or]
section
variable {w : World} {p : Pl} {x : RN}
set_option maxRecDepth 100000 in
theorem ldown_q (h : XW w p x) (hk : x.s.Knows) : Calls Tryz.prog 60 #[.pointer (some ⟨p.lb, 0, none⟩)] w fun e w' => e = .returned (.bool x.s.dn) ∧ w' = w := by
  obtain ⟨m6, m7, m8⟩ := h.lw.log.more
  have z7 := CtAt.free h.lw.log 7
  have K := Lib.hid (down_prog h.lw.disk)
  have HS := Lib.hid (setCell_id m7)
  have HK := Lib.hid hk
  unfold LgS.Knows at hk
  obtain ⟨a, ha⟩ : ∃ a, x.s.dn = a := ⟨_, rfl⟩
  obtain ⟨b, hb⟩ : ∃ b, x.s.d.dn = b := ⟨_, rfl⟩
  rw [ha] at m7 HS hk ⊢
  rw [hb] at K hk
  clear h m8 ha hb HK
  cases a
  · cases b
    · clear hk
      go_enter Tryz.func60, Tryz.ntmps60
      go_wp2_with fail
      refine K.out.mono ?_
      rintro e w1 ⟨rfl, rfl⟩
      go_wp2_with fail
      go_ret
      exact ⟨rfl, HS.out⟩
    · simp at hk
  · clear hk
    go_enter Tryz.func60, Tryz.ntmps60
    go_wp2_with fail
    go_ret
    exact ⟨rfl, HS.out⟩
set_option maxRecDepth 100000 in
theorem xdown_q (h : XW w p x) (hk : x.s.Knows) : Calls Tryz.prog 26 #[.pointer (some ⟨p.xb, 0, none⟩)] w fun e w' => e = .returned (.bool x.s.dn) ∧ w' = w := by
  obtain ⟨m0, m1, m2, m3, m4, m5, m6⟩ := h.cells
  have K := Lib.hid (ldown_q h hk)
  clear h m0 m2 m3 m4 m5 m6
  go_enter Tryz.func26, Tryz.ntmps26
  go_wp2_with fail
  refine K.out.mono ?_
  rintro e w1 ⟨rfl, rfl⟩
  go_wp2_with fail
  go_ret
  exact ⟨rfl, rfl⟩
theorem RN.down_id {x : RN} (hk : x.s.Knows) : x.down = x := by unfold RN.down; rw [hk.down]
end
end Go.Proofs.YtflkdgghpmhbgaaGreat
