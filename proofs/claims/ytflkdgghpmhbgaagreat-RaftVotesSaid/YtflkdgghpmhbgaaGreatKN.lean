/- raft: led. -/
import Derived.Test.YtflkdgghpmhbgaaGreatKM
namespace Go.Proofs.YtflkdgghpmhbgaaGreat
open Go.RowKit

section
variable {w : World} {p : Pl} {x : RN} {M K : Nat}
theorem RN.In.install (h : x.In M K) (m : Mg) (hi : m.index ≤ K) (hl : m.lterm ≤ K) (hs : m.state.size ≤ 1000000) (hK : K ≤ 1000000000000000000) : (x.install m).1.In (M + m.state.size) K := by
  have h1 := h.s.install m.index m.lterm m.state (by unfold m64; omega) (by unfold m64; omega) (by unfold m64; omega)
  have ht : (x.s.install m.index m.lterm m.state).1.c.term = x.s.c.term := by
    rcases LgS.install_c x.s m.index m.lterm m.state with e | e <;> rw [e]
    rfl
  have hla : (x.s.install m.index m.lterm m.state).1.c.base + (x.s.install m.index m.lterm m.state).1.c.ents.length ≤ K := by
    rcases LgS.install_c x.s m.index m.lterm m.state with e | e <;> rw [e]
    · exact h.last
    · have := rebase_last x.s.c m.index m.lterm m.state
      have := h.last
      omega
  unfold RN.install
  split
  · split
    · exact ⟨h1, h.id, h.n, by show (x.s.install _ _ _).1.c.term ≤ K; rw [ht]; exact h.term, hla, hi, h.pat, h.ps⟩
    · exact ⟨h1, h.id, h.n, by show (x.s.install _ _ _).1.c.term ≤ K; rw [ht]; exact h.term, hla, h.commit, h.pat, h.ps⟩
  · exact h.mono (by omega) (Nat.le_refl _)
set_option maxHeartbeats 4000000 in
set_option maxRecDepth 100000 in
theorem install_prog (h : XW w p x) (hf : x.Fit) (m : Mg) (ev : Value) (hi : m.index < m64) (hl : m.lterm < m64) (hst : m.state.size ≤ 100000000) :
    Calls Tryz.prog 127 #[.pointer (some ⟨p.xb, 0, none⟩), .agg (mgL m ev).toArray] w fun e w' => (∃ v, e = .returned v ∧ MOwn w' w.heap.size v (x.install m).2) ∧ XO p w (x.install m).1 w' := by
  obtain ⟨W0, hW0⟩ : ∃ W0, W0 = w.alloc (.cells (mgL m ev).toArray 40) := ⟨_, rfl⟩
  have hb0 : Below w.heap.size w W0 := by rw [hW0]; exact (Below.refl _ _).alloc (Nat.le_refl _) _
  have hz0 : W0.heap[w.heap.size]? = some (.cells (mgL m ev).toArray 40 (0, 0)) := by rw [hW0]; exact heap_alloc_new _ _
  have h0 := h.later hb0
  have HLO := Lib.hid h.low
  unfold mgL at hW0 hz0 ⊢
  obtain ⟨d0, d1, d2, d3, d4, d5, d6, d7, d8, d9⟩ := cells10 hz0
  obtain ⟨c0, c1, c2, c3, c4, c5, c6⟩ := h0.cells
  have HZ0 := Lib.hid hz0
  have HX0 := Lib.hid h0
  have HB0 := Lib.hid hb0
  have EW : Hid (x.install m = if x.commit < m.index then
    (if (x.s.install m.index m.lterm m.state).2 = 0 then ({ x with s := (x.s.install m.index m.lterm m.state).1, commit := m.index }, [({ x with s := (x.s.install m.index m.lterm m.state).1, commit := m.index } : RN).ans m.src true m.index])
      else ({ x with s := (x.s.install m.index m.lterm m.state).1 }, []))
  else (x, [x.ans m.src true x.commit])) := Lib.hid rfl
  have KI := Lib.hid (fun q => hinstall_prog (h0.drewN q).lw hf.s m.index m.lterm m.state hi hl hst)
  obtain ⟨⟨s2, r⟩, hr⟩ : ∃ S, x.s.install m.index m.lterm m.state = S := ⟨_, rfl⟩
  rw [hr] at EW KI
  dsimp only at EW KI
  clear h h0 hf hb0 hz0 c0 c2 c3 c5 c6 d0 d2 d3 d6 d7 d8 hi hl hst hr
  by_cases hc : x.commit < m.index
  · have hcI : decide (x.commit < m.index) = true := decide_eq_true hc
    rw [if_pos hc] at EW
    clear hc
    go_enter Tryz.func127, Tryz.ntmps127
    go_wp2_with fail
    simp only [← hW0]
    clear hW0
    go_quiet (fail)
    go_wp2_with fail
    go_region_held3 (fun X => X.cell? ⟨p.xb, 1, none⟩ = some (.pointer (some ⟨p.lb, 0, none⟩)) ∧ X.cell? ⟨w.heap.size, 4, none⟩ = some (.int .u64 (m.index : Int)) ∧ X.cell? ⟨w.heap.size, 5, none⟩ = some (.int .u64 (m.lterm : Int)) ∧ X.cell? ⟨w.heap.size, 9, none⟩ = some (.string m.state))
      (first | exact ⟨c1, d4, d5, d9⟩ | exact hcs)
      ((go_at_call 155; refine (KI.out _).mono ?_; rintro e w5 ⟨rfl, ho5⟩; have hx5 := XO.get (XO.ofLog (HX0.out.drewN _) ho5); obtain ⟨v5, dv5, hp5, hc5⟩ := hx5; have hzk := (hc5.kept HLO.out (Nat.le_refl _) (block_lt HZ0.out)).trans (show (World.drewN W0 _).heap[w.heap.size]? = _ from HZ0.out); have hdd := cells10 hzk; have hcs : w5.cell? ⟨p.xb, 1, none⟩ = some (.pointer (some ⟨p.lb, 0, none⟩)) ∧ w5.cell? ⟨w.heap.size, 4, none⟩ = some (.int .u64 (m.index : Int)) ∧ w5.cell? ⟨w.heap.size, 5, none⟩ = some (.int .u64 (m.lterm : Int)) ∧ w5.cell? ⟨w.heap.size, 9, none⟩ = some (.string m.state) := ⟨hp5.cells.2.1, hdd.2.2.2.2.1, hdd.2.2.2.2.2.1, hdd.2.2.2.2.2.2.2.2.2⟩))
    have HC5 := Lib.hid ((XCh.ofBelow p (HB0.out.trans ((Same.of W0 _).below _))).trans hc5)
    have HX5 := Lib.hid hp5
    have e1 := hdd.2.1
    have e4 := hdd.2.2.2.2.1
    by_cases hr0 : r = 0
    · subst hr0
      rw [if_pos rfl] at EW
      obtain ⟨_, _, _, _, b4, _, _⟩ := hp5.cells
      have z4 := hp5.free 4
      dsimp only at b4 z4
      have hx6 : XW (w5.setCell ⟨p.xb, 4, none⟩ (.int .u64 (m.index : Int))) { p with v := v5, dv := dv5 } { x with s := s2, commit := m.index } := hp5.setCommit m.index
      have HC6 := Lib.hid (HC5.out.trans (XCh.setX { p with v := v5, dv := dv5 } w5 4 (.int .u64 (m.index : Int))))
      have hxg : w.heap.size ≠ p.xb := fun e => by have := HLO.out.xb; omega
      have e1' : (w5.setCell ⟨p.xb, 4, none⟩ (.int .u64 (m.index : Int))).cell? ⟨w.heap.size, 1, none⟩ = some (.int .i64 m.src) := cellO e1 hxg
      have b4' := hx6.cells.2.2.2.2.1
      dsimp only at b4'
      obtain ⟨W6, hW6⟩ : ∃ W6, W6 = w5.setCell ⟨p.xb, 4, none⟩ (.int .u64 (m.index : Int)) := ⟨_, rfl⟩
      have HX6 : Hid (XW W6 { p with v := v5, dv := dv5 } { x with s := s2, commit := m.index }) := Lib.hid (by rw [hW6]; exact hx6)
      have KA := Lib.hid (fun q => answer_prog (HX6.out.drewN q) m.src true m.index)
      rw [← hW6] at e1' b4' HC6
      clear hx6 hp5 hc5 hdd hzk ho5 KI hcs d1 d4 d5 d9 c1 c4 e1
      go_wp2_with fail
      simp only [← hW6]
      clear hW6 b4 z4 e4
      go_region_held3 (fun X => X.cell? ⟨p.xb, 4, none⟩ = some (.int .u64 (m.index : Int)) ∧ X.cell? ⟨w.heap.size, 1, none⟩ = some (.int .i64 m.src))
        (first | exact ⟨b4', e1'⟩ | exact hcs7)
        ((go_at_call 126; refine (KA.out 1).mono ?_; rintro e w7 ⟨v7, rfl, hv7, hb7⟩; have hcs7 := And.intro (cellB (w := World.drewN _ _) hb7 b4') (cellB (w := World.drewN _ _) hb7 e1')))
      have HV7 := Lib.hid (hv7.base (B' := w.heap.size) HC6.out.size)
      have HX7 := Lib.hid ((HX6.out.drewN 1).later hb7)
      have HC7 := Lib.hid ((HC6.out.trans (XCh.ofBelow _ ((Same.of W6 1).below _))).trans (XCh.ofBelow _ hb7))
      clear hv7 hb7 hcs7 KA
      go_wp2_with fail
      go_ret
      rw [EW.out]
      exact ⟨⟨_, rfl, HV7.out⟩, XO.of HX7.out HC7.out⟩
    · rw [if_neg hr0] at EW
      have hrI : (r != 0) = true := by simp [hr0]
      clear hp5 hc5 hdd hzk ho5 KI hcs d1 d4 d5 d9 c1 c4 e1 e4 hr0
      go_wp2_with fail
      go_ret
      rw [EW.out]
      exact ⟨⟨_, rfl, MOwn.nil _ _⟩, XO.of HX5.out HC5.out⟩
  · have hcI : decide (x.commit < m.index) = false := decide_eq_false hc
    rw [if_neg hc] at EW
    clear hc KI
    have KA := Lib.hid (fun q => answer_prog (HX0.out.drewN q) m.src true x.commit)
    go_enter Tryz.func127, Tryz.ntmps127
    go_wp2_with fail
    simp only [← hW0]
    clear hW0
    go_quiet (fail)
    go_wp2_with fail
    go_region_held3 (fun X => X.cell? ⟨p.xb, 4, none⟩ = some (.int .u64 (x.commit : Int)) ∧ X.cell? ⟨w.heap.size, 1, none⟩ = some (.int .i64 m.src))
      (first | exact ⟨c4, d1⟩ | exact hcs7)
      ((go_at_call 126; refine (KA.out _).mono ?_; rintro e w7 ⟨v7, rfl, hv7, hb7⟩; have hcs7 := And.intro (cellB (w := World.drewN _ _) hb7 c4) (cellB (w := World.drewN _ _) hb7 d1)))
    have HV7 := Lib.hid (hv7.base (B' := w.heap.size) HB0.out.size)
    have HX7 := Lib.hid ((HX0.out.drewN _).later hb7)
    have HC7 := Lib.hid ((XCh.ofBelow p (HB0.out.trans ((Same.of W0 _).below _))).trans (XCh.ofBelow p hb7))
    clear hv7 hb7 hcs7 KA
    go_wp2_with fail
    go_ret
    rw [EW.out]
    exact ⟨⟨_, rfl, HV7.out⟩, XO.of HX7.out HC7.out⟩
end
end Go.Proofs.YtflkdgghpmhbgaaGreat
namespace Go.Proofs.YtflkdgghpmhbgaaGreat
open Go.RowKit

theorem slice_fromI (a : Option Addr) (n cp l : Nat) (h : l ≤ n) (W : World) : (Instr.slice 38 (.slice a n cp) (some (.int .i64 (l : Int))) none none).run Tryz.prog W =
    .ok (.slice (if cp = l then a else a.map (·.add (l * 2))) (n - l) (cp - l)) W := by
  simp [Instr.slice, Instr.sliceBounds, Instr.sliceBound, asIntOf, run_underlying Tryz.underlying38, h]
theorem apart_drop {lb n cp k : Nat} {v : Value} {a : Option Addr} (h : Apart lb v (.slice a n cp)) : Apart lb v (.slice (if cp = k then a else a.map (·.add (k * 2))) (n - k) (cp - k)) := fun j hj => by
  refine h j ?_
  cases a with
  | none => split at hj <;> simp [Value.ownBlock] at hj
  | some ad =>
    split at hj
    · exact hj
    · simp only [Option.map_some, Value.ownBlock] at hj ⊢
      rw [← hj]
      unfold Addr.add
      split <;> rfl
section
variable {w : World} {p : Pl} {x : RN} {M K : Nat}
theorem ents_drop_len (E : List Ent) (k : Nat) : (entsL (E.drop k)).length ≤ (entsL E).length := entsL_drop E k
set_option maxHeartbeats 8000000 in
set_option maxRecDepth 100000 in
theorem keep_prog (h : XW w p x) (hf : x.Fit) (b : Nat) (a : Option Addr) (cp : Nat) (E : List Ent) (hsl : ESl w (.slice a E.length cp) E) (hE : EntsOk E) (hel : (entsL E).length ≤ 90000000) (hb : b ≤ 1000000000000000000) (hap : E ≠ [] → Apart p.lb p.v (.slice a E.length cp)) :
    Calls Tryz.prog 156 #[.pointer (some ⟨p.xb, 0, none⟩), .int .u64 (b : Int), .slice a E.length cp] w fun e w' => e = .returned (.bool (x.keep b E).2) ∧ XO p w (x.keep b E).1 w' := by
  have hEn := entsL_len E
  have H := Lib.hid h
  have HF := Lib.hid hf
  have HSL := Lib.hid hsl
  have HE := Lib.hid hE
  have HEL := Lib.hid hel
  have HAP := Lib.hid hap
  obtain ⟨R, hR⟩ : ∃ R, x.keep b E = R := ⟨_, rfl⟩
  have HR0 : Hid (x.keep (b + 0) (E.drop 0) = R) := Lib.hid hR
  rw [hR]
  obtain ⟨n, hn⟩ : ∃ n, E.length = n := ⟨_, rfl⟩
  rw [hn] at HSL HAP ⊢
  have HN := Lib.hid hn
  have hnI : (n : Int) ≤ 90000000 := by omega
  have hn0 : (0 : Int) ≤ (n : Int) := by omega
  have HB := Lib.hid hb
  clear h hf hsl hE hel hap hR hn hEn hb
  go_enter Tryz.func156, Tryz.ntmps156
  go_wp2_with fail
  go_loopw [14] (fun i wr => ∃ k : Nat, k ≤ n ∧ i = .int .i64 (k : Int) ∧ Hid (x.keep (b + k) (E.drop k) = R) ∧ Hid (Below w.heap.size w wr)) (fun i _ => n - (intOf i).toNat)
  case atStart => exact ⟨0, by omega, rfl, HR0, Lib.hid (Below.refl _ _)⟩
  case round =>
    obtain ⟨k, hk, rfl, HK, HBL⟩ := hrel
    by_cases hlt : k < n
    · have hkI : (k : Int) < (n : Int) := by omega
      have hk0 : (0 : Int) ≤ (k : Int) := by omega
      have hr := H.out.later HBL.out
      obtain ⟨⟨t, s⟩, hx⟩ : ∃ y, E[k]? = some y := ⟨_, List.getElem?_eq_getElem (by rw [HN.out]; exact hlt)⟩
      obtain ⟨a', c', he, _, hcells⟩ := HSL.out
      obtain ⟨g, o, ha, hg, hcs⟩ := hcells (fun e => by rw [e] at hx; simp at hx)
      injection he with he1 he2 he3
      have hag : a = some ⟨g, o, none⟩ := he1.trans ha
      subst hag
      obtain ⟨d0, d1⟩ := hcs k _ hx
      have d0 := cellB HBL.out d0
      have d1 := cellB HBL.out d1
      have hdr : E.drop k = (t, s) :: E.drop (k + 1) := by
        rw [List.drop_eq_getElem_cons (by rw [HN.out]; exact hlt), (List.getElem?_eq_some_iff.1 hx).2]
      have hj0 : b + k + 1 < m64 := by have := HB.out; unfold m64; omega
      obtain ⟨j, hj⟩ : ∃ j, j = b + k + 1 := ⟨_, rfl⟩
      have hw1 : IntKind.u64.wrap (k : Int) = (k : Int) := u64_nat' k (by omega)
      obtain ⟨j1, hj1⟩ : ∃ j1, j1 = b + k := ⟨_, rfl⟩
      have hw2 : IntKind.u64.wrap ((b : Int) + (k : Int)) = (j1 : Int) := by rw [show (b : Int) + (k : Int) = (j1 : Int) by omega]; exact u64_nat' _ (by unfold m64 at hj0; omega)
      have hw3 : IntKind.u64.wrap ((j1 : Int) + 1) = (j : Int) := by rw [show (j1 : Int) + 1 = (j : Int) by omega]; exact u64_nat' _ (by unfold m64 at hj0; omega)
      have hw4 : IntKind.u64.wrap ((j : Int) - 1) = (j1 : Int) := by rw [show (j : Int) - 1 = (j1 : Int) by omega]; exact u64_nat' _ (by unfold m64 at hj0; omega)
      have EK : Hid (R = if x.s.c.termAt j = some t then x.keep j (E.drop (k + 1)) else if (x.s.c.termAt j).isSome = true ∧ j ≤ x.commit then (x, false) else ({ x with s := (x.s.add j1 (E.drop k)).1 }, decide ((x.s.add j1 (E.drop k)).2 = 0))) := Lib.hid (by
        rw [← HK.out, hdr, hj, hj1]; rfl)
      have KT := Lib.hid (fun W (hW : XW W p x) => xtermAt_prog j hW HF.out)
      have KA := Lib.hid (fun W (sv : Value) (hW : XW W p x) (hs : ESl W sv (E.drop k)) (ha : Apart p.lb p.v sv) => hadd_prog hW.lw HF.out.s j1 sv (E.drop k) hs (fun _ => ha) (fun y hy => HE.out y (List.mem_of_mem_drop hy)) (by omega) (Nat.le_trans (ents_drop_len E k) HEL.out))
      have HJ := Lib.hid (show j = b + (k + 1) by omega)
      have HHR := Lib.hid hr
      obtain ⟨_, c1, _, _, c4, _, _⟩ := hr.cells
      have hxl := hr.xlt
      obtain ⟨ot, hot⟩ : ∃ ot, x.s.c.termAt j = ot := ⟨_, rfl⟩
      rw [hot] at KT EK
      clear hr hx he1 he2 he3 ha hcs hcells hdr hj0 hj hj1 hot
      simp only [numV_getD] at KT
      obtain ⟨W1, hW1⟩ : ∃ W1, W1 = wr.alloc (.cells #[.int .u64 (t : Int), .string s] 70) := ⟨_, rfl⟩
      have hb1 : Below wr.heap.size wr W1 := by rw [hW1]; exact (Below.refl _ _).alloc (Nat.le_refl _) _
      have hz1 : W1.heap[wr.heap.size]? = some (.cells #[.int .u64 (t : Int), .string s] 70 (0, 0)) := by rw [hW1]; exact heap_alloc_new _ _
      have KT1 := Lib.hid (KT.out W1 (HHR.out.later hb1))
      go_wp2_with fail
      simp only [← hW1]
      clear hW1
      refine KT1.out.mono ?_
      rintro e w5 ⟨rfl, hb5⟩
      have hz5 := (hb5.block wr.heap.size (block_lt hz1)).trans hz1
      have t0 : w5.cell? ⟨wr.heap.size, 0, none⟩ = some (.int .u64 (t : Int)) := by simp [World.cell?, hz5]
      have hb05 := hb1.trans (hb5.mono hb1.size)
      have hx5 := HHR.out.later hb05
      have HX5 := Lib.hid hx5
      have HB5 := Lib.hid (HBL.out.trans (hb05.mono HBL.out.size))
      have c5 := cellB hb05 c4
      have c15 := cellB hb05 c1
      clear hb1 hz1 hb5 hz5 hb05 hx5 KT KT1 d0 d1 c1 c4
      cases ot with
      | none =>
        have EK2 : Hid (R = ({ x with s := (x.s.add j1 (E.drop k)).1 }, decide ((x.s.add j1 (E.drop k)).2 = 0))) := Lib.hid (by rw [EK.out]; rfl)
        clear EK
        obtain ⟨ad, had⟩ : ∃ ad, (if cp = k then some (⟨g, o, none⟩ : Addr) else (some (⟨g, o, none⟩ : Addr)).map (·.add (k * 2))) = ad := ⟨_, rfl⟩
        have hsl := fun W => slice_fromI (some ⟨g, o, none⟩) n cp k (by omega) W
        have hds := (HSL.out.later HB5.out).drop k (by omega)
        have hda := apart_drop (k := k) (HAP.out (fun e => by have := HN.out; rw [e] at this; simp at this; omega))
        simp only [had] at hsl hds hda
        have KA2 := Lib.hid (KA.out (w5.drewN 1) _ (HX5.out.drewN 1) (hds.later ((Same.of w5 1).below _)) hda)
        obtain ⟨⟨s2, r⟩, hr⟩ : ∃ S, x.s.add j1 (E.drop k) = S := ⟨_, rfl⟩
        rw [hr] at KA2 EK2
        dsimp only at KA2 EK2
        clear KA hds hda had hr
        go_wp2_with fail
        go_region_held3 (fun X => X.cell? ⟨p.xb, 1, none⟩ = some (.pointer (some ⟨p.lb, 0, none⟩)))
          (first | exact c15 | exact hcs)
          ((go_at_call 129; refine KA2.out.mono ?_; rintro e w7 ⟨rfl, ho7⟩; have hx7 := XO.get (XO.ofLog (HX5.out.drewN 1) ho7); obtain ⟨v7, dv7, hp7, hc7⟩ := hx7; have hcs : w7.cell? ⟨p.xb, 1, none⟩ = some (.pointer (some ⟨p.lb, 0, none⟩)) := hp7.cells.2.1))
        have HP7 := Lib.hid hp7
        have HC7 := Lib.hid ((XCh.ofBelow p (HB5.out.trans ((Same.of w5 1).below _))).trans hc7)
        clear hp7 hc7 ho7 hcs KA2
        go_wp2_with fail
        go_ret
        rw [EK2.out]
        exact ⟨by rfl, XO.of HP7.out HC7.out⟩
      | some tt =>
        by_cases htt : tt = t
        · subst htt
          have EK2 : Hid (x.keep (b + (k + 1)) (E.drop (k + 1)) = R) := Lib.hid (by rw [EK.out, if_pos rfl, HJ.out])
          clear EK
          go_wp2_with fail
          go_roundw
          case rel => exact ⟨k + 1, by omega, by go_num, EK2, HB5⟩
          case measure => simp [intOf]; omega
        · have hti : ((tt : Int) == (t : Int)) = false := by simp; omega
          by_cases hjc : j ≤ x.commit
          · have EK2 : Hid (R = (x, false)) := Lib.hid (by rw [EK.out, if_neg (fun e => htt (by injection e)), if_pos ⟨rfl, hjc⟩])
            have hjI : decide (j ≤ x.commit) = true := decide_eq_true hjc
            clear EK htt hjc
            go_wp2_with fail
            go_ret
            rw [EK2.out]
            exact ⟨rfl, XO.of HX5.out (XCh.ofBelow p HB5.out)⟩
          · have EK2 : Hid (R = ({ x with s := (x.s.add j1 (E.drop k)).1 }, decide ((x.s.add j1 (E.drop k)).2 = 0))) := Lib.hid (by rw [EK.out, if_neg (fun e => htt (by injection e)), if_neg (fun e => hjc e.2)])
            have hjI : decide (j ≤ x.commit) = false := decide_eq_false hjc
            clear EK htt hjc
            obtain ⟨ad, had⟩ : ∃ ad, (if cp = k then some (⟨g, o, none⟩ : Addr) else (some (⟨g, o, none⟩ : Addr)).map (·.add (k * 2))) = ad := ⟨_, rfl⟩
            have hsl := fun W => slice_fromI (some ⟨g, o, none⟩) n cp k (by omega) W
            have hds := (HSL.out.later HB5.out).drop k (by omega)
            have hda := apart_drop (k := k) (HAP.out (fun e => by have := HN.out; rw [e] at this; simp at this; omega))
            simp only [had] at hsl hds hda
            have KA2 := Lib.hid (KA.out (w5.drewN 1) _ (HX5.out.drewN 1) (hds.later ((Same.of w5 1).below _)) hda)
            obtain ⟨⟨s2, r⟩, hr⟩ : ∃ S, x.s.add j1 (E.drop k) = S := ⟨_, rfl⟩
            rw [hr] at KA2 EK2
            dsimp only at KA2 EK2
            clear KA hds hda had hr
            go_wp2_with fail
            go_region_held3 (fun X => X.cell? ⟨p.xb, 1, none⟩ = some (.pointer (some ⟨p.lb, 0, none⟩)))
              (first | exact c15 | exact hcs)
              ((go_at_call 129; refine KA2.out.mono ?_; rintro e w7 ⟨rfl, ho7⟩; have hx7 := XO.get (XO.ofLog (HX5.out.drewN 1) ho7); obtain ⟨v7, dv7, hp7, hc7⟩ := hx7; have hcs : w7.cell? ⟨p.xb, 1, none⟩ = some (.pointer (some ⟨p.lb, 0, none⟩)) := hp7.cells.2.1))
            have HP7 := Lib.hid hp7
            have HC7 := Lib.hid ((XCh.ofBelow p (HB5.out.trans ((Same.of w5 1).below _))).trans hc7)
            clear hp7 hc7 ho7 hcs KA2
            go_wp2_with fail
            go_ret
            rw [EK2.out]
            exact ⟨by rfl, XO.of HP7.out HC7.out⟩
    · have hke : k = n := by omega
      subst hke
      have hkI : ¬ (k : Int) < (k : Int) := by omega
      have EK2 : Hid (R = (x, true)) := Lib.hid (by rw [← HK.out, List.drop_eq_nil_of_le (by rw [HN.out]; omega)]; rfl)
      go_wp2_with fail
      go_ret
      rw [EK2.out]
      exact ⟨rfl, XO.of (H.out.later HBL.out) (XCh.ofBelow p HBL.out)⟩
end
end Go.Proofs.YtflkdgghpmhbgaaGreat
namespace Go.Proofs.YtflkdgghpmhbgaaGreat
open Go.RowKit

theorem keep_commit (x : RN) : ∀ (b : Nat) (E : List Ent), (x.keep b E).1.commit = x.commit
  | _, [] => rfl
  | b, e :: E => by
    unfold RN.keep
    split
    · exact keep_commit x (b + 1) E
    · split <;> rfl
/-- The entries of a message that lie apart from a node. -/
structure MsgAt (w : World) (p : Pl) (ev : Value) (E : List Ent) : Prop where
  sl : ESl w ev E
  ok : EntsOk E
  len : (entsL E).length ≤ 80000000
  ap : E ≠ [] → Apart p.lb p.v ev
section
variable {w : World} {p : Pl} {x : RN} {M K : Nat}
set_option maxHeartbeats 8000000 in
set_option maxRecDepth 100000 in
theorem take_prog (h : XW w p x) (hf : x.Fit) (m : Mg) (ev : Value) (hm : MsgAt w p ev m.ents) (hidx : m.index ≤ 1000000000000000000) (hcm : m.commit ≤ 1000000000000000000) :
    Calls Tryz.prog 128 #[.pointer (some ⟨p.xb, 0, none⟩), .agg (mgL m ev).toArray] w fun e w' => (∃ v, e = .returned v ∧ MOwn w' w.heap.size v (x.take m).2) ∧ XO p w (x.take m).1 w' := by
  obtain ⟨W0, hW0⟩ : ∃ W0, W0 = w.alloc (.cells (mgL m ev).toArray 40) := ⟨_, rfl⟩
  have hb0 : Below w.heap.size w W0 := by rw [hW0]; exact (Below.refl _ _).alloc (Nat.le_refl _) _
  have hz0 : W0.heap[w.heap.size]? = some (.cells (mgL m ev).toArray 40 (0, 0)) := by rw [hW0]; exact heap_alloc_new _ _
  have h0 := h.later hb0
  have HLO := Lib.hid h.low
  obtain ⟨a, cp, hev, hcp, _⟩ := id hm.sl
  have HM := Lib.hid hm
  have hlen : m.ents.length ≤ 80000000 := Nat.le_trans (entsL_len _) hm.len
  subst hev
  obtain ⟨n, hn⟩ : ∃ n, m.ents.length = n := ⟨_, rfl⟩
  rw [hn] at hW0 hz0 hcp hlen HM ⊢
  unfold mgL at hW0 hz0 ⊢
  obtain ⟨d0, d1, d2, d3, d4, d5, d6, d7, d8, d9⟩ := cells10 hz0
  obtain ⟨c0, c1, c2, c3, c4, c5, c6⟩ := h0.cells
  have HZ0 := Lib.hid hz0
  have HX0 := Lib.hid h0
  have HB0 := Lib.hid hb0
  have HF := Lib.hid hf
  have HN := Lib.hid hn
  have HNUM := Lib.hid (And.intro hidx hcm)
  have hlB : x.s.c.base ≤ 1000000000000000000 := by have := hf.last; omega
  have KB := Lib.hid (fun q => gbase_prog (h0.drewN q).lw.log)
  have hnI : (n : Int) ≤ 80000000 := by omega
  have hn0 : (0 : Int) ≤ (n : Int) := by omega
  have HLN := Lib.hid hlen
  obtain ⟨BA, hBA⟩ : ∃ BA, x.s.c.base = BA := ⟨_, rfl⟩
  rw [hBA] at KB hlB
  have HBA := Lib.hid hBA
  have EW : Hid (x.take m = if m.index < BA then
    (if n < BA - m.index then (x, [x.ans m.src true BA]) else x.take2 m BA (m.ents.drop (BA - m.index)))
  else if x.s.c.termAt m.index = some m.lterm then x.take2 m m.index m.ents
  else (x, [x.ans m.src false (min x.s.c.lastN (max m.index 1 - 1))])) := Lib.hid (by rw [← hBA, ← hn]; rfl)
  clear h h0 hf hb0 hz0 hm c0 c2 c3 c5 c6 d0 d2 d3 d7 d9 hn hidx hcm hlen hBA
  go_enter Tryz.func128, Tryz.ntmps128
  go_wp2_with fail
  simp only [← hW0]
  clear hW0
  go_quiet (fail)
  go_wp2_with fail
  refine (KB.out _).mono ?_
  rintro e w2 ⟨rfl, q2, rfl⟩
  obtain ⟨W2, hW2⟩ : ∃ W2, W2 = (W0.drewN nq).drewN q2 := ⟨_, rfl⟩
  have hb02 : Below W0.heap.size W0 W2 := by rw [hW2]; exact ((Same.of W0 nq).below _).trans ((Same.of _ q2).below _)
  rw [← hW2]
  have HX2 := Lib.hid (HX0.out.later hb02)
  have HB2 := Lib.hid (HB0.out.trans (hb02.mono HB0.out.size))
  have HZ2 := Lib.hid ((hb02.block w.heap.size (block_lt HZ0.out)).trans HZ0.out)
  replace c1 := cellB hb02 c1
  replace c4 := cellB hb02 c4
  replace d1 := cellB hb02 d1
  replace d5 := cellB hb02 d5
  replace d6 := cellB hb02 d6
  clear hW2 hb02 KB HX0 HZ0 d4 d8
  by_cases hib : m.index < BA
  · have hibI : decide (m.index < BA) = true := decide_eq_true hib
    rw [if_pos hib] at EW
    obtain ⟨dd, hdd⟩ : ∃ dd, dd = BA - m.index := ⟨_, rfl⟩
    rw [← hdd] at EW
    have hsub : (BA : Int) - (m.index : Int) = (dd : Int) := by omega
    have hwd : IntKind.u64.wrap ((BA : Int) - (m.index : Int)) = (dd : Int) := by rw [hsub]; exact u64_nat' _ (by omega)
    have hwn : IntKind.u64.wrap (n : Int) = (n : Int) := u64_nat' _ (by have := HLN.out; omega)
    have HDD := Lib.hid hdd
    clear hib hdd hsub
    by_cases hnd : n < dd
    · have hndI : decide (n < dd) = true := decide_eq_true hnd
      rw [if_pos hnd] at EW
      have KA := Lib.hid (answer_prog HX2.out m.src true BA)
      clear hnd
      go_wp2_with fail
      refine KA.out.mono ?_
      rintro e w3 ⟨v3, rfl, hv3, hb3⟩
      have HV3 := Lib.hid (hv3.base (B' := w.heap.size) HB2.out.size)
      have HX3 := Lib.hid (HX2.out.later hb3)
      have HB3 := Lib.hid (HB2.out.trans (hb3.mono HB2.out.size))
      clear hv3 hb3 KA
      go_wp2_with fail
      go_ret
      rw [EW.out]
      exact ⟨⟨_, rfl, HV3.out⟩, XO.of HX3.out (XCh.ofBelow p HB3.out)⟩
    · have hndI : decide (n < dd) = false := decide_eq_false hnd
      rw [if_neg hnd] at EW
      have hddn : dd ≤ n := Nat.not_lt.1 hnd
      have hds := HM.out.sl.drop dd hddn
      have hsl := fun W => slice_fromU a n cp dd hddn W
      have hda : m.ents.drop dd ≠ [] → Apart p.lb p.v (.slice (if cp = dd then a else a.map (·.add (dd * 2))) (n - dd) (cp - dd)) := fun hne => apart_drop (HM.out.ap (fun e => hne (by rw [e]; simp)))
      obtain ⟨ad, had⟩ : ∃ ad, (if cp = dd then a else a.map (·.add (dd * 2))) = ad := ⟨_, rfl⟩
      simp only [had] at hds hsl hda
      have HDS := Lib.hid hds
      have HDA := Lib.hid hda
      clear had hds hda hnd
      go_wp2_with fail
      go_quiet (fail)
      have KK := Lib.hid (keep_prog (HX2.out.drewN nq) HF.out BA ad (cp - dd) (m.ents.drop dd) (by rw [List.length_drop, HN.out]; exact HDS.out.later (HB2.out.trans ((Same.of W2 nq).below _))) (fun y hy => HM.out.ok y (List.mem_of_mem_drop hy)) (by have := entsL_drop m.ents dd; have := HM.out.len; omega) hlB (fun hne => by rw [List.length_drop, HN.out]; exact HDA.out hne))
      obtain ⟨⟨y, ok⟩, hy⟩ : ∃ R, x.keep BA (m.ents.drop dd) = R := ⟨_, rfl⟩
      unfold RN.take2 at EW
      rw [hy] at KK EW
      dsimp only at KK EW
      rw [List.length_drop, HN.out] at KK EW
      obtain ⟨LA, hLA⟩ : ∃ LA, BA + (n - dd) = LA := ⟨_, rfl⟩
      rw [hLA] at EW
      have hELn : n - dd ≤ n := Nat.sub_le _ _
      have hwl0 : IntKind.u64.wrap ((n - dd : Nat) : Int) = ((n - dd : Nat) : Int) := u64_nat' _ (by have := HLN.out; omega)
      have hwl : IntKind.u64.wrap ((BA : Int) + ((n - dd : Nat) : Int)) = (LA : Int) := by rw [show (BA : Int) + ((n - dd : Nat) : Int) = (LA : Int) by omega]; exact u64_nat' _ (by have := HLN.out; have := HNUM.out; omega)
      have hELI : ((n - dd : Nat) : Int) ≤ 80000000 := by have := HLN.out; omega
      have hyk : y.commit = x.commit := by have := keep_commit x BA (m.ents.drop dd); rw [hy] at this; exact this
      clear hy hLA hELn
      go_wp2_with fail
      refine KK.out.mono ?_
      rintro e w5 ⟨rfl, ho5⟩
      obtain ⟨v5, dv5, hp5, hc5⟩ := XO.get ho5
      have HC5 := Lib.hid (((XCh.ofBelow p HB2.out).trans (XCh.ofBelow p ((Same.of W2 nq).below _))).trans hc5)
      have HX5 := Lib.hid hp5
      have hz5 := (hc5.kept HLO.out (Nat.le_refl _) (block_lt HZ2.out)).trans HZ2.out
      obtain ⟨_, e1, _, _, _, _, e6, _, _, _⟩ := cells10 hz5
      obtain ⟨_, _, _, _, b4, _, _⟩ := hp5.cells
      have z4 := hp5.free 4
      dsimp only at b4 z4
      have HZ5 := Lib.hid hz5
      clear KK ho5 hc5 hz5 c1 c4 d1 d5 d6
      cases ok
      · have EW2 : Hid (x.take m = (y, [])) := Lib.hid (by rw [EW.out, if_neg (by simp)])
        clear EW hp5 b4 z4 e1 e6
        go_wp2_with fail
        go_ret
        rw [EW2.out]
        exact ⟨⟨_, rfl, MOwn.nil _ _⟩, XO.of HX5.out HC5.out⟩
      · obtain ⟨C1, hC1⟩ : ∃ C1, min m.commit LA = C1 := ⟨_, rfl⟩
        obtain ⟨C2, hC2⟩ : ∃ C2, max y.commit C1 = C2 := ⟨_, rfl⟩
        have EW2 : Hid (x.take m = ({ y with commit := C2 }, [({ y with commit := C2 } : RN).ans m.src true LA])) := Lib.hid (by rw [EW.out, if_pos rfl, hC1, hC2])
        obtain ⟨yc, hyc⟩ : ∃ yc, y.commit = yc := ⟨_, rfl⟩
        rw [hyc] at hC2 b4
        have hM1 : (if LA < m.commit then (LA : Int) else (m.commit : Int)) = (C1 : Int) := by split <;> omega
        have hM2 : (if yc < C1 then (C1 : Int) else (yc : Int)) = (C2 : Int) := by split <;> omega
        have hM1' : (if (LA : Int) < (m.commit : Int) then (LA : Int) else (m.commit : Int)) = (C1 : Int) := by split <;> omega
        have hM2' : (if (yc : Int) < (C1 : Int) then (C1 : Int) else (yc : Int)) = (C2 : Int) := by split <;> omega
        have hxg : w.heap.size ≠ p.xb := fun e => by have := HLO.out.xb; omega
        clear EW hp5 hC1 hC2 hyc hyk
        go_wp2_with fail
        go_region
        have hx6 : XW ((w5.setCell ⟨p.xb, 4, none⟩ (.int .u64 (C2 : Int))).drew) { p with v := v5, dv := dv5 } { y with commit := C2 } := (HX5.out.setCommit C2).drewN 1
        have hc6 : XCh { p with v := v5, dv := dv5 } w5 ((w5.setCell ⟨p.xb, 4, none⟩ (.int .u64 (C2 : Int))).drew) { p with v := v5, dv := dv5 } := (XCh.setX { p with v := v5, dv := dv5 } w5 4 _).trans (XCh.ofBelow _ ((Same.of _ 1).below _))
        have hz6 : ((w5.setCell ⟨p.xb, 4, none⟩ (.int .u64 (C2 : Int))).drew).heap[w.heap.size]? = _ := (heap_setCell_other w5 ⟨p.xb, 4, none⟩ w.heap.size _ hxg).trans HZ5.out
        obtain ⟨W6, hW6⟩ : ∃ W6, W6 = (w5.setCell ⟨p.xb, 4, none⟩ (.int .u64 (C2 : Int))).drew := ⟨_, rfl⟩
        rw [← hW6] at hx6 hc6 hz6 ⊢
        obtain ⟨_, g1, _, _, _, _, _, _, _, _⟩ := cells10 hz6
        have HC6 := Lib.hid (HC5.out.trans hc6)
        have HX6 := Lib.hid hx6
        have KA := Lib.hid (answer_prog hx6 m.src true LA)
        clear hx6 hc6 hz6 hW6 b4 z4 e1 e6 hM1 hM2 hM1' hM2' hxg HX5 HC5 HZ5
        go_wp2_with fail
        refine KA.out.mono ?_
        rintro e w7 ⟨v7, rfl, hv7, hb7⟩
        have HV7 := Lib.hid (hv7.base (B' := w.heap.size) HC6.out.size)
        have HX7 := Lib.hid (HX6.out.later hb7)
        have HC7 := Lib.hid (HC6.out.trans (XCh.ofBelow _ hb7))
        clear hv7 hb7 KA
        go_wp2_with fail
        go_ret
        rw [EW2.out]
        exact ⟨⟨_, rfl, HV7.out⟩, XO.of HX7.out HC7.out⟩
  · have hibI : decide (m.index < BA) = false := decide_eq_false hib
    rw [if_neg hib] at EW
    clear hib
    have KT := Lib.hid (xtermAt_prog m.index HX2.out HF.out)
    obtain ⟨ot, hot⟩ : ∃ ot, x.s.c.termAt m.index = ot := ⟨_, rfl⟩
    rw [hot] at KT EW
    simp only [numV_getD] at KT
    clear hot
    go_wp2_with fail
    refine KT.out.mono ?_
    rintro e w3 ⟨rfl, hb3⟩
    have HX3 := Lib.hid (HX2.out.later hb3)
    have HB3 := Lib.hid (HB2.out.trans (hb3.mono HB2.out.size))
    replace c1 := cellB hb3 c1
    replace c4 := cellB hb3 c4
    replace d1 := cellB hb3 d1
    replace d5 := cellB hb3 d5
    replace d6 := cellB hb3 d6
    have HZ3 := Lib.hid ((hb3.block w.heap.size (block_lt HZ2.out)).trans HZ2.out)
    clear hb3 KT HX2 HB2 HZ2
    cases ot with
    | none =>
      have EW2 : Hid (x.take m = (x, [x.ans m.src false (min x.s.c.lastN (max m.index 1 - 1))])) := Lib.hid (by rw [EW.out]; rfl)
      have KL := Lib.hid (xlast_prog (HX3.out.drewN 1) HF.out)
      clear EW
      obtain ⟨L, hL⟩ : ∃ L, x.s.c.lastN = L := ⟨_, rfl⟩
      rw [hL] at KL EW2
      clear hL
      obtain ⟨X1, hX1⟩ : ∃ X1, max m.index 1 = X1 := ⟨_, rfl⟩
      obtain ⟨X2, hX2⟩ : ∃ X2, X1 - 1 = X2 := ⟨_, rfl⟩
      obtain ⟨X3, hX3⟩ : ∃ X3, min L X2 = X3 := ⟨_, rfl⟩
      rw [hX1, hX2, hX3] at EW2
      have hM1 : (if (m.index : Int) < 1 then 1 else (m.index : Int)) = (X1 : Int) := by split <;> omega
      have hM2 : IntKind.u64.wrap ((X1 : Int) - 1) = (X2 : Int) := by rw [show (X1 : Int) - 1 = (X2 : Int) by omega]; exact u64_nat' _ (by have := HNUM.out; omega)
      have hM3 : (if X2 < L then (X2 : Int) else (L : Int)) = (X3 : Int) := by split <;> omega
      have hM3' : (if (X2 : Int) < (L : Int) then (X2 : Int) else (L : Int)) = (X3 : Int) := by split <;> omega
      have KA := Lib.hid (fun q => answer_prog (HX3.out.drewN q) m.src false X3)
      clear hX1 hX2 hX3
      go_wp2_with fail
      go_region_held3 (fun X => X.cell? ⟨p.xb, 1, none⟩ = some (.pointer (some ⟨p.lb, 0, none⟩)) ∧ X.cell? ⟨w.heap.size, 1, none⟩ = some (.int .i64 m.src))
        (first | exact ⟨c1, d1⟩ | exact hcs7)
        (first
          | (go_at_call 31; refine KL.out.mono ?_; rintro e w4 ⟨rfl, q4, rfl⟩)
          | (go_at_call 126; refine (KA.out _).mono ?_; rintro e w7 ⟨v7, rfl, hv7, hb7⟩; have hcs7 := And.intro (cellB (w := World.drewN _ _) hb7 c1) (cellB (w := World.drewN _ _) hb7 d1)))
      all_goals
        have HV7 := Lib.hid (hv7.base (B' := w.heap.size) HB3.out.size)
        have HX7 := Lib.hid ((HX3.out.drewN _).later hb7)
        have HC7 := Lib.hid ((XCh.ofBelow p (HB3.out.trans ((Same.of w3 _).below _))).trans (XCh.ofBelow p hb7))
        clear hv7 hb7 hcs7 KA
        go_wp2_with fail
        go_ret
        rw [EW2.out]
        exact ⟨⟨_, rfl, HV7.out⟩, XO.of HX7.out HC7.out⟩
    | some tt =>
      by_cases htt : tt = m.lterm
      · subst htt
        rw [if_pos rfl] at EW
        have KK := Lib.hid (keep_prog HX3.out HF.out m.index a cp (m.ents) (by rw [HN.out]; exact HM.out.sl.later HB3.out) HM.out.ok (by have := HM.out.len; omega) HNUM.out.1 (by rw [HN.out]; exact HM.out.ap))
        obtain ⟨⟨y, ok⟩, hy⟩ : ∃ R, x.keep m.index (m.ents) = R := ⟨_, rfl⟩
        unfold RN.take2 at EW
        rw [hy] at KK EW
        dsimp only at KK EW
        rw [HN.out] at KK EW
        obtain ⟨LA, hLA⟩ : ∃ LA, m.index + n = LA := ⟨_, rfl⟩
        rw [hLA] at EW
        have hwl0 : IntKind.u64.wrap (n : Int) = (n : Int) := u64_nat' _ (by have := HLN.out; omega)
        have hwl : IntKind.u64.wrap ((m.index : Int) + (n : Int)) = (LA : Int) := by rw [show (m.index : Int) + (n : Int) = (LA : Int) by omega]; exact u64_nat' _ (by have := HLN.out; have := HNUM.out; omega)
        have hnI : (n : Int) ≤ 80000000 := by have := HLN.out; omega
        have hyk : y.commit = x.commit := by have := keep_commit x m.index (m.ents); rw [hy] at this; exact this
        clear hy hLA
        go_wp2_with fail
        refine KK.out.mono ?_
        rintro e w5 ⟨rfl, ho5⟩
        obtain ⟨v5, dv5, hp5, hc5⟩ := XO.get ho5
        have HC5 := Lib.hid ((XCh.ofBelow p HB3.out).trans hc5)
        have HX5 := Lib.hid hp5
        have hz5 := (hc5.kept HLO.out (Nat.le_refl _) (block_lt HZ3.out)).trans HZ3.out
        obtain ⟨_, e1, _, _, _, _, e6, _, _, _⟩ := cells10 hz5
        obtain ⟨_, _, _, _, b4, _, _⟩ := hp5.cells
        have z4 := hp5.free 4
        dsimp only at b4 z4
        have HZ5 := Lib.hid hz5
        clear KK ho5 hc5 hz5 c1 c4 d1 d5 d6
        cases ok
        · have EW2 : Hid (x.take m = (y, [])) := Lib.hid (by rw [EW.out, if_neg (by simp)])
          clear EW hp5 b4 z4 e1 e6
          go_wp2_with fail
          go_ret
          rw [EW2.out]
          exact ⟨⟨_, rfl, MOwn.nil _ _⟩, XO.of HX5.out HC5.out⟩
        · obtain ⟨C1, hC1⟩ : ∃ C1, min m.commit LA = C1 := ⟨_, rfl⟩
          obtain ⟨C2, hC2⟩ : ∃ C2, max y.commit C1 = C2 := ⟨_, rfl⟩
          have EW2 : Hid (x.take m = ({ y with commit := C2 }, [({ y with commit := C2 } : RN).ans m.src true LA])) := Lib.hid (by rw [EW.out, if_pos rfl, hC1, hC2])
          obtain ⟨yc, hyc⟩ : ∃ yc, y.commit = yc := ⟨_, rfl⟩
          rw [hyc] at hC2 b4
          have hM1 : (if LA < m.commit then (LA : Int) else (m.commit : Int)) = (C1 : Int) := by split <;> omega
          have hM2 : (if yc < C1 then (C1 : Int) else (yc : Int)) = (C2 : Int) := by split <;> omega
          have hM1' : (if (LA : Int) < (m.commit : Int) then (LA : Int) else (m.commit : Int)) = (C1 : Int) := by split <;> omega
          have hM2' : (if (yc : Int) < (C1 : Int) then (C1 : Int) else (yc : Int)) = (C2 : Int) := by split <;> omega
          have hxg : w.heap.size ≠ p.xb := fun e => by have := HLO.out.xb; omega
          clear EW hp5 hC1 hC2 hyc hyk
          go_wp2_with fail
          go_region
          have hx6 : XW ((w5.setCell ⟨p.xb, 4, none⟩ (.int .u64 (C2 : Int))).drew) { p with v := v5, dv := dv5 } { y with commit := C2 } := (HX5.out.setCommit C2).drewN 1
          have hc6 : XCh { p with v := v5, dv := dv5 } w5 ((w5.setCell ⟨p.xb, 4, none⟩ (.int .u64 (C2 : Int))).drew) { p with v := v5, dv := dv5 } := (XCh.setX { p with v := v5, dv := dv5 } w5 4 _).trans (XCh.ofBelow _ ((Same.of _ 1).below _))
          have hz6 : ((w5.setCell ⟨p.xb, 4, none⟩ (.int .u64 (C2 : Int))).drew).heap[w.heap.size]? = _ := (heap_setCell_other w5 ⟨p.xb, 4, none⟩ w.heap.size _ hxg).trans HZ5.out
          obtain ⟨W6, hW6⟩ : ∃ W6, W6 = (w5.setCell ⟨p.xb, 4, none⟩ (.int .u64 (C2 : Int))).drew := ⟨_, rfl⟩
          rw [← hW6] at hx6 hc6 hz6 ⊢
          obtain ⟨_, g1, _, _, _, _, _, _, _, _⟩ := cells10 hz6
          have HC6 := Lib.hid (HC5.out.trans hc6)
          have HX6 := Lib.hid hx6
          have KA := Lib.hid (answer_prog hx6 m.src true LA)
          clear hx6 hc6 hz6 hW6 b4 z4 e1 e6 hM1 hM2 hM1' hM2' hxg HX5 HC5 HZ5
          go_wp2_with fail
          refine KA.out.mono ?_
          rintro e w7 ⟨v7, rfl, hv7, hb7⟩
          have HV7 := Lib.hid (hv7.base (B' := w.heap.size) HC6.out.size)
          have HX7 := Lib.hid (HX6.out.later hb7)
          have HC7 := Lib.hid (HC6.out.trans (XCh.ofBelow _ hb7))
          clear hv7 hb7 KA
          go_wp2_with fail
          go_ret
          rw [EW2.out]
          exact ⟨⟨_, rfl, HV7.out⟩, XO.of HX7.out HC7.out⟩
      · have hti : ((tt : Int) != (m.lterm : Int)) = true := by simp; omega
        have EW2 : Hid (x.take m = (x, [x.ans m.src false (min x.s.c.lastN (max m.index 1 - 1))])) := Lib.hid (by rw [EW.out, if_neg (fun e => htt (by injection e))])
        have KL := Lib.hid (xlast_prog (HX3.out.drewN 1) HF.out)
        clear EW htt
        obtain ⟨L, hL⟩ : ∃ L, x.s.c.lastN = L := ⟨_, rfl⟩
        rw [hL] at KL EW2
        clear hL
        obtain ⟨X1, hX1⟩ : ∃ X1, max m.index 1 = X1 := ⟨_, rfl⟩
        obtain ⟨X2, hX2⟩ : ∃ X2, X1 - 1 = X2 := ⟨_, rfl⟩
        obtain ⟨X3, hX3⟩ : ∃ X3, min L X2 = X3 := ⟨_, rfl⟩
        rw [hX1, hX2, hX3] at EW2
        have hM1 : (if (m.index : Int) < 1 then 1 else (m.index : Int)) = (X1 : Int) := by split <;> omega
        have hM2 : IntKind.u64.wrap ((X1 : Int) - 1) = (X2 : Int) := by rw [show (X1 : Int) - 1 = (X2 : Int) by omega]; exact u64_nat' _ (by have := HNUM.out; omega)
        have hM3 : (if X2 < L then (X2 : Int) else (L : Int)) = (X3 : Int) := by split <;> omega
        have hM3' : (if (X2 : Int) < (L : Int) then (X2 : Int) else (L : Int)) = (X3 : Int) := by split <;> omega
        have KA := Lib.hid (fun q => answer_prog (HX3.out.drewN q) m.src false X3)
        clear hX1 hX2 hX3
        go_wp2_with fail
        go_region_held3 (fun X => X.cell? ⟨p.xb, 1, none⟩ = some (.pointer (some ⟨p.lb, 0, none⟩)) ∧ X.cell? ⟨w.heap.size, 1, none⟩ = some (.int .i64 m.src))
          (first | exact ⟨c1, d1⟩ | exact hcs7)
          (first
            | (go_at_call 31; refine KL.out.mono ?_; rintro e w4 ⟨rfl, q4, rfl⟩)
            | (go_at_call 126; refine (KA.out _).mono ?_; rintro e w7 ⟨v7, rfl, hv7, hb7⟩; have hcs7 := And.intro (cellB (w := World.drewN _ _) hb7 c1) (cellB (w := World.drewN _ _) hb7 d1)))
        all_goals
          have HV7 := Lib.hid (hv7.base (B' := w.heap.size) HB3.out.size)
          have HX7 := Lib.hid ((HX3.out.drewN _).later hb7)
          have HC7 := Lib.hid ((XCh.ofBelow p (HB3.out.trans ((Same.of w3 _).below _))).trans (XCh.ofBelow p hb7))
          clear hv7 hb7 hcs7 KA
          go_wp2_with fail
          go_ret
          rw [EW2.out]
          exact ⟨⟨_, rfl, HV7.out⟩, XO.of HX7.out HC7.out⟩
end
end Go.Proofs.YtflkdgghpmhbgaaGreat
namespace Go.Proofs.YtflkdgghpmhbgaaGreat
open Go.RowKit

theorem MsgAt.mvX {w w' : World} {p : Pl} {ev : Value} {E : List Ent} (h : MsgAt w p ev E) (hs : w.heap.size ≤ w'.heap.size) (hb : ∀ j, j ≠ p.xb → w'.heap[j]? = w.heap[j]?) (hx : E ≠ [] → ∀ k, ev.ownBlock = some k → k ≠ p.xb) : MsgAt w' p ev E := by
  refine ⟨?_, h.ok, h.len, h.ap⟩
  obtain ⟨a, c, h1, h2, h3⟩ := h.sl
  refine ⟨a, c, h1, h2, fun hne => ?_⟩
  obtain ⟨g, o, ha, hg, hc⟩ := h3 hne
  have e := hb g (hx hne g (by rw [h1, ha]; rfl))
  refine ⟨g, o, ha, Nat.lt_of_lt_of_le hg hs, fun i x hx => ?_⟩
  have := hc i x hx
  exact ⟨by rw [World.cell?_of_block (w := w) (a := ⟨g, o + i * 2, none⟩) e]; exact this.1, by rw [World.cell?_of_block (w := w) (a := ⟨g, o + i * 2 + 1, none⟩) e]; exact this.2⟩
theorem MsgAt.later {w w' : World} {p : Pl} {ev : Value} {E : List Ent} (h : MsgAt w p ev E) (hb : Below w.heap.size w w') : MsgAt w' p ev E := ⟨h.sl.later hb, h.ok, h.len, h.ap⟩
section
variable {w : World} {p : Pl} {x : RN} {M K : Nat}
set_option maxHeartbeats 8000000 in
set_option maxRecDepth 100000 in
theorem led_prog {m : Mg} (h : XW w p x) (hff : (x.follow m.src).Fit) (ev : Value) (hm : MsgAt w p ev m.ents) (hxa : m.ents ≠ [] → ∀ k, ev.ownBlock = some k → k ≠ p.xb) (hidx : m.index ≤ 1000000000000000000) (hcm : m.commit ≤ 1000000000000000000) (hl : m.lterm < m64) (hst : m.state.size ≤ 100000000) :
    Calls Tryz.prog 76 #[.pointer (some ⟨p.xb, 0, none⟩), .agg (mgL m ev).toArray] w fun e w' => (∃ v, e = .returned v ∧ MOwn w' w.heap.size v (x.led2 m).2) ∧ XO p w (x.led2 m).1 w' := by
  obtain ⟨W0, hW0⟩ : ∃ W0, W0 = w.alloc (.cells (mgL m ev).toArray 40) := ⟨_, rfl⟩
  have hb0 : Below w.heap.size w W0 := by rw [hW0]; exact (Below.refl _ _).alloc (Nat.le_refl _) _
  have hz0 : W0.heap[w.heap.size]? = some (.cells (mgL m ev).toArray 40 (0, 0)) := by rw [hW0]; exact heap_alloc_new _ _
  have h0 := h.later hb0
  have HLO := Lib.hid h.low
  have KT := Lib.hid (xterm_q h0)
  have KI := Lib.hid (fun W (hW : XW W p (x.follow m.src)) => install_prog hW hff m ev (Nat.lt_of_le_of_lt hidx (by unfold m64; omega)) hl hst)
  have KTA := Lib.hid (fun W (hW : XW W p (x.follow m.src)) (hM : MsgAt W p ev m.ents) => take_prog hW hff m ev hM hidx hcm)
  have KA := Lib.hid (fun q => answer_prog (h0.drewN q) m.src false 0)
  unfold mgL at hW0 hz0 KI KTA ⊢
  obtain ⟨d0, d1, d2, d3, d4, d5, d6, d7, d8, d9⟩ := cells10 hz0
  obtain ⟨c0, c1, c2, c3, c4, c5, c6⟩ := h0.cells
  have z2 := h0.free 2
  have z3 := h0.free 3
  have z5 := h0.free 5
  have HZ0 := Lib.hid hz0
  have HX0 := Lib.hid h0
  have HB0 := Lib.hid hb0
  have HM0 := Lib.hid (hm.later hb0)
  have HXA := Lib.hid hxa
  have EW : Hid (x.led2 m = if m.term < x.s.c.term then (x, [x.ans m.src false 0]) else if x.role = 2 then (x, []) else if m.kind = 4 then (x.follow m.src).install m else (x.follow m.src).take m) := Lib.hid rfl
  have HF := Lib.hid (fun q => (XO.of (h0.drewN q) ((XCh.ofBelow p hb0).trans (XCh.ofBelow p ((Same.of W0 q).below _))) : XO p w x (W0.drewN q)))
  clear h h0 hff hb0 hz0 hm hxa hidx hcm hl hst c0 c4 c6 d2 d4 d5 d6 d7 d8 d9
  by_cases ht : m.term < x.s.c.term
  · have htI : decide (m.term < x.s.c.term) = true := decide_eq_true ht
    rw [if_pos ht] at EW
    clear ht KI KTA HF z2 z3 z5 c2 c3 c5 d0
    go_enter Tryz.func76, Tryz.ntmps76
    go_wp2_with fail
    simp only [← hW0]
    clear hW0
    go_quiet ((go_at_call 28; exact KT.out _))
    go_wp2_with fail
    refine (KA.out _).mono ?_
    rintro e w3 ⟨v3, rfl, hv3, hb3⟩
    have HV3 := Lib.hid (hv3.base (B' := w.heap.size) HB0.out.size)
    have HX3 := Lib.hid ((HX0.out.drewN _).later hb3)
    have HC3 := Lib.hid ((XCh.ofBelow p (HB0.out.trans ((Same.of W0 _).below _))).trans (XCh.ofBelow p hb3))
    clear hv3 hb3 KA
    go_wp2_with fail
    go_ret
    rw [EW.out]
    exact ⟨⟨_, rfl, HV3.out⟩, XO.of HX3.out HC3.out⟩
  · have htI : decide (m.term < x.s.c.term) = false := decide_eq_false ht
    rw [if_neg ht] at EW
    clear ht KA
    by_cases hr : x.role = 2
    · have hrI : (x.role == 2) = true := by simp [hr]
      rw [if_pos hr] at EW
      clear hr KI KTA z2 z3 z5 c3 c5 d0
      go_enter Tryz.func76, Tryz.ntmps76
      go_wp2_with fail
      simp only [← hW0]
      clear hW0
      go_quiet ((go_at_call 28; exact KT.out _))
      go_wp2_with fail
      go_ret
      rw [EW.out]
      exact ⟨⟨_, rfl, MOwn.nil _ _⟩, HF.out _⟩
    · have hrI : (x.role == 2) = false := by simp [hr]
      rw [if_neg hr] at EW
      clear hr HF
      go_enter Tryz.func76, Tryz.ntmps76
      go_wp2_with fail
      simp only [← hW0]
      clear hW0
      go_quiet ((go_at_call 28; exact KT.out _))
      go_wp2_with fail
      go_region
      have hx6 : XW ((((W0.drewN (nq + 1)).setCell ⟨p.xb, 2, none⟩ (.int .i64 0)).setCell ⟨p.xb, 3, none⟩ (.int .i64 m.src)).setCell ⟨p.xb, 5, none⟩ (.int .i64 0)) p (x.follow m.src) := (((HX0.out.drewN (nq + 1)).setRole 0).setLeader m.src).setPat 0
      have hc6 : XCh p w ((((W0.drewN (nq + 1)).setCell ⟨p.xb, 2, none⟩ (.int .i64 0)).setCell ⟨p.xb, 3, none⟩ (.int .i64 m.src)).setCell ⟨p.xb, 5, none⟩ (.int .i64 0)) p := (((XCh.ofBelow p (HB0.out.trans ((Same.of W0 (nq + 1)).below _))).trans (XCh.setX p _ 2 _)).trans (XCh.setX p _ 3 _)).trans (XCh.setX p _ 5 _)
      have hk6 : ∀ j, j ≠ p.xb → (((((W0.drewN (nq + 1)).setCell ⟨p.xb, 2, none⟩ (.int .i64 0)).setCell ⟨p.xb, 3, none⟩ (.int .i64 m.src)).setCell ⟨p.xb, 5, none⟩ (.int .i64 0))).heap[j]? = W0.heap[j]? := fun j hj => ((heap_setCell_other _ ⟨p.xb, 5, none⟩ j _ hj).trans (heap_setCell_other _ ⟨p.xb, 3, none⟩ j _ hj)).trans (heap_setCell_other _ ⟨p.xb, 2, none⟩ j _ hj)
      have hs6 : W0.heap.size ≤ (((((W0.drewN (nq + 1)).setCell ⟨p.xb, 2, none⟩ (.int .i64 0)).setCell ⟨p.xb, 3, none⟩ (.int .i64 m.src)).setCell ⟨p.xb, 5, none⟩ (.int .i64 0))).heap.size := by simp
      obtain ⟨W6, hW6⟩ : ∃ W6, W6 = ((((W0.drewN (nq + 1)).setCell ⟨p.xb, 2, none⟩ (.int .i64 0)).setCell ⟨p.xb, 3, none⟩ (.int .i64 m.src)).setCell ⟨p.xb, 5, none⟩ (.int .i64 0)) := ⟨_, rfl⟩
      rw [← hW6] at hx6 hc6 hk6 hs6 ⊢
      have hxg : w.heap.size ≠ p.xb := fun e => by have := HLO.out.xb; omega
      have hm6 := HM0.out.mvX hs6 hk6 HXA.out
      have hz6 := (hk6 _ hxg).trans HZ0.out
      have HC6 := Lib.hid hc6
      have KI6 := Lib.hid (KI.out _ hx6)
      have KT6 := Lib.hid (KTA.out _ hx6 hm6)
      obtain ⟨d0, d1, d2, d3, d4, d5, d6, d7, d8, d9⟩ := cells10 hz6
      clear hx6 hc6 hk6 hs6 hW6 hxg hm6 hz6 z2 z3 z5 c1 c2 c3 c5 KI KTA KT
      by_cases hk : m.kind = 4
      · have hkI : (m.kind == 4) = true := by simp [hk]
        rw [if_pos hk] at EW
        clear hk KT6
        go_wp2_with fail
        refine KI6.out.mono ?_
        rintro e w7 ⟨⟨v, rfl, hv⟩, ho⟩
        have HV := Lib.hid (hv.base (show w.heap.size ≤ _ from HC6.out.size))
        have HO := Lib.hid (XO.trans HC6.out ho)
        clear hv ho KI6
        go_wp2_with fail
        go_ret
        rw [EW.out]
        exact ⟨⟨_, rfl, HV.out⟩, HO.out⟩
      · have hkI : (m.kind == 4) = false := by simp [hk]
        rw [if_neg hk] at EW
        clear hk KI6
        go_wp2_with fail
        refine KT6.out.mono ?_
        rintro e w7 ⟨⟨v, rfl, hv⟩, ho⟩
        have HV := Lib.hid (hv.base (show w.heap.size ≤ _ from HC6.out.size))
        have HO := Lib.hid (XO.trans HC6.out ho)
        clear hv ho KT6
        go_wp2_with fail
        go_ret
        rw [EW.out]
        exact ⟨⟨_, rfl, HV.out⟩, HO.out⟩
end
end Go.Proofs.YtflkdgghpmhbgaaGreat
