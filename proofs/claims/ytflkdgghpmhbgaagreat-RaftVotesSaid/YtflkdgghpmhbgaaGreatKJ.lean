/- raft: join, Tick. -/
import Derived.Test.YtflkdgghpmhbgaaGreatKI
namespace Go.Proofs.YtflkdgghpmhbgaaGreat
open Go.RowKit

/-- It leads, behind nothing yet. -/
def RN.led0 (x : RN) : RN := { x with role := 2, leader := (x.id : Int), pat := 0 }
def RN.led (x : RN) : RN := { x with role := 2, leader := (x.id : Int), pat := 0, ps := List.replicate x.ps.length ⟨false, x.s.c.lastN, 0⟩ }
def RN.win (x : RN) : RN × List Mg := if (x.led.addS ⟨#[]⟩).2 = 3 then (x.led.add ⟨#[]⟩, []) else ((x.led.add ⟨#[]⟩).count, (x.led.add ⟨#[]⟩).count.feedAll)
theorem fillP_succ {ps : List Pr} {k : Nat} (z : Pr) (hk : k < ps.length) : (List.replicate k z ++ ps.drop k).set k z = List.replicate (k + 1) z ++ ps.drop (k + 1) := by
  rw [List.set_append_right _ _ (by rw [List.length_replicate]; omega), List.length_replicate, Nat.sub_self, List.replicate_succ', List.append_assoc]
  congr 1
  rw [List.drop_eq_getElem_cons hk]
  rfl
theorem set_set_pr (l : List Pr) (i : Nat) (a b c : Pr) : ((l.set i a).set i b).set i c = l.set i c := by simp
section
variable {w : World} {p : Pl} {x : RN} {M K : Nat}
theorem RN.In.led0 (h : x.In M K) : x.led0.In M K := ⟨h.s, h.id, h.n, h.term, h.last, h.commit, Nat.zero_le _, h.ps⟩
theorem RN.In.led (h : x.In M K) : x.led.In M K := by
  refine ⟨h.s, ?_, ?_, h.term, h.last, h.commit, Nat.zero_le _, fun q hq => ?_⟩
  · show x.id < (List.replicate _ _).length; rw [List.length_replicate]; exact h.id
  · show (List.replicate _ _).length ≤ 9; rw [List.length_replicate]; exact h.n
  · obtain ⟨_, rfl⟩ := List.mem_replicate.1 hq
    exact ⟨Nat.le_trans (lastN_le _) h.last, Nat.zero_le _⟩
theorem XW.setPat0 (h : XW w p x) : XW (w.setCell ⟨p.xb, 5, none⟩ (.int .i64 0)) p { x with pat := 0 } := h.setPat 0
/-- Three cells of a peer. -/
theorem XW.setQ (h : XW w p x) {i : Nat} {q : Pr} (hi : x.ps[i]? = some q) (z : Pr) :
    XW (((w.setCell ⟨p.nb, i * 3, none⟩ (.bool z.v)).setCell ⟨p.nb, i * 3 + 1, none⟩ (.int .u64 (z.a : Int))).setCell ⟨p.nb, i * 3 + 2, none⟩ (.int .u64 (z.m : Int))) p { x with ps := x.ps.set i z } := by
  have hl := (List.getElem?_eq_some_iff.1 hi).1
  have h1 := h.setV hi z.v
  have h2 := h1.setA (i := i) (q := { q with v := z.v }) (by simp [hl]) z.a
  have h3 := h2.setM (i := i) (q := { { q with v := z.v } with a := z.a }) (by simp [hl]) z.m
  have e : ({ x with ps := ((x.ps.set i { q with v := z.v }).set i { { q with v := z.v } with a := z.a }).set i { { { q with v := z.v } with a := z.a } with m := z.m } } : RN) = { x with ps := x.ps.set i z } := by rw [set_set_pr]
  rw [← e]
  exact h3
set_option maxHeartbeats 4000000 in
set_option maxRecDepth 100000 in
theorem win_prog (h : XW w p x) (hi : x.In M K) (hM : M ≤ 90000000) (hK : K ≤ 100000000000000000) : Calls Tryz.prog 121 #[.pointer (some ⟨p.xb, 0, none⟩)] w fun e w' => (∃ v, e = .returned v ∧ MOwn w' w.heap.size v x.win.2) ∧ XO p w x.win.1 w' := by
  obtain ⟨m0, m1, m2, m3, m4, m5, m6⟩ := h.cells
  have z2 := h.free 2
  have z3 := h.free 3
  have z5 := h.free 5
  have h1 := ((h.setRole 2).setLeader (x.id : Int)).setPat0
  have hc1 := ((XCh.setX p w 2 (.int .i64 2)).trans (XCh.setX p _ 3 (.int .i64 (x.id : Int)))).trans (XCh.setX p _ 5 (.int .i64 0))
  obtain ⟨W1, hW1⟩ : ∃ W1, W1 = ((w.setCell ⟨p.xb, 2, none⟩ (.int .i64 2)).setCell ⟨p.xb, 3, none⟩ (.int .i64 (x.id : Int))).setCell ⟨p.xb, 5, none⟩ (.int .i64 0) := ⟨_, rfl⟩
  rw [← hW1] at h1 hc1
  have H1 : Hid (XW W1 p x.led0) := Lib.hid h1
  have HC1 := Lib.hid hc1
  have HW1 := Lib.hid hW1
  have HI := Lib.hid hi
  have HMK := Lib.hid (And.intro hM hK)
  obtain ⟨_, _, _, _, _, _, c6⟩ := H1.out.cells
  have hn := hi.n
  have hnl : x.led0.ps.length = x.ps.length := rfl
  rw [hnl] at c6
  obtain ⟨n, hnn⟩ : ∃ n, x.ps.length = n := ⟨_, rfl⟩
  rw [hnn] at m6 c6 hn
  have HN := Lib.hid hnn
  have hnI : (n : Int) ≤ 9 := by omega
  have hn0 : (0 : Int) ≤ (n : Int) := by omega
  clear h h1 hc1 hi hM hK hnl hnn m1 m4 hW1
  go_enter Tryz.func121, Tryz.ntmps121
  go_wp2_with fail
  rw [← HW1.out]
  clear m0 m2 m3 m5 m6 z2 z3 z5
  go_loopw [22] (fun i wr => ∃ k : Nat, k ≤ n ∧ i = .int .i64 (k : Int) ∧ Hid (XW wr p { x.led0 with ps := List.replicate k ⟨false, x.s.c.lastN, 0⟩ ++ x.ps.drop k }) ∧ Hid (XCh p w wr p)) (fun i _ => n - (intOf i).toNat)
  case atStart => exact ⟨0, by omega, rfl, H1, HC1⟩
  case round =>
    obtain ⟨k, hk, rfl, HX, HC⟩ := hrel
    have hlen : (List.replicate k (⟨false, x.s.c.lastN, 0⟩ : Pr) ++ x.ps.drop k).length = n := by rw [List.length_append, List.length_replicate, List.length_drop, HN.out]; omega
    obtain ⟨_, c1, _, _, _, _, c6⟩ := HX.out.cells
    have c6 : wr.cell? ⟨p.xb, 6, none⟩ = some (.slice (some ⟨p.nb, 0, none⟩) n n) := by rw [← hlen]; exact c6
    by_cases hlt : k < n
    · have hkI : (k : Int) < (n : Int) := by omega
      have hk0 : (0 : Int) ≤ (k : Int) := by omega
      obtain ⟨q, hq⟩ : ∃ q, (List.replicate k (⟨false, x.s.c.lastN, 0⟩ : Pr) ++ x.ps.drop k)[k]? = some q := ⟨_, List.getElem?_eq_getElem (by rw [hlen]; exact hlt)⟩
      obtain ⟨q0, q1, q2⟩ := HX.out.peer hq
      have f0 := HX.out.nfree (k * 3)
      have f1 := HX.out.nfree (k * 3 + 1)
      have f2 := HX.out.nfree (k * 3 + 2)
      have HFI : Hid (RN.In { x.led0 with ps := List.replicate k ⟨false, x.s.c.lastN, 0⟩ ++ x.ps.drop k } M K) := Lib.hid (by
        refine ⟨HI.out.s, by rw [hlen, ← HN.out]; exact HI.out.id, by rw [hlen]; exact hn, HI.out.term, HI.out.last, HI.out.commit, Nat.zero_le _, fun q hq => ?_⟩
        rcases List.mem_append.1 hq with hq | hq
        · obtain ⟨_, rfl⟩ := List.mem_replicate.1 hq
          exact ⟨Nat.le_trans (lastN_le _) HI.out.last, Nat.zero_le _⟩
        · exact HI.out.ps q (List.mem_of_mem_drop hq))
      have KL := Lib.hid (xlast_prog (HX.out.drewN 1) (HFI.out.fit (by have := HMK.out; omega) (by have := HMK.out; omega)))
      have HST := Lib.hid (fun m => (HX.out.drewN m).setQ hq ⟨false, x.s.c.lastN, 0⟩)
      have HFS := Lib.hid (fillP_succ (ps := x.ps) (k := k) (⟨false, x.s.c.lastN, 0⟩ : Pr) (by rw [HN.out]; exact hlt))
      have hxn := HX.out.xn
      clear hq hlen
      dsimp only [RN.led0] at KL HST
      obtain ⟨L, hL⟩ : ∃ L, x.s.c.lastN = L := ⟨_, rfl⟩
      rw [hL] at KL HST HFS
      have HL := Lib.hid hL
      clear hL
      go_wp2_with fail
      go_region_held3 (fun X => X.cell? ⟨p.xb, 1, none⟩ = some (.pointer (some ⟨p.lb, 0, none⟩)) ∧ X.cell? ⟨p.xb, 6, none⟩ = some (.slice (some ⟨p.nb, 0, none⟩) n n))
        (first | exact ⟨c1, c6⟩ | exact ⟨cellO (cellO (cellO (w := World.drewN _ _) c1 hxn) hxn) hxn, cellO (cellO (cellO (w := World.drewN _ _) c6 hxn) hxn) hxn⟩)
        ((go_at_call 31; refine KL.out.mono ?_; rintro e w5 ⟨rfl, q5, rfl⟩))
      have HX6 : Hid (XW ((((wr.drewN (1 + q5)).setCell ⟨p.nb, k * 3, none⟩ (.bool false)).setCell ⟨p.nb, k * 3 + 1, none⟩ (.int .u64 (L : Int))).setCell ⟨p.nb, k * 3 + 2, none⟩ (.int .u64 0)) p { x.led0 with ps := List.replicate (k + 1) ⟨false, x.s.c.lastN, 0⟩ ++ x.ps.drop (k + 1) }) := Lib.hid (by
        have := HST.out (1 + q5)
        rw [HFS.out] at this
        rw [HL.out]
        exact this)
      have HC6 := Lib.hid ((((HC.out.trans (XCh.ofBelow p ((Same.of wr (1 + q5)).below _))).trans (XCh.setP p _ (k * 3) (.bool false))).trans (XCh.setP p _ (k * 3 + 1) (.int .u64 (L : Int)))).trans (XCh.setP p _ (k * 3 + 2) (.int .u64 0)))
      clear q0 q1 q2 f0 f1 f2 c1 c6
      go_wp2_with fail
      go_roundw
      case rel => exact ⟨k + 1, by omega, by go_num, HX6, HC6⟩
      case measure => simp [intOf]; omega
    · have hke : k = n := by omega
      subst hke
      have hkI : ¬ (k : Int) < (k : Int) := by omega
      have HX2 : Hid (XW wr p x.led) := Lib.hid (by
        have := HX.out
        rw [List.drop_eq_nil_of_le (by rw [HN.out]; omega), List.append_nil, ← HN.out] at this
        exact this)
      have hil := HI.out.led
      have hM := HMK.out
      have hz0 : (⟨#[]⟩ : ByteArray).size = 0 := rfl
      have KA := Lib.hid (add_prog HX2.out (hil.fit (by omega) (by omega)) ⟨#[]⟩ (by omega))
      have hia := hil.add ⟨#[]⟩ (by omega) (by omega) (by omega)
      have KC := Lib.hid (fun W p' (hW : XW W p' (x.led.add ⟨#[]⟩)) => count_prog hW (hia.fit (by omega) (by omega)))
      have KF := Lib.hid (fun W p' (hW : XW W p' (x.led.add ⟨#[]⟩).count) => feedAll_prog hW (hia.count.fit (by omega) (by omega)))
      have EW : Hid (x.win = if (x.led.addS ⟨#[]⟩).2 = 3 then (x.led.add ⟨#[]⟩, []) else ((x.led.add ⟨#[]⟩).count, (x.led.add ⟨#[]⟩).count.feedAll)) := Lib.hid rfl
      obtain ⟨xa, hxa⟩ : ∃ xa, x.led.add ⟨#[]⟩ = xa := ⟨_, rfl⟩
      obtain ⟨r, hr⟩ : ∃ r, (x.led.addS ⟨#[]⟩).2 = r := ⟨_, rfl⟩
      rw [hxa, hr] at EW
      rw [hxa, hr] at KA
      rw [hxa] at KC KF
      obtain ⟨xc, hxc⟩ : ∃ xc, xa.count = xc := ⟨_, rfl⟩
      rw [hxc] at EW KC KF
      clear hil hia hxa hr hxc hlen hM hz0 c1 c6 hlt
      by_cases hr3 : r = 3
      · subst hr3
        rw [if_pos rfl] at EW
        clear KC KF
        go_wp2_with fail
        refine KA.out.mono ?_
        rintro e w2 ⟨rfl, p2, hp2, hc2⟩
        have HC2 := Lib.hid (HC.out.trans hc2)
        have HP2 := Lib.hid hp2
        clear hc2 hp2 KA
        go_wp2_with fail
        go_ret
        rw [EW.out]
        exact ⟨⟨_, rfl, MOwn.nil _ _⟩, XO.of HP2.out HC2.out⟩
      · rw [if_neg hr3] at EW
        have hrI : (r == 3) = false := by simp [hr3]
        clear hr3
        go_wp2_with fail
        refine KA.out.mono ?_
        rintro e w2 ⟨rfl, p2, hp2, hc2⟩
        have HC2 := Lib.hid (HC.out.trans hc2)
        have K2 := Lib.hid (KC.out _ _ hp2)
        have hxb : p2.xb = p.xb := hc2.xb
        rw [hxb] at K2
        have HXB := Lib.hid hxb
        clear hc2 hp2 KA KC hxb
        go_wp2_with fail
        refine K2.out.mono ?_
        rintro e w3 ⟨rfl, hp3, hc3⟩
        have HC3 := Lib.hid (HC2.out.trans hc3)
        have HP3 := Lib.hid hp3
        have K3 := Lib.hid (KF.out _ _ hp3)
        rw [HXB.out] at K3
        clear hc3 hp3 K2 KF
        go_wp2_with fail
        refine K3.out.mono ?_
        rintro e w4 ⟨⟨v, rfl, hv⟩, hb4⟩
        have HV := Lib.hid (hv.base HC3.out.size)
        have HP4 := Lib.hid (HP3.out.later hb4)
        have HC4 := Lib.hid (HC3.out.trans (XCh.ofBelow p2 hb4))
        clear hv hb4 K3
        go_wp2_with fail
        go_ret
        rw [EW.out]
        exact ⟨⟨_, rfl, HV.out⟩, XO.of HP4.out HC4.out⟩
end
end Go.Proofs.YtflkdgghpmhbgaaGreat
namespace Go.Proofs.YtflkdgghpmhbgaaGreat
open Go.RowKit

def RN.cand (x : RN) (s : LgS) : RN := { x with s := s, role := 1, leader := -1, pat := 0, ps := (List.replicate x.ps.length ⟨false, 0, 0⟩).set x.id ⟨true, 0, 0⟩ }
def RN.stand (x : RN) : RN × List Mg :=
  if (x.s.setTerm (x.s.c.term + 1) (x.id : Int)).2 = 0 then
    (if (x.cand (x.s.setTerm (x.s.c.term + 1) (x.id : Int)).1).elected = true then (x.cand (x.s.setTerm (x.s.c.term + 1) (x.id : Int)).1).win
      else (x.cand (x.s.setTerm (x.s.c.term + 1) (x.id : Int)).1, (x.cand (x.s.setTerm (x.s.c.term + 1) (x.id : Int)).1).askAll))
  else ({ x with s := (x.s.setTerm (x.s.c.term + 1) (x.id : Int)).1 }, [])
theorem Tryz.prSl : SlN Tryz.prog 125 188 (.agg #[.bool false, .int .u64 0, .int .u64 0]) 3 24 := ⟨Tryz.underlying125, by kernel_rfl, rfl, by decide⟩
theorem zeroP (n : Nat) : (Builtin.zeroCells (Value.agg #[.bool false, .int .u64 0, .int .u64 0]).cells n).toList = prC (List.replicate n ⟨false, 0, 0⟩) := by
  have e : (Value.agg #[.bool false, .int .u64 0, .int .u64 0]).cells = #[.bool false, .int .u64 0, .int .u64 0] := rfl
  rw [e]
  apply List.ext_getElem?
  intro i
  by_cases hi : i < n * 3
  · obtain ⟨k, hk⟩ : ∃ k, k = i / 3 := ⟨_, rfl⟩
    have hkn : k < n := by omega
    obtain ⟨g1, g2, g3⟩ := prC_get (List.replicate n ⟨false, 0, 0⟩) k ⟨false, 0, 0⟩ (by simp [hkn])
    rcases (by omega : i = k * 3 ∨ i = k * 3 + 1 ∨ i = k * 3 + 2) with h | h | h
    · rw [h, g1]; simp [Builtin.zeroCells]
      exact ⟨k * 3, List.getElem?_range (by omega), by rw [show k * 3 % 3 = 0 by omega]; rfl⟩
    · rw [h, g2]; simp [Builtin.zeroCells]
      exact ⟨k * 3 + 1, List.getElem?_range (by omega), by rw [show (k * 3 + 1) % 3 = 1 by omega]; rfl⟩
    · rw [h, g3]; simp [Builtin.zeroCells]
      exact ⟨k * 3 + 2, List.getElem?_range (by omega), by rw [show (k * 3 + 2) % 3 = 2 by omega]; rfl⟩
  · rw [List.getElem?_eq_none (by simp [Builtin.zeroCells]; omega), List.getElem?_eq_none (by rw [prC_length, List.length_replicate]; omega)]
section
variable {w : World} {p : Pl} {x : RN}
theorem XW.setPO {w' : World} (h : XW w p x) {ps : List Pr} (hl : ps.length = x.ps.length) (hb : w'.heap[p.nb]? = some (.cells (prC ps).toArray 188 (0, 0))) (ho : Only p.nb w w') : XW w' p { x with ps := ps } := by
  obtain ⟨a1, a2, a3, a4⟩ := h.nfar
  obtain ⟨l1, l2, l3, l4⟩ := h.lw.lts
  exact ⟨by rw [ho.block _ h.xlt h.xn]; have := h.node; unfold nodeC at *; rw [hl]; exact this, hb,
    ⟨CtAt.mv h.lw.log (ho.block _ l1 a1.symm) fun k hk => ho.block k (l3 k hk) (fun e => a3 (by rw [hk, e])), Dk.keep h.lw.disk (ho.block _ l2 a2.symm) fun k hk => ho.block k (l4 k hk) (fun e => a4 (by rw [hk, e]))⟩⟩
theorem clear_peers {n ty : Nat} (h : XW w p x) (hn : x.ps.length = n) (hn0 : 0 < n) :
    ∃ w', (Builtin.clear_ #[125] ty #[.slice (some ⟨p.nb, 0, none⟩) n n]).run Tryz.prog w = .ok (.tuple #[]) w' ∧ XW w' p { x with ps := List.replicate n ⟨false, 0, 0⟩ } ∧ Only p.nb w w' := by
  have zl := zeroP n
  obtain ⟨vs, hvs⟩ : ∃ vs, vs = prC (List.replicate n ⟨false, 0, 0⟩) := ⟨_, rfl⟩
  have hvl : vs.length = n * 3 := by rw [hvs, prC_length, List.length_replicate]
  have z1 : ∀ v ∈ vs, v.oneCell' = true := fun v hv => by
    rw [hvs] at hv
    simp only [prC, List.mem_flatMap, List.mem_cons, List.not_mem_nil, or_false] at hv
    obtain ⟨_, _, rfl | rfl | rfl⟩ := hv <;> rfl
  rw [← hvs] at zl
  have hsz : (prC x.ps).toArray.size = n * 3 := by simp [prC_length, hn]
  have hst := run_storeCells_cells (P := Tryz.prog) p.nb 0 vs 0 w (fun j hj => by
    have : j < (prC x.ps).length := by rw [prC_length, hn]; omega
    simp [World.cell?, h.peers, this]) (fun j _ => h.nfree _) z1
  simp only [Nat.add_zero] at hst
  obtain ⟨q1, q2⟩ := setCells_heap vs w p.nb 0 (prC x.ps).toArray 188 h.peers (by rw [hsz, hvl]; omega)
  refine ⟨_, ?_, ?_, q2⟩
  · have hz : ∀ w, (zeroValue 188).run Tryz.prog w = .ok (.agg #[.bool false, .int .u64 0, .int .u64 0]) w := fun w => by
      obtain ⟨i, hi, hz, _, _⟩ := info_parts Tryz.prSl.info
      simp [zeroValue, typeInfo, hi, hz]
    obtain ⟨m, hm'⟩ : ∃ m, n = m + 1 := ⟨n - 1, by omega⟩
    rw [← zl, hm'] at hst
    simp only [hm', Builtin.clear_, List.getElem?_toArray, List.getElem?_cons_zero, Sem.run_bind, Sem.run_pure, Result.andThen_ok, run_underlying Tryz.underlying125, hz, hst]
    rw [← zl, hm']
  · refine h.setPO (by rw [List.length_replicate, hn]) ?_ q2
    rw [q1]
    have e : (List.take 0 (prC x.ps).toArray.toList ++ vs ++ List.drop (0 + vs.length) (prC x.ps).toArray.toList) = vs := by
      rw [List.drop_eq_nil_of_le (by simp [prC_length, hn, hvl])]; simp
    rw [e, hvs]

theorem RN.In.cand {M K : Nat} {s : LgS} (h : RN.In { x with s := s, role := 0, leader := 0, pat := 0 } M K) : (x.cand s).In M K := by
  refine ⟨h.s, ?_, ?_, h.term, h.last, h.commit, Nat.zero_le _, fun q hq => ?_⟩
  · show x.id < (List.set _ _ _).length; rw [List.length_set, List.length_replicate]; exact h.id
  · show (List.set _ _ _).length ≤ 9; rw [List.length_set, List.length_replicate]; exact h.n
  · rcases List.mem_or_eq_of_mem_set hq with hq | rfl
    · obtain ⟨_, rfl⟩ := List.mem_replicate.1 hq
      exact ⟨Nat.zero_le _, Nat.zero_le _⟩
    · exact ⟨Nat.zero_le _, Nat.zero_le _⟩
set_option maxRecDepth 100000 in
theorem askAll_prog (h : XW w p x) (hf : x.Fit) : Calls Tryz.prog 117 #[.pointer (some ⟨p.xb, 0, none⟩), .func (.func 122) #[.pointer (some ⟨p.xb, 0, none⟩)] #[]] w fun e w' => (∃ v, e = .returned v ∧ MOwn w' w.heap.size v x.askAll) ∧ Below w.heap.size w w' :=
  toAll_prog h hf.n hf.id 122 eg_ask (fun d => x.askM d) (fun d _ hW _ _ => ask_prog hW hf d)
set_option maxHeartbeats 4000000 in
set_option maxRecDepth 100000 in
theorem stand_prog {M K : Nat} (h : XW w p x) (hi : x.In M K) (hM : M ≤ 80000000) (hK : K ≤ 10000000000000000) : Calls Tryz.prog 72 #[.pointer (some ⟨p.xb, 0, none⟩)] w fun e w' => (∃ v, e = .returned v ∧ MOwn w' w.heap.size v x.stand.2) ∧ XO p w x.stand.1 w' := by
  obtain ⟨m0, m1, m2, m3, m4, m5, m6⟩ := h.cells
  have ES : Hid (x.stand = _) := Lib.hid (Eq.refl x.stand)
  have hmf : ∀ (fn : Fn) (first cap : Array Value) (w : World), (Instr.makeFunc fn first cap).run Tryz.prog w = .ok (.func fn first cap) w := fun _ _ _ _ => rfl
  have KT := Lib.hid (fun q => xterm_prog (h.drewN q))
  have hid := hi.id
  have hn := hi.n
  have htl := hi.term
  have KS := Lib.hid (fun W (hW : XW W p x) => hterm_prog hW.lw ((hi.fit (by omega) (by omega)).s) (x.s.c.term + 1) (x.id : Int) (by unfold m64; omega))
  have HI := Lib.hid ((hi.mono (Nat.le_refl M) (Nat.le_succ K)).setTerm (x.s.c.term + 1) (x.id : Int) 0 0 0 (by omega) (by omega) (by omega) (by omega))
  have H := Lib.hid h
  have HMK := Lib.hid (And.intro hM hK)
  obtain ⟨⟨s2, r⟩, hr⟩ : ∃ S, x.s.setTerm (x.s.c.term + 1) (x.id : Int) = S := ⟨_, rfl⟩
  have EW : Hid (x.stand = if r = 0 then (if (x.cand s2).elected = true then (x.cand s2).win else (x.cand s2, (x.cand s2).askAll)) else ({ x with s := s2 }, [])) := Lib.hid (by unfold RN.stand; rw [hr])
  rw [hr] at KS HI
  dsimp only at KS HI
  have hwt : IntKind.u64.wrap ((x.s.c.term : Int) + 1) = ((x.s.c.term + 1 : Nat) : Int) := by rw [show (x.s.c.term : Int) + 1 = ((x.s.c.term + 1 : Nat) : Int) by omega]; exact u64_nat' _ (by omega)
  obtain ⟨I, hI⟩ : ∃ I, x.id = I := ⟨_, rfl⟩
  obtain ⟨n, hnn⟩ : ∃ n, x.ps.length = n := ⟨_, rfl⟩
  obtain ⟨T1, hT1⟩ : ∃ T1, x.s.c.term + 1 = T1 := ⟨_, rfl⟩
  obtain ⟨T, hT⟩ : ∃ T, x.s.c.term = T := ⟨_, rfl⟩
  rw [hI] at m0 hid KS
  rw [hnn] at m6 hid hn
  rw [hT1] at KS hwt
  rw [hT] at KT hwt
  have HII := Lib.hid hI
  have HN := Lib.hid hnn
  clear h hi hr hI hnn hT1 hT htl hM hK m2 m3 m4 m5 ES
  go_enter Tryz.func72, Tryz.ntmps72
  go_wp2_with fail
  go_region_held3 (fun X => X.cell? ⟨p.xb, 0, none⟩ = some (.int .i64 (I : Int)) ∧ X.cell? ⟨p.xb, 1, none⟩ = some (.pointer (some ⟨p.lb, 0, none⟩)))
    (first | exact ⟨m0, m1⟩ | exact hcs)
    (first
      | (go_at_call 28; refine (KT.out 1).mono ?_; rintro e w4 ⟨rfl, rfl⟩)
      | (go_at_call 119; refine (KS.out _ (H.out.drewN 1)).mono ?_; rintro e w5 ⟨rfl, ho5⟩; have hx5 := XO.get (XO.ofLog (H.out.drewN 1) ho5); obtain ⟨v5, dv5, hp5, hc5⟩ := hx5; have hcs : w5.cell? ⟨p.xb, 0, none⟩ = some (.int .i64 (I : Int)) ∧ w5.cell? ⟨p.xb, 1, none⟩ = some (.pointer (some ⟨p.lb, 0, none⟩)) := And.intro (HII.out ▸ hp5.cells.1) hp5.cells.2.1))
  have HC5 := Lib.hid ((XCh.ofBelow p ((Same.of w 1).below _)).trans hc5)
  have HX5 := Lib.hid hp5
  clear hp5 hc5 ho5 hcs m0 m1 m6 KT KS hwt
  by_cases hr0 : r = 0
  · subst hr0
    rw [if_pos rfl] at EW
    obtain ⟨p5, hp5⟩ : ∃ p5 : Pl, { p with v := v5, dv := dv5 } = p5 := ⟨_, rfl⟩
    have HX : Hid (p5.xb = p.xb ∧ p5.nb = p.nb) := Lib.hid (by rw [← hp5]; exact ⟨rfl, rfl⟩)
    rw [hp5] at HX5 HC5
    clear hp5
    obtain ⟨c0, c1, c2, c3, c4, c5, c6⟩ := HX5.out.cells
    have z2 := HX5.out.free 2
    have z3 := HX5.out.free 3
    have z5 := HX5.out.free 5
    have h6 := ((HX5.out.setRole 1).setLeader (-1)).setPat0
    have hc6 := ((XCh.setX p5 w5 2 (.int .i64 1)).trans (XCh.setX p5 _ 3 (.int .i64 (-1)))).trans (XCh.setX p5 _ 5 (.int .i64 0))
    obtain ⟨W7, hrun, hx7, ho7⟩ := clear_peers (n := n) (ty := 0) h6 HN.out (by omega)
    have hc7 := hc6.trans (XCh.onlyP p5 ho7)
    obtain ⟨d0, _, _, _, _, _, d6⟩ := hx7.cells
    obtain ⟨b0, _, _⟩ := hx7.peer (i := I) (q := ⟨false, 0, 0⟩) (by simp [hid])
    have y0 := hx7.nfree (I * 3)
    have hv8 := hx7.setV (i := I) (q := ⟨false, 0, 0⟩) (by simp [hid]) true
    dsimp only at c0 c1 c2 c3 c4 c5 c6 d0 d6 b0
    rw [HX.out.1] at c0 c2 c3 c5 c6 z2 z3 z5 d0 d6 hrun
    rw [HX.out.2] at c6 d6 hrun b0 y0
    rw [HN.out] at c6
    rw [List.length_replicate] at d6
    rw [HII.out] at c0 d0
    have HV8 : Hid (∀ m, XW ((W7.drewN m).setCell ⟨p.nb, I * 3, none⟩ (.bool true)) p5 (x.cand s2)) := Lib.hid (fun m => by
      have h8 := (hx7.drewN m).setV (i := I) (q := ⟨false, 0, 0⟩) (by simp [hid]) true
      rw [HX.out.2] at h8
      have e : x.cand s2 = ({ x with s := s2, role := 1, leader := -1, pat := 0, ps := (List.replicate n ⟨false, 0, 0⟩).set I ⟨true, 0, 0⟩ } : RN) := by rw [← HN.out, ← HII.out]; rfl
      rw [e]
      exact h8)
    have HC7 := Lib.hid (HC5.out.trans hc7)
    clear h6 hc6 hc7 hx7 ho7 hv8 c1 c4
    go_wp2_with fail
    go_region
    obtain ⟨W8, hW8⟩ : ∃ W8, W8 = (W7.setCell ⟨p.nb, I * 3, none⟩ (.bool true)).drew := ⟨_, rfl⟩
    have hx8 : XW W8 p5 (x.cand s2) := by rw [hW8]; exact (HV8.out 0).later ((Same.refl _).drew.below _)
    have hc8 : XCh p w W8 p5 := by
      rw [hW8]
      have := XCh.setP p5 W7 (I * 3) (.bool true)
      rw [HX.out.2] at this
      exact (HC7.out.trans this).trans (XCh.ofBelow p5 ((Same.refl _).drew.below _))
    rw [← hW8]
    have hic := HI.out.cand
    have hM := HMK.out
    have KE := Lib.hid (elected_prog hx8 hic.n)
    have KW := Lib.hid (fun W (hW : XW W p5 (x.cand s2)) => win_prog hW hic (by omega) (by omega))
    have KQ := Lib.hid (fun W (hW : XW W p5 (x.cand s2)) => askAll_prog hW (hic.fit (by omega) (by omega)))
    rw [HX.out.1] at KE KW KQ
    have HX8 := Lib.hid hx8
    have HC8 := Lib.hid hc8
    clear hx8 hc8 hic hM hW8 c0 c2 c3 c5 c6 z2 z3 z5 hrun d0 d6 b0 y0 HV8 HC7
    obtain ⟨xc, hxc⟩ : ∃ xc, x.cand s2 = xc := ⟨_, rfl⟩
    rw [hxc] at KE KW KQ HX8 EW
    obtain ⟨el, hel⟩ : ∃ el, xc.elected = el := ⟨_, rfl⟩
    rw [hel] at KE EW
    clear hxc hel
    go_wp2_with fail
    refine KE.out.mono ?_
    rintro e w9 ⟨rfl, hb9⟩
    have HX9 := Lib.hid (HX8.out.later hb9)
    have HC9 := Lib.hid (HC8.out.trans (XCh.ofBelow p5 hb9))
    clear hb9 KE
    cases el
    · have EW2 : Hid (x.stand = (xc, xc.askAll)) := Lib.hid (by rw [EW.out]; rfl)
      have K2 := Lib.hid (KQ.out _ HX9.out)
      clear EW KW KQ
      go_wp2_with fail
      refine K2.out.mono ?_
      rintro e w10 ⟨⟨v, rfl, hv⟩, hb10⟩
      have HV := Lib.hid (hv.base HC9.out.size)
      have HX10 := Lib.hid (HX9.out.later hb10)
      have HC10 := Lib.hid (HC9.out.trans (XCh.ofBelow p5 hb10))
      clear hv hb10 K2
      go_wp2_with fail
      go_ret
      rw [EW2.out]
      exact ⟨⟨_, rfl, HV.out⟩, XO.of HX10.out HC10.out⟩
    · have EW2 : Hid (x.stand = xc.win) := Lib.hid (by rw [EW.out]; rfl)
      have K2 := Lib.hid (KW.out _ HX9.out)
      clear EW KW KQ
      go_wp2_with fail
      refine K2.out.mono ?_
      rintro e w10 ⟨⟨v, rfl, hv⟩, ho10⟩
      have HV := Lib.hid (hv.base HC9.out.size)
      have HO10 := Lib.hid (XO.trans HC9.out ho10)
      clear hv ho10 K2
      go_wp2_with fail
      go_ret
      rw [EW2.out]
      exact ⟨⟨_, rfl, HV.out⟩, HO10.out⟩
  · rw [if_neg hr0] at EW
    have hrI : (r != 0) = true := by simp [hr0]
    clear hr0
    go_wp2_with fail
    go_ret
    rw [EW.out]
    exact ⟨⟨_, rfl, MOwn.nil _ _⟩, XO.of HX5.out HC5.out⟩
end
end Go.Proofs.YtflkdgghpmhbgaaGreat
namespace Go.Proofs.YtflkdgghpmhbgaaGreat
open Go.RowKit

def RN.join (x : RN) (t : Nat) : RN × Bool :=
  if (x.s.setTerm t (-1)).2 = 0 then ({ x with s := (x.s.setTerm t (-1)).1, role := 0, leader := -1 }, true) else ({ x with s := (x.s.setTerm t (-1)).1 }, false)
def RN.wait (x : RN) : RN := { x.down with pat := x.pat + 1 }
def RN.beat (x : RN) : RN := { x.down with pat := 0 }
def RN.tick (x : RN) : RN × List Mg :=
  if (x.s.dn || x.s.d.dn) = true then (x.down, [])
  else if x.role = 2 then (if 3 ≤ x.pat + 1 then (x.beat, x.beat.feedAll) else (x.wait, []))
  else if x.limit ≤ x.pat + 1 then x.wait.stand else (x.wait, [])
section
variable {w : World} {p : Pl} {x : RN} {M K : Nat}
theorem RN.In.wait (h : x.In M K) (hp : x.pat ≤ 900000000) : x.wait.In M K := ⟨h.s.down, h.id, h.n, h.term, h.last, h.commit, by show x.pat + 1 ≤ _; omega, h.ps⟩
theorem RN.In.beat (h : x.In M K) : x.beat.In M K := ⟨h.s.down, h.id, h.n, h.term, h.last, h.commit, Nat.zero_le _, h.ps⟩
set_option maxHeartbeats 2000000 in
set_option maxRecDepth 100000 in
theorem join_prog (h : XW w p x) (hf : x.Fit) (t : Nat) (ht : t < m64) : Calls Tryz.prog 73 #[.pointer (some ⟨p.xb, 0, none⟩), .int .u64 (t : Int)] w fun e w' => e = .returned (.bool (x.join t).2) ∧ XO p w (x.join t).1 w' := by
  obtain ⟨m0, m1, m2, m3, m4, m5, m6⟩ := h.cells
  have KS := Lib.hid (hterm_prog h.lw hf.s t (-1) ht)
  have H := Lib.hid h
  obtain ⟨⟨s2, r⟩, hr⟩ : ∃ S, x.s.setTerm t (-1) = S := ⟨_, rfl⟩
  have EW : Hid (x.join t = if r = 0 then ({ x with s := s2, role := 0, leader := -1 }, true) else ({ x with s := s2 }, false)) := Lib.hid (by unfold RN.join; rw [hr])
  rw [hr] at KS
  dsimp only at KS
  clear h hf ht hr m0 m2 m3 m4 m5 m6
  go_enter Tryz.func73, Tryz.ntmps73
  go_wp2_with fail
  refine KS.out.mono ?_
  rintro e w5 ⟨rfl, ho5⟩
  have hx5 := XO.get (XO.ofLog H.out ho5)
  obtain ⟨v5, dv5, hp5, hc5⟩ := hx5
  have HC5 := Lib.hid hc5
  have HX5 := Lib.hid hp5
  by_cases hr0 : r = 0
  · subst hr0
    rw [if_pos rfl] at EW
    obtain ⟨c0, c1, c2, c3, c4, c5, c6⟩ := hp5.cells
    have z2 := hp5.free 2
    have z3 := hp5.free 3
    dsimp only at c2 c3 z2 z3
    have HX6 := Lib.hid ((hp5.setRole 0).setLeader (-1))
    have HC6 := Lib.hid (hc5.trans ((XCh.setX _ w5 2 (.int .i64 0)).trans (XCh.setX _ _ 3 (.int .i64 (-1)))))
    clear hp5 hc5 ho5 c0 c1 c4 c5 c6 KS m1
    go_wp2_with fail
    go_ret
    rw [EW.out]
    exact ⟨rfl, XO.of HX6.out HC6.out⟩
  · rw [if_neg hr0] at EW
    have hrI : (r != 0) = true := by simp [hr0]
    clear hp5 hc5 ho5 KS m1 hr0
    go_wp2_with fail
    go_ret
    rw [EW.out]
    exact ⟨rfl, XO.of HX5.out HC5.out⟩
set_option maxHeartbeats 4000000 in
set_option maxRecDepth 100000 in
theorem tick_prog (h : XW w p x) (hi : x.In M K) (hp : x.pat ≤ 900000000) (hM : M ≤ 80000000) (hK : K ≤ 10000000000000000) : Calls Tryz.prog 22 #[.pointer (some ⟨p.xb, 0, none⟩)] w fun e w' => (∃ v, e = .returned v ∧ MOwn w' w.heap.size v x.tick.2) ∧ XO p w x.tick.1 w' := by
  have KD := Lib.hid (xdown_prog h)
  have EW : Hid (x.tick = if (x.s.dn || x.s.d.dn) = true then (x.down, []) else if x.role = 2 then (if 3 ≤ x.pat + 1 then (x.beat, x.beat.feedAll) else (x.wait, [])) else if x.limit ≤ x.pat + 1 then x.wait.stand else (x.wait, [])) := Lib.hid rfl
  obtain ⟨dn, hdn⟩ : ∃ dn, (x.s.dn || x.s.d.dn) = dn := ⟨_, rfl⟩
  rw [hdn] at EW KD
  have HI := Lib.hid hi
  have HMK := Lib.hid (And.intro hM hK)
  have HP := Lib.hid hp
  have hpI : (x.pat : Int) ≤ 900000000 := by omega
  have hp0 : (0 : Int) ≤ (x.pat : Int) := by omega
  clear h hi hdn hM hK hp
  cases dn
  · rw [if_neg (by simp)] at EW
    go_enter Tryz.func22, Tryz.ntmps22
    go_wp2_with fail
    refine KD.out.mono ?_
    rintro e w1 ⟨rfl, hx1, hc1⟩
    obtain ⟨c0, c1, c2, c3, c4, c5, c6⟩ := hx1.cells
    have z5 := hx1.free 5
    dsimp only [RN.down] at c2 c5
    have HX2 : Hid (XW (w1.setCell ⟨p.xb, 5, none⟩ (.int .i64 ((x.pat : Int) + 1))) p x.wait) := Lib.hid (hx1.setPat (x.pat + 1))
    have HX3 : Hid (XW ((w1.setCell ⟨p.xb, 5, none⟩ (.int .i64 ((x.pat : Int) + 1))).setCell ⟨p.xb, 5, none⟩ (.int .i64 0)) p x.beat) := Lib.hid ((hx1.setPat (x.pat + 1)).setPat0)
    have HC2 := Lib.hid (hc1.trans (XCh.setX p w1 5 (.int .i64 ((x.pat : Int) + 1))))
    have HC3 := Lib.hid ((hc1.trans (XCh.setX p w1 5 (.int .i64 ((x.pat : Int) + 1)))).trans (XCh.setX p _ 5 (.int .i64 0)))
    clear hx1 hc1 KD c0 c1 c3 c4 c6
    by_cases hr : x.role = 2
    · rw [if_pos hr] at EW
      have hrI : (x.role == 2) = true := by simp [hr]
      by_cases hpp : 3 ≤ x.pat + 1
      · have EW2 : Hid (x.tick = (x.beat, x.beat.feedAll)) := Lib.hid (by rw [EW.out, if_pos hpp])
        have hppI : decide ((3 : Int) ≤ (x.pat : Int) + 1) = true := decide_eq_true (by omega)
        have K2 := Lib.hid (feedAll_prog HX3.out (HI.out.beat.fit (by have := HMK.out; omega) (by have := HMK.out; omega)))
        clear hpp EW
        go_wp2_with fail
        refine K2.out.mono ?_
        rintro e w4 ⟨⟨v, rfl, hv⟩, hb4⟩
        have HV := Lib.hid (hv.base HC3.out.size)
        have HX4 := Lib.hid (HX3.out.later hb4)
        have HC4 := Lib.hid (HC3.out.trans (XCh.ofBelow p hb4))
        clear hv hb4 K2
        go_wp2_with fail
        go_ret
        rw [EW2.out]
        exact ⟨⟨_, rfl, HV.out⟩, XO.of HX4.out HC4.out⟩
      · have EW2 : Hid (x.tick = (x.wait, [])) := Lib.hid (by rw [EW.out, if_neg hpp])
        have hppI : decide ((3 : Int) ≤ (x.pat : Int) + 1) = false := decide_eq_false (by omega)
        have hrN : (x.role != 2) = false := by simp [hr]
        clear hpp EW HX3 HC3
        go_wp2_with fail
        go_quiet (fail)
        go_wp2_with fail
        go_ret
        rw [EW2.out]
        exact ⟨⟨_, rfl, MOwn.nil _ _⟩, XO.of (HX2.out.later ((Same.of _ _).below _)) (HC2.out.trans (XCh.ofBelow p ((Same.of _ _).below _)))⟩
    · rw [if_neg hr] at EW
      have hrI : (x.role == 2) = false := by simp [hr]
      have hrN : (x.role != 2) = true := by simp [hr]
      have KL := Lib.hid (fun q => quietS (limit_prog (HX2.out.drewN q) ((HI.out.wait HP.out).fit (by have := HMK.out; omega) (by have := HMK.out; omega))))
      have hlim : x.wait.limit = x.limit := rfl
      rw [hlim] at KL
      obtain ⟨L, hL⟩ : ∃ L, x.limit = L := ⟨_, rfl⟩
      rw [hL] at KL EW
      clear hL hlim HX3 HC3 hr
      by_cases hpp : L ≤ x.pat + 1
      · have EW2 : Hid (x.tick = x.wait.stand) := Lib.hid (by rw [EW.out, if_pos hpp])
        have hppI : decide ((L : Int) ≤ (x.pat : Int) + 1) = true := decide_eq_true (by omega)
        have KS := Lib.hid (fun q => stand_prog (HX2.out.drewN q) (HI.out.wait HP.out) HMK.out.1 HMK.out.2)
        clear hpp EW
        go_wp2_with fail
        go_quiet ((go_at_call 71; exact KL.out _))
        go_wp2_with fail
        refine (KS.out _).mono ?_
        rintro e w4 ⟨⟨v, rfl, hv⟩, ho4⟩
        have HV := Lib.hid (hv.base (show w.heap.size ≤ _ from HC2.out.size))
        have HO4 := Lib.hid (XO.trans (HC2.out.trans (XCh.ofBelow p ((Same.of _ _).below _))) ho4)
        clear hv ho4 KS KL
        go_wp2_with fail
        go_ret
        rw [EW2.out]
        exact ⟨⟨_, rfl, HV.out⟩, HO4.out⟩
      · have EW2 : Hid (x.tick = (x.wait, [])) := Lib.hid (by rw [EW.out, if_neg hpp])
        have hppI : decide ((L : Int) ≤ (x.pat : Int) + 1) = false := decide_eq_false (by omega)
        clear hpp EW
        go_wp2_with fail
        go_quiet ((go_at_call 71; exact KL.out _))
        go_wp2_with fail
        go_ret
        rw [EW2.out]
        exact ⟨⟨_, rfl, MOwn.nil _ _⟩, XO.of (HX2.out.later ((Same.of _ _).below _)) (HC2.out.trans (XCh.ofBelow p ((Same.of _ _).below _)))⟩
  · rw [if_pos rfl] at EW
    go_enter Tryz.func22, Tryz.ntmps22
    go_wp2_with fail
    refine KD.out.mono ?_
    rintro e w1 ⟨rfl, hx1, hc1⟩
    have HX1 := Lib.hid hx1
    have HC1 := Lib.hid hc1
    clear hx1 hc1 KD
    go_wp2_with fail
    go_ret
    rw [EW.out]
    exact ⟨⟨_, rfl, MOwn.nil _ _⟩, XO.of HX1.out HC1.out⟩
end
end Go.Proofs.YtflkdgghpmhbgaaGreat
