/- Arguments: slices of bools. -/
import Derived.Test.YtpamhgdkblabnaaGreatKL
import Derived.Test.YtpamhgdkblabnaaGreatKM
import Derived.Maps.OwnSet
import Derived.ProofKit
import Derived.ReadAgain
import Derived.ChangeStays
import Derived.ChangeSlices
import Derived.Deep.SlicePairs
import Derived.Below
import Derived.ChangeMaps5
import Derived.Deep.Slices
namespace Go.Proofs.YtpamhgdkblabnaaGreat
open Go.RowKit Go.Maps

/-- The node that stands in term 1, of n. -/
structure Cnd (x : RN) (n : Nat) : Prop where
  id : x.id = 0
  len : x.ps.length = n
  role : x.role = 1
  good : x.s.Free ∧ x.s.Sure ∧ x.s.c = awkC1
  inn : x.In 1000 10
/-- .. or that won. -/
structure Won (x : RN) (n : Nat) : Prop where
  role : x.role = 2
  term : x.s.c.term = 1
  vote : x.s.c.vote = 0
def wmsg (who : Nat) (b : Bool) : Mg := ⟨1, (who : Int), 0, 1, 0, 0, 0, b, [], ⟨#[]⟩⟩
theorem led_c (x : RN) : x.led.s = x.s := rfl
theorem Cnd.win {x : RN} {n : Nat} (h : Cnd x n) : Won x.win.1 n := by
  obtain ⟨hf, hs, hc⟩ := h.good
  have d2 := add_free (x := x.led) hf hs (by show x.s.c.Ok; rw [hc]; exact awkC1_ok) (by show (bodyL x.s.c).length < _; rw [hc]; decide) (by show x.s.c.base + x.s.c.ents.length < _; rw [hc]; decide) ⟨#[]⟩ (by decide)
  obtain ⟨⟨s2, r⟩, hr⟩ : ∃ S, x.led.addS ⟨#[]⟩ = S := ⟨_, rfl⟩
  rw [hr] at d2
  obtain rfl : r = 0 := d2.ans
  have hc2 : s2.c = x.s.c.addE x.s.c.lastN [(x.s.c.term, ⟨#[]⟩)] := d2.c
  have e : x.win.1 = (x.led.add ⟨#[]⟩).count := by
    unfold RN.win
    rw [hr, if_neg (show ¬ (0 : Int) = 3 by decide)]
  have ea : (x.led.add ⟨#[]⟩).s = s2 := by unfold RN.add; rw [hr]
  have er : (x.led.add ⟨#[]⟩).role = 2 := rfl
  have ec : ∀ y : RN, y.count.s = y.s ∧ y.count.role = y.role := fun y => by unfold RN.count; split <;> exact ⟨rfl, rfl⟩
  rw [e]
  refine ⟨(ec _).2.trans er, ?_, ?_⟩
  · rw [(ec _).1, ea, hc2, hc]; rfl
  · rw [(ec _).1, ea, hc2, hc]; rfl
theorem got_len (x : RN) (d : Nat) : (x.got d).ps.length = x.ps.length := by show (List.set _ _ _).length = _; rw [List.length_set]
theorem Cnd.got {x : RN} {n d : Nat} (h : Cnd x n) : Cnd (x.got d) n := ⟨h.id, (got_len x d).trans h.len, h.role, h.good, h.inn.got d⟩
theorem Cnd.knows {x : RN} {n : Nat} (h : Cnd x n) : x.s.Knows := h.good.1.knows
theorem Cnd.leave {x : RN} {n who : Nat} {b : Bool} (h : Cnd x n) (hw : who = 0 ∨ n ≤ who) : x.leaves (wmsg who b) = true ∧ x.receive (wmsg who b) = (x, []) := by
  have hl : x.leaves (wmsg who b) = true := by
    unfold RN.leaves
    rcases hw with rfl | hw
    · rw [h.id]; simp [wmsg]
    · rw [h.len]; simp [wmsg]; omega
  exact ⟨hl, by unfold RN.receive; rw [if_pos hl]⟩
theorem Cnd.hear {x : RN} {n who : Nat} {b : Bool} (h : Cnd x n) (h0 : 0 < who) (hw : who < n) : x.leaves (wmsg who b) = false ∧ x.receive (wmsg who b) = x.chosen (wmsg who b) who := by
  have hl : x.leaves (wmsg who b) = false := by
    unfold RN.leaves
    rw [h.id, h.len, h.good.1.up]
    have a1 : decide ((wmsg who b).dst ≠ ((0 : Nat) : Int)) = false := rfl
    have a2 : decide ((wmsg who b).src = ((0 : Nat) : Int)) = false := decide_eq_false (by show ¬ (who : Int) = _; omega)
    have a3 : decide ((wmsg who b).src < 0) = false := decide_eq_false (by show ¬ (who : Int) < 0; omega)
    have a4 : decide ((n : Int) ≤ (wmsg who b).src) = false := decide_eq_false (by show ¬ (n : Int) ≤ (who : Int); omega)
    rw [a1, a2, a3, a4]; rfl
  refine ⟨hl, ?_⟩
  unfold RN.receive
  rw [if_neg (by rw [hl]; simp), if_neg (by rw [h.good.2.2]; show ¬ (1 : Nat) < 1; omega)]
  rfl
theorem Cnd.pick {x : RN} {n who : Nat} {b : Bool} (h : Cnd x n) : x.chosen (wmsg who b) who = if b = true then (if (x.got who).elected = true then (x.got who).win else (x.got who, [])) else (x, []) := by
  have hcs : x.counts (wmsg who b) = b := by
    unfold RN.counts
    rw [h.role, h.good.2.2]
    cases b <;> rfl
  unfold RN.chosen
  rw [hcs]
theorem set_countP {l : List Pr} {d : Nat} {q : Pr} (h : l[d]? = some q) : (l.set d { q with v := true }).countP (·.v) = if q.v = true then l.countP (·.v) else l.countP (·.v) + 1 := by
  induction l generalizing d with
  | nil => cases h
  | cons y l ih =>
    cases d with
    | zero =>
      obtain rfl : y = q := by simpa using h
      simp only [List.set_cons_zero, List.countP_cons]
      cases y.v <;> simp
    | succ d =>
      have := ih (d := d) (by simpa using h)
      simp only [List.set_cons_succ, List.countP_cons, this]
      cases q.v <;> simp <;> omega
theorem got_votes (x : RN) {d : Nat} (hd : d < x.ps.length) : (x.got d).votesN = if (x.ps.getD d ⟨false, 0, 0⟩).v = true then x.votesN else x.votesN + 1 :=
  set_countP (by rw [List.getD_eq_getElem?_getD, List.getElem?_eq_getElem hd]; rfl)
theorem got_v (x : RN) {d : Nat} (hd : d < x.ps.length) (j : Nat) : ((x.got d).ps.getD j ⟨false, 0, 0⟩).v = if j = d then true else (x.ps.getD j ⟨false, 0, 0⟩).v := by
  show ((x.ps.set d _).getD j _).v = _
  rw [List.getD_eq_getElem?_getD, List.getD_eq_getElem?_getD]
  by_cases h : j = d
  · subst h
    rw [List.getElem?_set_self hd, if_pos rfl]; rfl
  · rw [List.getElem?_set_ne (Ne.symm h), if_neg h, List.getD_eq_getElem?_getD]
/-- The map that the law keeps: who voted for it. -/
def VMap (w : World) (mb : Nat) (x : RN) (k : Nat) : Prop := ∃ D : DataW Unit, w.ownsMap Tryz.prog 3 (plainElem Tryz.prog 4) mb k D ∧ Maps.size D = x.votesN ∧ ∀ j : Nat, Maps.has D (.int .i64 (j : Int)) = (x.ps.getD j ⟨false, 0, 0⟩).v
theorem int_law : Keyed Tryz.prog 3 := int_keyed Tryz.underlying3
theorem Cnd.elected {x : RN} {n : Nat} (h : Cnd x n) : x.elected = decide (n < 2 * x.votesN) := by
  unfold RN.elected RN.maj
  rw [h.len]
  congr 1
  exact propext ⟨fun _ => by omega, fun _ => by omega⟩
/-- The node at its tenth tick, one of several. -/
theorem wins_stand {n : Nat} (h2 : 2 ≤ n) (hn : n ≤ 9) : ∃ x, (RN.stand { RN.start 0 n log0 with pat := 10 }).1 = x ∧ Cnd x n ∧ x.elected = false ∧ x.votesN = 1 ∧ ∀ j : Nat, (x.ps.getD j ⟨false, 0, 0⟩).v = decide (j = 0) := by
  obtain ⟨s1, d1, e1⟩ := stand_free (x := { RN.start 0 n log0 with pat := 10 }) log0_free log0_sure fresh_ok (by show (bodyL fresh).length < _; decide) (by show 0 + 1 < _; decide) (by show 0 < 100; decide)
  have hc1 : s1.c = awkC1 := d1.c
  have hin := (start_in (n := n) (by omega) hn 10 (by omega)).stand (by omega) (by omega)
  obtain ⟨xc, hxc⟩ : ∃ xc, RN.cand { RN.start 0 n log0 with pat := 10 } s1 = xc := ⟨_, rfl⟩
  rw [hxc] at e1
  have hps : xc.ps = (List.replicate n ⟨false, 0, 0⟩).set 0 ⟨true, 0, 0⟩ := by
    rw [← hxc]
    show (List.replicate (List.replicate n _).length _).set 0 _ = _
    rw [List.length_replicate]
  have hvn : xc.votesN = 1 := by
    unfold RN.votesN
    rw [hps]
    have this : ((List.replicate n (⟨false, 0, 0⟩ : Pr)).set 0 ⟨true, 0, 0⟩).countP (·.v) = (List.replicate n (⟨false, 0, 0⟩ : Pr)).countP (·.v) + 1 := set_countP (l := List.replicate n (⟨false, 0, 0⟩ : Pr)) (d := 0) (q := ⟨false, 0, 0⟩) (by rw [List.getElem?_replicate, if_pos (by omega)])
    rw [this]
    simp [List.countP_replicate]
  have hlen : xc.ps.length = n := by rw [hps, List.length_set, List.length_replicate]
  have hel : xc.elected = false := by
    unfold RN.elected RN.maj
    rw [hvn, hlen]
    exact decide_eq_false (by omega)
  rw [hel] at e1
  simp only [Bool.false_eq_true, if_false] at e1
  rw [e1] at hin
  refine ⟨xc, by rw [e1], ⟨by rw [← hxc]; rfl, hlen, by rw [← hxc]; rfl, ?_, hin.mono (by omega) (by omega)⟩, hel, hvn, fun j => ?_⟩
  · rw [← hxc]; exact ⟨d1.free, d1.sure, hc1⟩
  · rw [hps, List.getD_eq_getElem?_getD]
    by_cases hj : j = 0
    · subst hj
      rw [List.getElem?_set_self (by rw [List.length_replicate]; omega)]; rfl
    · rw [List.getElem?_set_ne (Ne.symm hj), List.getElem?_replicate]
      simp only [hj, decide_false]
      split <;> rfl
end Go.Proofs.YtpamhgdkblabnaaGreat
namespace Go.Proofs.YtpamhgdkblabnaaGreat
open Go.RowKit Go.Maps

theorem wins_recv {W : World} {p : Pl} {x : RN} {n who : Nat} {b : Bool} (h : XW W p x) (hc : Cnd x n) (hn : n ≤ 9) :
    Calls Tryz.prog 18 #[.pointer (some ⟨p.xb, 0, none⟩), .agg (mgL (wmsg who b) (.slice none 0 0)).toArray] W fun e w' => (∃ v, e = .returned v ∧ MOwn w' W.heap.size v (x.receive (wmsg who b)).2) ∧ XO p W (x.receive (wmsg who b)).1 w' := by
  have hl9 : x.ps.length ≤ 9 := by rw [hc.len]; exact hn
  by_cases hw : who = 0 ∨ n ≤ who
  · exact recv_left h hc.knows hl9 _ _ (hc.leave hw).1
  · obtain ⟨h1, h2⟩ := hc.hear (who := who) (b := b) (by omega) (by omega)
    exact recv_k1 h hc.knows hl9 _ _ h1 (by rw [hc.good.2.2]; show (1 : Nat) ≤ 1; omega) rfl h2
      (fun W' hW _ => chosen_prog hW hc.inn (by omega) (by omega) _ _ who (by rw [hc.len]; omega) rfl)
theorem kept7 {wr w9 : World} {p5 p7 : Pl} {q o B0 g2 o2 : Nat} {v1 v2 : Value} (hc : XCh p5 wr w9 p7) (ho : p5.Off q) (hq : q < wr.heap.size) (hu : p5.Up B0) (hB : B0 ≤ wr.heap.size) (hg : g2 < B0) (c1 : wr.cell? ⟨q, o, none⟩ = some v1) (c2 : wr.cell? ⟨g2, o2, none⟩ = some v2) :
    w9.cell? ⟨q, o, none⟩ = some v1 ∧ w9.cell? ⟨g2, o2, none⟩ = some v2 := by
  refine ⟨?_, ?_⟩
  · rw [World.cell?_of_block (w := wr) (a := ⟨q, o, none⟩) (hc.off ho hq).2]; exact c1
  · rw [World.cell?_of_block (w := wr) (a := ⟨g2, o2, none⟩) ((hc.up hu hB).2.block g2 hg)]; exact c2
theorem XW.grown {w w' : World} {p : Pl} {x : RN} {mb : Nat} (h : XW w p x) (hg : w.grownBy w' (some mb)) (ho : p.Off mb) : XW w' p x := by
  have hb : ∀ k, k < w.heap.size → k ≠ mb → w'.heap[k]? = w.heap[k]? := fun k hk hne => hg.block k hk (fun e => hne (by injection e))
  obtain ⟨l1, l2, l3, l4⟩ := h.lw.lts
  exact ⟨(hb _ h.xlt (Ne.symm ho.xb)).trans h.node, (hb _ h.nlt (Ne.symm ho.nb)).trans h.peers,
    ⟨CtAt.mv h.lw.log (hb _ l1 (Ne.symm ho.lb)) fun k hk => hb k (l3 k hk) (fun e => ho.v (by rw [hk, e])), Dk.keep h.lw.disk (hb _ l2 (Ne.symm ho.db)) fun k hk => hb k (l4 k hk) (fun e => ho.dv (by rw [hk, e]))⟩⟩
theorem int_key (j : Nat) (hj : j ≤ 1000) : keyOf Tryz.prog 3 (.int .i64 (j : Int)) = some (.int .i64 (j : Int)) := keyOf_int_mk Tryz.underlying3 (by simp [Lit.wf, IntKind.min, IntKind.max, IntKind.signed, IntKind.bits]; omega)
theorem bool_val (b : Bool) : plainElem (H := Unit) Tryz.prog 4 (.bool b) = some (.lit (.bool b), []) := plainElem_bool Tryz.underlying4 b
theorem vmap_first (w : World) : ∃ w', (Instr.mapUpdate 75 (.map (some w.heap.size)) (.int .i64 0) (.bool true)).run Tryz.prog (w.alloc (.map #[] 0)) = .ok () w' ∧ Below w.heap.size w w' ∧
    ∃ D : DataW Unit, w'.ownsMap Tryz.prog 3 (plainElem Tryz.prog 4) w.heap.size 1 D ∧ Maps.size D = 1 ∧ ∀ j : Nat, Maps.has D (.int .i64 (j : Int)) = decide (j = 0) := by
  obtain ⟨w', hrun, hown, hg⟩ := (World.ownsMap_made (H := Unit) w Tryz.prog 3 (plainElem Tryz.prog 4)).update int_law Tryz.underlying75 (by decide) (int_key 0 (by omega)) (bool_val true)
  refine ⟨w', hrun, ((Below.refl _ _).alloc (Nat.le_refl _) _).trans ((Below.refl _ (w.alloc (.map #[] 0))).grown hg (by simp) (fun k hk => by cases hk; exact Nat.le_refl _)), _, hown, ?_, fun j => ?_⟩
  · rfl
  · by_cases hj : j = 0
    · subst hj; rfl
    · have hne : (Lit.int .i64 (j : Int)) ≠ .int .i64 ((0 : Nat) : Int) := fun e => by injection e with _ e; omega
      rw [has_put_other hne, decide_eq_false hj]; rfl
theorem VMap.put {w : World} {mb k : Nat} {x : RN} {who : Nat} (h : VMap w mb x k) (hw : who < x.ps.length) (hk : k ≤ 1000) (h9 : who ≤ 1000) :
    ∃ w', (Instr.mapUpdate 75 (.map (some mb)) (.int .i64 (who : Int)) (.bool true)).run Tryz.prog w = .ok () w' ∧ w.grownBy w' (some mb) ∧ VMap w' mb (x.got who) (k + 1) := by
  obtain ⟨D, h1, h2, h3⟩ := h
  obtain ⟨w', hrun, hown, hg⟩ := h1.update int_law Tryz.underlying75 (by unfold maxLen; omega) (int_key who h9) (bool_val true)
  refine ⟨w', hrun, hg, _, hown, ?_, fun j => ?_⟩
  · rw [size_put (h1.tidy int_law), h3 who, h2, got_votes x hw]
  · rw [got_v x hw j]
    by_cases hj : j = who
    · subst hj
      rw [if_pos rfl, has_put_same (h1.isMap) (by trivial)]
    · have hne : (Lit.int .i64 (j : Int)) ≠ .int .i64 (who : Int) := fun e => by injection e with _ e; omega
      rw [has_put_other hne, if_neg hj, h3 j]
theorem VMap.mono {w : World} {mb k k2 : Nat} {x : RN} (h : VMap w mb x k) (hk : k ≤ k2) : VMap w mb x k2 := by
  obtain ⟨D, h1, h2, h3⟩ := h
  exact ⟨D, h1.mono hk, h2, h3⟩
theorem VMap.mv {w w' : World} {mb k : Nat} {x : RN} (h : VMap w mb x k) (hb : w'.heap[mb]? = w.heap[mb]?) : VMap w' mb x k := by
  obtain ⟨D, ⟨es, clock, h1, r⟩, h2, h3⟩ := h
  exact ⟨D, ⟨es, clock, hb.trans h1, r⟩, h2, h3⟩
theorem VMap.lt {w : World} {mb k : Nat} {x : RN} (h : VMap w mb x k) : mb < w.heap.size := by
  obtain ⟨D, h1, _⟩ := h
  exact h1.lt
theorem VMap.len {w : World} {mb k : Nat} {x : RN} (h : VMap w mb x k) (ty : TypeId) : (Builtin.len_ #[75] ty #[.map (some mb)]).run Tryz.prog w = .ok (.int .i64 (x.votesN : Int)) w := by
  obtain ⟨D, h1, h2, _⟩ := h
  have := h1.len (t := 75) (e := 4) Tryz.underlying75 ty
  rw [h2] at this
  exact this
set_option maxHeartbeats 8000000 in
set_option maxRecDepth 100000 in
theorem wins_law (n : Nat) (h2 : 2 ≤ n) (h9 : n ≤ 9) (fa ba : Option Addr) (c L m c2 : Nat) (F : Nat → Nat) (B : Nat → Bool) (w : World) (hL : L ≤ 40) (hm : L ≤ m) (hF : L ≠ 0 → ∃ g o, fa = some ⟨g, o, none⟩ ∧ ∀ i, i < L → w.cell? ⟨g, o + i, none⟩ = some (.int .u8 (F i : Int))) (hFl : ∀ i, i < L → F i ≤ 255) (hB : L ≠ 0 → ∃ g o, ba = some ⟨g, o, none⟩ ∧ ∀ i, i < L → w.cell? ⟨g, o + i, none⟩ = some (.bool (B i))) :
    Calls Tryz.prog 6 #[.int .u8 (n : Int), .slice fa L c, .slice ba m c2] w fun e w' => e = .returned (.bool true) ∧ Below w.heap.size w w' := by
  have KA := Lib.hid (awake_prog w)
  have KS := Lib.hid (fun W => lstart_prog 0 n (by omega) h9 W)
  have b1 : decide ((n : Int) < 2) = false := decide_eq_false (by omega)
  have b2 : decide ((9 : Int) < (n : Int)) = false := decide_eq_false (by omega)
  have b3 : decide ((40 : Int) < (L : Int)) = false := decide_eq_false (by omega)
  have b4 : decide (m < L) = false := decide_eq_false (by omega)
  have hn0 : (0 : Int) ≤ (n : Int) := by omega
  have hnI : (n : Int) ≤ 9 := by omega
  have HF := Lib.hid hF
  have HBB := Lib.hid hB
  have HFL := Lib.hid hFl
  have HN := Lib.hid (And.intro h2 h9)
  have HLM := Lib.hid (And.intro hL hm)
  have hmm := @run_makeMap Tryz.prog
  clear hF hB hFl h2 h9 hL hm
  go_enter Tryz.func6, Tryz.ntmps6
  go_wp2_with fail
  refine KA.out.mono ?_
  rintro e w1 ⟨rfl, hb1⟩
  have HB1 := Lib.hid hb1
  have K1 := Lib.hid (KS.out w1)
  clear hb1 KA KS
  go_wp2_with fail
  refine K1.out.mono ?_
  rintro e w2 ⟨q, p, rfl, hx2, hb2, hoff, hq, hblk, hup⟩
  have HU2 : Hid (p.Up w1.heap.size) := Lib.hid ⟨hup _ (.inl rfl), hup _ (.inr (.inl rfl)), hup _ (.inr (.inr (.inl rfl))), hup _ (.inr (.inr (.inr (.inl rfl)))), fun k hk => hup _ (.inr (.inr (.inr (.inr (.inl hk))))), fun k hk => hup _ (.inr (.inr (.inr (.inr (.inr hk)))))⟩
  obtain ⟨xb, hxb⟩ : ∃ xb, p.xb = xb := ⟨_, rfl⟩
  obtain ⟨lb, hlb⟩ : ∃ lb, p.lb = lb := ⟨_, rfl⟩
  have hq1 : w2.cell? ⟨q, 1, none⟩ = some (.pointer (some ⟨xb, 0, none⟩)) := by simp [World.cell?, hblk, hxb]
  have HS2 : Hid (XW w2 p (RN.start 0 n log0) ∧ p.xb = xb ∧ p.lb = lb ∧ p.Off q ∧ p.Up w1.heap.size ∧ Below w1.heap.size w1 w2 ∧ q < w2.heap.size ∧ w2.cell? ⟨q, 1, none⟩ = some (.pointer (some ⟨xb, 0, none⟩))) := Lib.hid ⟨hx2, hxb, hlb, hoff, HU2.out, hb2, block_lt hblk, hq1⟩
  clear hx2 hb2 hoff hq hblk hup K1 HU2 hq1 hxb hlb
  go_wp2_with fail
  go_loopw [41] (fun i wr => ∃ (k : Nat) (p : Pl), k ≤ 9 ∧ i = .int .i64 (k : Int) ∧ Hid (XW wr p { RN.start 0 n log0 with pat := k } ∧ p.xb = xb ∧ p.lb = lb ∧ p.Off q ∧ p.Up w1.heap.size ∧ Below w1.heap.size w1 wr ∧ q < wr.heap.size ∧ wr.cell? ⟨q, 1, none⟩ = some (.pointer (some ⟨xb, 0, none⟩)))) (fun i _ => 25 - (intOf i).toNat)
  case atStart => exact ⟨0, p, by omega, rfl, HS2⟩
  case round =>
    clear HS2
    obtain ⟨k, p, hk, rfl, HR⟩ := hrel
    have hkI : (k : Int) < 25 := by omega
    have hk0 : (0 : Int) ≤ (k : Int) := by omega
    have hin := start_in (n := n) (by have := HN.out; omega) HN.out.2 k (by omega)
    have KT := Lib.hid (tick_prog HR.out.1 hin (by show k ≤ _; omega) (by omega) (by omega))
    rw [HR.out.2.1] at KT
    have q1 := HR.out.2.2.2.2.2.2.2
    clear hin
    go_wp2_with fail
    refine KT.out.mono ?_
    rintro e w4 ⟨⟨u, rfl, _⟩, p4, hx4, hc4⟩
    obtain ⟨hu4, hb4⟩ := hc4.up HR.out.2.2.2.2.1 HR.out.2.2.2.2.2.1.size
    obtain ⟨ho4, hk4⟩ := hc4.off HR.out.2.2.2.1 HR.out.2.2.2.2.2.2.1
    have q4 : w4.cell? ⟨q, 1, none⟩ = some (.pointer (some ⟨xb, 0, none⟩)) := by rw [World.cell?_of_block (w := wr) (a := ⟨q, 1, none⟩) hk4]; exact q1
    have HP4 := Lib.hid (And.intro (hc4.xb.trans HR.out.2.1) (hc4.lb.trans HR.out.2.2.1))
    have HQ4 := Lib.hid (show p4.Off q ∧ p4.Up w1.heap.size ∧ Below w1.heap.size w1 w4 ∧ q < w4.heap.size from ⟨ho4, hu4, HR.out.2.2.2.2.2.1.trans hb4, Nat.lt_of_lt_of_le HR.out.2.2.2.2.2.2.1 hc4.size⟩)
    have HX4 := Lib.hid hx4
    have KR := Lib.hid (role_prog hx4)
    rw [HP4.out.1] at KR
    clear hx4 hc4 hu4 hb4 ho4 hk4 KT q1
    have hlim : ∀ j, RN.limit { RN.start 0 n log0 with pat := j } = 10 := fun _ => rfl
    by_cases hk9 : k < 9
    · have et : RN.tick { RN.start 0 n log0 with pat := k } = ({ RN.start 0 n log0 with pat := k + 1 }, []) := by
        rw [tick_wait log0_free (by show ¬ (0 : Int) = 2; decide) (by rw [hlim]; show k + 1 < 10; omega)]
      rw [et] at KR HX4
      have er : ({ RN.start 0 n log0 with pat := k + 1 } : RN).role = 0 := rfl
      dsimp only at KR
      rw [show (RN.start 0 n log0).role = 0 from rfl] at KR
      clear et er hlim
      go_wp2_with fail
      refine KR.out.mono ?_
      rintro e w5 ⟨rfl, rfl⟩
      go_wp2_with fail
      go_roundw
      case rel => exact ⟨k + 1, p4, by omega, by go_num, Lib.hid ⟨HX4.out, HP4.out.1, HP4.out.2, HQ4.out.1, HQ4.out.2.1, HQ4.out.2.2.1, HQ4.out.2.2.2, q4⟩⟩
      case measure => simp [intOf]; omega
    · obtain rfl : k = 9 := by omega
      obtain ⟨xc, ex, hcnd, hel, hvn, hvv⟩ := wins_stand HN.out.1 HN.out.2
      have et : (RN.tick { RN.start 0 n log0 with pat := 9 }).1 = xc := by
        rw [tick_stand log0_free (by show ¬ (0 : Int) = 2; decide) (by rw [hlim]; exact Nat.le_refl 10)]
        exact ex
      rw [et] at KR HX4
      rw [hcnd.role] at KR
      have HC := Lib.hid (show Cnd xc n ∧ xc.elected = false from ⟨hcnd, hel⟩)
      have HV := Lib.hid (And.intro hvn hvv)
      clear ex et hcnd hel hvn hvv hlim hk9
      go_wp2_with fail
      refine KR.out.mono ?_
      rintro e w5 ⟨rfl, rfl⟩
      obtain ⟨W6, hrun, hb6, D, hD1, hD2, hD3⟩ := vmap_first w5
      have HV6 : Hid (VMap W6 w5.heap.size xc 1) := Lib.hid ⟨D, hD1, by rw [hD2, HV.out.1], fun j => by rw [hD3, HV.out.2]⟩
      have q6 := cellB hb6 q4
      obtain ⟨mb, hmb⟩ : ∃ mb, w5.heap.size = mb := ⟨_, rfl⟩
      have HS6 : Hid (XW W6 p4 xc ∧ p4.xb = xb ∧ p4.lb = lb ∧ p4.Off q ∧ p4.Off mb ∧ p4.Up w1.heap.size ∧ Below w1.heap.size w1 W6 ∧ q < W6.heap.size ∧ W6.cell? ⟨q, 1, none⟩ = some (.pointer (some ⟨xb, 0, none⟩)) ∧ ((Cnd xc n ∧ xc.elected = false ∧ VMap W6 mb xc 1) ∨ Won xc n)) := Lib.hid
        ⟨HX4.out.later hb6, HP4.out.1, HP4.out.2, HQ4.out.1, by rw [← hmb]; exact HX4.out.low.off (Nat.le_refl _), HQ4.out.2.1, HQ4.out.2.2.1.trans (hb6.mono HQ4.out.2.2.1.size), Nat.lt_of_lt_of_le HQ4.out.2.2.2 hb6.size, q6, .inl ⟨HC.out.1, HC.out.2, by rw [← hmb]; exact HV6.out⟩⟩
      have HMB : Hid (w1.heap.size ≤ mb ∧ q ≠ mb) := Lib.hid ⟨by rw [← hmb]; exact HQ4.out.2.2.1.size, by rw [← hmb]; exact Nat.ne_of_lt HQ4.out.2.2.2⟩
      rw [hmb] at hrun
      have HMB2 := Lib.hid hmb
      clear hD1 hD2 hD3 hb6 q6 HV6 HV HC HX4 HP4 HQ4 HR
      clear q4 hk hkI hk0
      go_wp2_with fail
      clear hrun hmb
      go_loopw [59] (fun i wi => ∃ (k : Nat) (p : Pl) (x : RN), k ≤ L ∧ i = .int .i64 (k : Int) ∧ Hid (XW wi p x ∧ p.xb = xb ∧ p.lb = lb ∧ p.Off q ∧ p.Off mb ∧ p.Up w1.heap.size ∧ Below w1.heap.size w1 wi ∧ q < wi.heap.size ∧ wi.cell? ⟨q, 1, none⟩ = some (.pointer (some ⟨xb, 0, none⟩)) ∧ ((Cnd x n ∧ x.elected = false ∧ VMap wi mb x (k + 1)) ∨ Won x n))) (fun i _ => L - (intOf i).toNat)
      case atStart => exact ⟨0, p4, xc, by omega, rfl, HS6⟩
      case round =>
        clear HS6
        obtain ⟨k, p5, x, hk, rfl, HR⟩ := hrel
        have q1 := HR.out.2.2.2.2.2.2.2.2.1
        have HX := Lib.hid HR.out.1
        have HPX := Lib.hid (show p5.xb = xb ∧ p5.lb = lb from ⟨HR.out.2.1, HR.out.2.2.1⟩)
        have HBX := Lib.hid HR.out.2.2.2.2.2.2.1
        have HTV : Hid (x.s.c.term = 1 ∧ x.s.c.vote = 0) := Lib.hid (by
          rcases HR.out.2.2.2.2.2.2.2.2.2 with h | h
          · rw [h.1.good.2.2]; exact ⟨rfl, rfl⟩
          · exact ⟨h.term, h.vote⟩)
        by_cases hlt : k < L
        · have hkI : (k : Int) < (L : Int) := by omega
          have hk0 : (0 : Int) ≤ (k : Int) := by omega
          have hk40 : (k : Int) ≤ 40 := by have := HLM.out; omega
          have HBW := Lib.hid (HB1.out.trans (HBX.out.mono HB1.out.size))
          obtain ⟨g, o, rfl, hFc⟩ := HF.out (by omega)
          obtain ⟨g2, o2, rfl, hBc⟩ := HBB.out (by omega)
          have hf := cellB HBW.out (hFc k hlt)
          have hbk := cellB HBW.out (hBc k hlt)
          have HBC := Lib.hid (hBc k hlt)
          clear hFc hBc
          have hkm : (k : Int) < (m : Int) := by have := HLM.out; omega
          have hF255 := HFL.out k hlt
          have KR := Lib.hid (role_prog HX.out)
          rw [HPX.out.1] at KR
          rcases HR.out.2.2.2.2.2.2.2.2.2 with hcn | hwn
          · have HCN := Lib.hid hcn
            rw [hcn.1.role] at KR
            obtain ⟨f, hff⟩ : ∃ f, F k = f := ⟨_, rfl⟩
            obtain ⟨b, hbb⟩ : ∃ b, B k = b := ⟨_, rfl⟩
            rw [hff] at hf hF255
            rw [hbb] at hbk
            obtain ⟨n1, hn1⟩ : ∃ n1, n1 = n + 1 := ⟨_, rfl⟩
            obtain ⟨who, hwho⟩ : ∃ who, who = f % n1 := ⟨_, rfl⟩
            have hw9 : who ≤ n := by have := HN.out; have := Nat.mod_lt f (show 0 < n1 by omega); omega
            have HW9 := Lib.hid hw9
            have e1 : IntKind.u8.wrap ((n : Int) + 1) = (n1 : Int) := by
              have h9 := HN.out.2
              rw [show (n : Int) + 1 = (n1 : Int) by omega]
              simp [IntKind.wrap, IntKind.signed, IntKind.bits]; omega
            have e2 : (f : Int).tmod (n1 : Int) = (who : Int) := by rw [Int.tmod_eq_emod_of_nonneg (by omega), hwho]; rfl
            have e3 : (who : Int).tmod 20 = (who : Int) := by rw [Int.tmod_eq_emod_of_nonneg (by omega)]; have := HN.out; omega
            have e4 : ¬ (n1 : Int) = 0 := by omega
            have hfI : (f : Int) ≤ 255 := by omega
            have hwI : (who : Int) ≤ 9 := by have := HN.out; omega
            have hw0 : (0 : Int) ≤ (who : Int) := by omega
            have KG := Lib.hid (fun j => log_prog (HX.out.drewN j))
            have KT2 := Lib.hid (fun j => xterm_prog (HX.out.drewN j))
            have KC := Lib.hid (fun j => wins_recv (who := who) (b := b) (HX.out.drewN j) hcn.1 HN.out.2)
            rw [HPX.out.1, HPX.out.2] at KG
            rw [HPX.out.2, HTV.out.1] at KT2
            rw [HPX.out.1] at KC
            have HRE : Hid (∃ y, x.receive (wmsg who b) = y) := Lib.hid ⟨_, rfl⟩
            unfold mgL wmsg at KC
            have HG2 : Hid (g2 < w1.heap.size) := Lib.hid (Nat.lt_of_lt_of_le (World.block_lt_of_cell? w _ HBC.out) HB1.out.size)
            have HBK := Lib.hid hbk
            clear hcn hff hbb hn1 hwho hw9 hF255
            go_wp2_with fail
            refine KR.out.mono ?_
            rintro e w6 ⟨rfl, rfl⟩
            go_wp2_with fail
            go_region_held3 (fun X => X.cell? ⟨q, 1, none⟩ = some (.pointer (some ⟨xb, 0, none⟩)) ∧ X.cell? ⟨g2, o2 + k, none⟩ = some (.bool b))
              (first | exact ⟨q1, hbk⟩ | exact hcs)
              (first
                | (go_at_call 22; refine (KG.out 1).mono ?_; rintro e w7 ⟨rfl, rfl⟩)
                | (go_at_call 23; refine (KT2.out 1).mono ?_; rintro e w8 ⟨rfl, rfl⟩)
                | (go_at_call 18; refine (KC.out 1).mono ?_; rintro e w9 ⟨⟨u9, rfl, _⟩, p7, hx7, hc7⟩; have hk9 := kept7 (wr := w6.drewN 1) hc7 HR.out.2.2.2.1 HR.out.2.2.2.2.2.2.2.1 HR.out.2.2.2.2.2.1 HBX.out.size HG2.out q1 hbk; have hcs : w9.cell? ⟨q, 1, none⟩ = some (.pointer (some ⟨xb, 0, none⟩)) ∧ w9.cell? ⟨g2, o2 + k, none⟩ = some (.bool b) := hk9))
            have HP7 := Lib.hid (show p7.xb = xb ∧ p7.lb = lb from ⟨hc7.xb.trans HPX.out.1, hc7.lb.trans HPX.out.2⟩)
            have q7 := hcs.1
            have bk9 := hcs.2
            have hup := hc7.up HR.out.2.2.2.2.2.1 HBX.out.size
            have hoq := hc7.off HR.out.2.2.2.1 HR.out.2.2.2.2.2.2.2.1
            have hom := hc7.off HR.out.2.2.2.2.1 HCN.out.2.2.lt
            have HQ7 := Lib.hid (show p7.Off q ∧ p7.Off mb ∧ p7.Up w1.heap.size ∧ Below w1.heap.size w1 w9 ∧ q < w9.heap.size from ⟨hoq.1, hom.1, hup.1, HBX.out.trans (((Same.of w6 1).below _).trans hup.2), Nat.lt_of_lt_of_le HR.out.2.2.2.2.2.2.2.1 hc7.size⟩)
            have HV9 := Lib.hid (HCN.out.2.2.mv hom.2)
            have hel0 := HCN.out.2.1
            rw [HCN.out.1.elected] at hel0
            have HNE := Lib.hid (of_decide_eq_false hel0)
            clear hup hoq hom hc7 hcs hk9 KC KG KT2 q1 hbk hf e1 e2 e3 e4 hfI hel0
            by_cases hw : who = 0 ∨ n ≤ who
            · have er : x.receive (wmsg who b) = (x, []) := (HCN.out.1.leave hw).2
              have HX7 : Hid (XW w9 p7 x) := Lib.hid (by have h7 : XW w9 p7 (x.receive (wmsg who b)).1 := hx7; rw [er] at h7; exact h7)
              have HVB : Hid (x.votesN ≤ 9) := Lib.hid (by have := HNE.out; have := HN.out; omega)
              clear hx7 er
              by_cases hw0' : who = 0
              · have hA : decide (0 < who) = false := decide_eq_false (by omega)
                clear hw hw0' hw0
                have K8 := Lib.hid (role_prog HX7.out)
                rw [HP7.out.1, HCN.out.1.role] at K8
                have HLN := Lib.hid (fun ty => VMap.len HV9.out ty)
                have hcm : decide ((n : Int) < 2 * (x.votesN : Int)) = false := decide_eq_false (by have := HNE.out; omega)
                obtain ⟨V, hV⟩ : ∃ V, (x.votesN) = V := ⟨_, rfl⟩
                rw [hV] at HLN hcm
                have hVI : (V : Int) ≤ 1000 := by rw [← hV]; have := HVB.out; omega
                have hV0 : (0 : Int) ≤ (V : Int) := by omega
                clear hV
                go_wp2_with fail
                refine K8.out.mono ?_
                rintro e w10 ⟨rfl, rfl⟩
                have hln := HLN.out 3
                have hln2 := HLN.out 0
                go_wp2_with fail
                go_roundw
                case rel => exact ⟨k + 1, p7, _, by omega, by go_num, Lib.hid ⟨HX7.out, HP7.out.1, HP7.out.2, HQ7.out.1, HQ7.out.2.1, HQ7.out.2.2.1, HQ7.out.2.2.2.1, HQ7.out.2.2.2.2, q7, .inl ⟨HCN.out.1, HCN.out.2.1, HV9.out.mono (by omega)⟩⟩⟩
                case measure => simp [intOf]; omega
              · have hA : decide (0 < who) = true := decide_eq_true (by omega)
                have hB : decide (who < n) = false := decide_eq_false (by omega)
                clear hw hw0'
                have K8 := Lib.hid (role_prog HX7.out)
                rw [HP7.out.1, HCN.out.1.role] at K8
                have HLN := Lib.hid (fun ty => VMap.len HV9.out ty)
                have hcm : decide ((n : Int) < 2 * (x.votesN : Int)) = false := decide_eq_false (by have := HNE.out; omega)
                obtain ⟨V, hV⟩ : ∃ V, (x.votesN) = V := ⟨_, rfl⟩
                rw [hV] at HLN hcm
                have hVI : (V : Int) ≤ 1000 := by rw [← hV]; have := HVB.out; omega
                have hV0 : (0 : Int) ≤ (V : Int) := by omega
                clear hV
                go_wp2_with fail
                refine K8.out.mono ?_
                rintro e w10 ⟨rfl, rfl⟩
                have hln := HLN.out 3
                have hln2 := HLN.out 0
                go_wp2_with fail
                go_roundw
                case rel => exact ⟨k + 1, p7, _, by omega, by go_num, Lib.hid ⟨HX7.out, HP7.out.1, HP7.out.2, HQ7.out.1, HQ7.out.2.1, HQ7.out.2.2.1, HQ7.out.2.2.2.1, HQ7.out.2.2.2.2, q7, .inl ⟨HCN.out.1, HCN.out.2.1, HV9.out.mono (by omega)⟩⟩⟩
                case measure => simp [intOf]; omega
            · have er : x.receive (wmsg who b) = x.chosen (wmsg who b) who := (HCN.out.1.hear (by omega) (by omega)).2
              rw [HCN.out.1.pick] at er
              have hA : decide (0 < who) = true := decide_eq_true (by omega)
              have hB : decide (who < n) = true := decide_eq_true (by omega)
              have hlw : who < x.ps.length := by rw [HCN.out.1.len]; omega
              clear hw
              cases b
              · have HX7 : Hid (XW w9 p7 x) := Lib.hid (by have h7 : XW w9 p7 (x.receive (wmsg who false)).1 := hx7; rw [er] at h7; exact h7)
                have HVB : Hid (x.votesN ≤ 9) := Lib.hid (by have := HNE.out; have := HN.out; omega)
                clear hx7 er hlw
                have K8 := Lib.hid (role_prog HX7.out)
                rw [HP7.out.1, HCN.out.1.role] at K8
                have HLN := Lib.hid (fun ty => VMap.len HV9.out ty)
                have hcm : decide ((n : Int) < 2 * ((x.votesN) : Int)) = false := decide_eq_false (by have := HNE.out; omega)
                obtain ⟨V, hV⟩ : ∃ V, (x.votesN) = V := ⟨_, rfl⟩
                rw [hV] at HLN hcm
                have hVI : (V : Int) ≤ 1000 := by rw [← hV]; have := HVB.out; omega
                have hV0 : (0 : Int) ≤ (V : Int) := by omega
                clear hV
                go_wp2_with fail
                refine K8.out.mono ?_
                rintro e w10 ⟨rfl, rfl⟩
                have hln := HLN.out 3
                have hln2 := HLN.out 0
                go_wp2_with fail
                go_roundw
                case rel => exact ⟨k + 1, p7, _, by omega, by go_num, Lib.hid ⟨HX7.out, HP7.out.1, HP7.out.2, HQ7.out.1, HQ7.out.2.1, HQ7.out.2.2.1, HQ7.out.2.2.2.1, HQ7.out.2.2.2.2, q7, .inl ⟨HCN.out.1, HCN.out.2.1, HV9.out.mono (by omega)⟩⟩⟩
                case measure => simp [intOf]; omega
              · have HGC := Lib.hid (HCN.out.1.got (d := who))
                have HVB : Hid ((x.got who).votesN ≤ 20) := Lib.hid (by rw [got_votes x hlw]; have := HNE.out; have := HN.out; split <;> omega)
                obtain ⟨W10, hrun, hg10, hvm⟩ := HV9.out.put hlw (by have := HLM.out; omega) (by omega)
                obtain ⟨el, hel⟩ : ∃ el, (x.got who).elected = el := ⟨_, rfl⟩
                have HEL := Lib.hid (HGC.out.elected.symm.trans hel)
                rw [hel] at er
                have HXR : Hid (XW w9 p7 (if el = true then (x.got who).win else (x.got who, [])).1) := Lib.hid (by have h7 : XW w9 p7 (x.receive (wmsg who true)).1 := hx7; rw [er] at h7; exact h7)
                have hmlt := HV9.out.lt
                have q10 : W10.cell? ⟨q, 1, none⟩ = some (.pointer (some ⟨xb, 0, none⟩)) := by
                  rw [World.cell?_of_block (w := w9) (a := ⟨q, 1, none⟩) (hg10.block q HQ7.out.2.2.2.2 (fun e => HMB.out.2 (by injection e)))]; exact q7
                have HX10 : Hid (XW W10 p7 (if el = true then (x.got who).win else (x.got who, [])).1) := Lib.hid (XW.grown HXR.out hg10 HQ7.out.2.1)
                have HQ10 := Lib.hid (show p7.Off q ∧ p7.Off mb ∧ p7.Up w1.heap.size ∧ Below w1.heap.size w1 W10 ∧ q < W10.heap.size from ⟨HQ7.out.1, HQ7.out.2.1, HQ7.out.2.2.1, HQ7.out.2.2.2.1.grown hg10 HQ7.out.2.2.2.1.size (fun k hk => by cases hk; exact HMB.out.1), Nat.lt_of_lt_of_le HQ7.out.2.2.2.2 hg10.size⟩)
                have HVM := Lib.hid hvm
                clear hx7 er hlw hg10 hvm hel HXR HV9 hmlt
                cases el
                · have HX7 : Hid (XW W10 p7 (x.got who)) := Lib.hid HX10.out
                  clear HX10
                  have K8 := Lib.hid (role_prog HX7.out)
                  rw [HP7.out.1, HGC.out.role] at K8
                  have HLN := Lib.hid (fun ty => VMap.len HVM.out ty)
                  have hcm : decide ((n : Int) < 2 * (((x.got who).votesN) : Int)) = false := decide_eq_false (by have := of_decide_eq_false HEL.out; omega)
                  obtain ⟨V, hV⟩ : ∃ V, ((x.got who).votesN) = V := ⟨_, rfl⟩
                  rw [hV] at HLN hcm
                  have hVI : (V : Int) ≤ 1000 := by rw [← hV]; have := HVB.out; omega
                  have hV0 : (0 : Int) ≤ (V : Int) := by omega
                  clear hV
                  go_wp2_with fail
                  refine K8.out.mono ?_
                  rintro e w10 ⟨rfl, rfl⟩
                  have hln := HLN.out 3
                  have hln2 := HLN.out 0
                  go_wp2_with fail
                  go_roundw
                  case rel => exact ⟨k + 1, p7, _, by omega, by go_num, Lib.hid ⟨HX7.out, HP7.out.1, HP7.out.2, HQ10.out.1, HQ10.out.2.1, HQ10.out.2.2.1, HQ10.out.2.2.2.1, HQ10.out.2.2.2.2, q10, .inl ⟨HGC.out, HGC.out.elected.trans HEL.out, HVM.out⟩⟩⟩
                  case measure => simp [intOf]; omega
                · have HX7 : Hid (XW W10 p7 (x.got who).win.1) := Lib.hid HX10.out
                  have HWO := Lib.hid HGC.out.win
                  clear HX10
                  have K8 := Lib.hid (role_prog HX7.out)
                  rw [HP7.out.1, HWO.out.role] at K8
                  have HLN := Lib.hid (fun ty => VMap.len HVM.out ty)
                  have hcm : decide ((n : Int) < 2 * (((x.got who).votesN) : Int)) = true := decide_eq_true (by have := of_decide_eq_true HEL.out; omega)
                  obtain ⟨V, hV⟩ : ∃ V, ((x.got who).votesN) = V := ⟨_, rfl⟩
                  rw [hV] at HLN hcm
                  have hVI : (V : Int) ≤ 1000 := by rw [← hV]; have := HVB.out; omega
                  have hV0 : (0 : Int) ≤ (V : Int) := by omega
                  clear hV
                  go_wp2_with fail
                  refine K8.out.mono ?_
                  rintro e w10 ⟨rfl, rfl⟩
                  have hln := HLN.out 3
                  have hln2 := HLN.out 0
                  go_wp2_with fail
                  go_roundw
                  case rel => exact ⟨k + 1, p7, _, by omega, by go_num, Lib.hid ⟨HX7.out, HP7.out.1, HP7.out.2, HQ10.out.1, HQ10.out.2.1, HQ10.out.2.2.1, HQ10.out.2.2.2.1, HQ10.out.2.2.2.2, q10, .inr HWO.out⟩⟩
                  case measure => simp [intOf]; omega
          · have hrw : x.role = 2 := hwn.role
            rw [hrw] at KR
            obtain ⟨f, hff⟩ : ∃ f, F k = f := ⟨_, rfl⟩
            rw [hff] at hf
            clear hwn hrw hbk hF255 hkm hff
            go_wp2_with fail
            refine KR.out.mono ?_
            rintro e w10 ⟨rfl, rfl⟩
            have KG := Lib.hid (log_prog HX.out)
            have KT2 := Lib.hid (xterm_prog HX.out)
            have KV2 := Lib.hid (xvote_prog HX.out)
            rw [HPX.out.1, HPX.out.2] at KG
            rw [HPX.out.2, HTV.out.1] at KT2
            rw [HPX.out.2, HTV.out.2] at KV2
            go_wp2_with fail
            refine KG.out.mono ?_
            rintro e w11 ⟨rfl, rfl⟩
            go_wp2_with fail
            refine KT2.out.mono ?_
            rintro e w12 ⟨rfl, rfl⟩
            go_wp2_with fail
            refine KG.out.mono ?_
            rintro e w13 ⟨rfl, rfl⟩
            go_wp2_with fail
            refine KV2.out.mono ?_
            rintro e w14 ⟨rfl, rfl⟩
            go_wp2_with fail
            go_ret
            exact ⟨rfl, HB1.out.trans (HBX.out.mono HB1.out.size)⟩
        · have hke : k = L := by omega
          subst hke
          have hkI : ¬ (k : Int) < (k : Int) := by omega
          have KG := Lib.hid (log_prog HX.out)
          have KT2 := Lib.hid (xterm_prog HX.out)
          have KV2 := Lib.hid (xvote_prog HX.out)
          rw [HPX.out.1, HPX.out.2] at KG
          rw [HPX.out.2, HTV.out.1] at KT2
          rw [HPX.out.2, HTV.out.2] at KV2
          go_wp2_with fail
          refine KG.out.mono ?_
          rintro e w11 ⟨rfl, rfl⟩
          go_wp2_with fail
          refine KT2.out.mono ?_
          rintro e w12 ⟨rfl, rfl⟩
          go_wp2_with fail
          refine KG.out.mono ?_
          rintro e w13 ⟨rfl, rfl⟩
          go_wp2_with fail
          refine KV2.out.mono ?_
          rintro e w14 ⟨rfl, rfl⟩
          go_wp2_with fail
          go_ret
          exact ⟨rfl, HB1.out.trans (HBX.out.mono HB1.out.size)⟩
set_option maxHeartbeats 2000000 in
set_option maxRecDepth 100000 in
theorem wins_out (n : Nat) (hn : n ≤ 255) (fa ba : Option Addr) (c L m c2 : Nat) (w : World) (h : n < 2 ∨ 9 < n ∨ 40 < L ∨ m < L) :
    Calls Tryz.prog 6 #[.int .u8 (n : Int), .slice fa L c, .slice ba m c2] w fun e w' => e = .returned (.bool true) ∧ Below w.heap.size w w' := by
  have KA := Lib.hid (awake_prog w)
  have hn0 : (0 : Int) ≤ (n : Int) := by omega
  have hnI : (n : Int) ≤ 255 := by omega
  by_cases h1 : n < 2
  · have b1 : decide ((n : Int) < 2) = true := decide_eq_true (by omega)
    clear h h1 hn
    go_enter Tryz.func6, Tryz.ntmps6
    go_wp2_with fail
    refine KA.out.mono ?_
    rintro e w1 ⟨rfl, hb1⟩
    have HB1 := Lib.hid hb1
    clear hb1 KA
    go_wp2_with fail
    go_ret
    exact ⟨rfl, HB1.out⟩
  · have b1 : decide ((n : Int) < 2) = false := decide_eq_false (by omega)
    by_cases h2 : 9 < n
    · have b2 : decide ((9 : Int) < (n : Int)) = true := decide_eq_true (by omega)
      clear h h1 h2 hn
      go_enter Tryz.func6, Tryz.ntmps6
      go_wp2_with fail
      refine KA.out.mono ?_
      rintro e w1 ⟨rfl, hb1⟩
      have HB1 := Lib.hid hb1
      clear hb1 KA
      go_wp2_with fail
      go_ret
      exact ⟨rfl, HB1.out⟩
    · have b2 : decide ((9 : Int) < (n : Int)) = false := decide_eq_false (by omega)
      by_cases h3 : 40 < L
      · have b3 : decide ((40 : Int) < (L : Int)) = true := decide_eq_true (by omega)
        clear h h1 h2 h3 hn
        go_enter Tryz.func6, Tryz.ntmps6
        go_wp2_with fail
        refine KA.out.mono ?_
        rintro e w1 ⟨rfl, hb1⟩
        have HB1 := Lib.hid hb1
        clear hb1 KA
        go_wp2_with fail
        go_ret
        exact ⟨rfl, HB1.out⟩
      · have b3 : decide ((40 : Int) < (L : Int)) = false := decide_eq_false (by omega)
        have b4 : decide (m < L) = true := decide_eq_true (by omega)
        clear h h1 h2 h3 hn
        go_enter Tryz.func6, Tryz.ntmps6
        go_wp2_with fail
        refine KA.out.mono ?_
        rintro e w1 ⟨rfl, hb1⟩
        have HB1 := Lib.hid hb1
        clear hb1 KA
        go_wp2_with fail
        go_ret
        exact ⟨rfl, HB1.out⟩
end Go.Proofs.YtpamhgdkblabnaaGreat
namespace Go.Proofs.YtpamhgdkblabnaaGreat
open Go.ChangeShapes Go.WideShapes Go.RowKit Go.Deep

section
variable {H : Type} {enc : TypeId × Value → H} {P : Program} {W W' : World}

theorem sameAt_below {B : Nat} (hb : Below B W W') (p : MemPlace) (hp : p.block < B) : W.sameAt W' p := by
  cases p with
  | cell b o => exact World.cell?_of_block (w := W) (hb.block b hp)
  | map b => exact hb.block b hp

/-- What was handed in reads as it did, where all that lay there lies there. -/
theorem trodAll_stay (K : Kids P (· < P.types.size)) (hz : ∀ t e, t < P.types.size → P.underlying t = some (.slice e) → 0 < P.cellsOf e) {sp : Nat → Bool} {B : Nat} (hb : Below B W W') :
    ∀ {ts : List TypeId} {vs : List Value} {ds : List (DataW H)} {ps : List MemPlace}, (∀ t ∈ ts, t < P.types.size) → DataW.TrodAll enc P W 0 (fun _ => true) true ts vs ds ps → (∀ p ∈ ps, p.block < B ∧ sp p.block = true) →
      DataW.TrodAll enc P W' 0 sp true ts vs ds ps
  | [], [], [], _, _, h, _ => h
  | _ :: _, _ :: _, _ :: _, _, hT, ⟨p, q, ⟨n, hn⟩, h2, e⟩, hs =>
    ⟨p, q, ⟨n, DataW.trod_stays K (fun ht hu => hz _ _ ht hu) (fun h => by cases h) (hT _ (List.mem_cons.2 (Or.inl rfl))) hn (fun x hx => sameAt_below hb x (hs x (by rw [e]; exact List.mem_append_left _ hx)).1) (fun x hx => (hs x (by rw [e]; exact List.mem_append_left _ hx)).2)⟩,
      trodAll_stay K hz hb (fun t ht => hT t (List.mem_cons.2 (Or.inr ht))) h2 (fun x hx => hs x (by rw [e]; exact List.mem_append_right _ hx)), e⟩

/-- The slice's cells: each is a byte. -/
def U8s (w : World) (la : Option Addr) (ln : Nat) : Prop := ∀ i, i < ln → ∃ (g o z : Nat), la = some ⟨g, o, none⟩ ∧ g < w.heap.size ∧ z ≤ 255 ∧ w.cell? ⟨g, o + i, none⟩ = some (.int .u8 z)

theorem spot_none {a : Addr} {v : Value} (h : W.cell? a = some v) : ∃ g o, a = ⟨g, o, none⟩ := by
  obtain ⟨g, o, s⟩ := a
  cases s with
  | none => exact ⟨g, o, rfl⟩
  | some q =>
    unfold World.cell? at h
    split at h <;> simp at h
theorem add_spot (g o i : Nat) : (⟨g, o, none⟩ : Addr).add i = ⟨g, o + i, none⟩ := by
  unfold Addr.add; split
  · rename_i h; subst h; rfl
  · rfl
theorem spot_of {a : Addr} {i : Nat} {v : Value} (hi : i = 0) (h : W.cell? (a.add i) = some v) : ∃ g o, a = ⟨g, o, none⟩ := by
  subst hi
  exact spot_none (by simpa [Addr.add] using h)

theorem open_u8s {t e : TypeId} {v : Value} {d : DataW H} {ps : List MemPlace} (ht : P.underlying t = some (.slice e)) (he : P.underlying e = some (.int .u8)) (hc : P.cellsOf e = 1)
    (hv : ∃ a n c, v = .slice a n c) (h : DataW.Trod enc P W 0 (fun _ => true) true t v d ps) : ∃ la ln lc, v = .slice la ln lc ∧ ln ≤ maxLen ∧ U8s W la ln := by
  obtain ⟨a0, n0, c0, rfl⟩ := hv
  obtain ⟨fuel, hf⟩ := h
  rcases open_ints ht he hc hf with ⟨hcs, _⟩ | ⟨a, len, cap, zs, hcs, _, hl, hm, hz, _, hcell, hwz⟩
  · simp [Value.cells] at hcs
    obtain ⟨rfl, rfl, rfl⟩ := hcs
    exact ⟨none, 0, 0, rfl, by omega, fun i hi => by omega⟩
  · simp [Value.cells] at hcs
    obtain ⟨rfl, rfl, rfl⟩ := hcs
    simp only [if_true] at hz
    refine ⟨_, _, _, rfl, by omega, fun i hi => ?_⟩
    obtain ⟨g, o, rfl⟩ := spot_of rfl (hcell 0 (by omega))
    have h1 := hcell i (by omega)
    rw [add_spot] at h1
    have h2 : zs.getD i 0 ∈ zs := by rw [List.getD_eq_getElem?_getD, List.getElem?_eq_getElem (by omega)]; simp
    have h3 := hwz _ h2
    have h4 : 0 ≤ zs.getD i 0 ∧ zs.getD i 0 ≤ 255 := by simpa [Lit.wf, IntKind.min, IntKind.max, IntKind.signed, IntKind.bits] using h3
    refine ⟨g, o, (zs.getD i 0).toNat, rfl, World.block_lt_of_cell? W _ h1, by omega, ?_⟩
    rw [h1, Int.toNat_of_nonneg h4.1]

/-- The slice's cells: each element is two integers. -/
def Pairs (w : World) (la : Option Addr) (ln : Nat) : Prop := ∀ i, i < ln → ∃ (g o : Nat) (x y : Int), la = some ⟨g, o, none⟩ ∧ g < w.heap.size ∧ w.cell? ⟨g, o + i * 2, none⟩ = some (.int .i64 x) ∧ w.cell? ⟨g, o + i * 2 + 1, none⟩ = some (.int .i64 y)
theorem open_pairs64 {t e : TypeId} {f0 f1 : Field} {v : Value} {d : DataW H} {ps : List MemPlace} (ht : P.underlying t = some (.slice e)) (he : P.underlying e = some (.struct #[f0, f1]))
    (ce : P.cellsOf e = 2) (o0 : f0.offset = 0) (o1 : f1.offset = 1) (c0 : P.cellsOf f0.type = 1) (c1 : P.cellsOf f1.type = 1) (u0 : P.underlying f0.type = some (.int .i64)) (u1 : P.underlying f1.type = some (.int .i64))
    (hv : ∃ a n c, v = .slice a n c) (h : DataW.Trod enc P W 0 (fun _ => true) true t v d ps) : ∃ la ln lc, v = .slice la ln lc ∧ ln ≤ maxLen ∧ Pairs W la ln := by
  obtain ⟨a0, n0, c00, rfl⟩ := hv
  obtain ⟨fuel, hf⟩ := h
  rcases open_slice_pairs ht he ce o0 o1 c0 c1 hf with ⟨hcs, _⟩ | ⟨a, len, cap, m, n, V0, V1, D0, D1, P0, P1, hcs, _, hl, hm, hmm, _, hcell⟩
  · simp [Value.cells] at hcs
    obtain ⟨rfl, rfl, rfl⟩ := hcs
    exact ⟨none, 0, 0, rfl, by omega, fun i hi => by omega⟩
  · simp [Value.cells] at hcs
    obtain ⟨rfl, rfl, rfl⟩ := hcs
    simp only [if_true] at hmm
    refine ⟨_, _, _, rfl, by omega, fun i hi => ?_⟩
    obtain ⟨g, o, rfl⟩ := spot_of (by omega) (hcell 0 (by omega)).1
    obtain ⟨h1, h2, h3, h4⟩ := hcell i (by omega)
    rw [add_spot] at h1 h2
    obtain ⟨x, e1, _, _⟩ := DataW.trod_int u0 h3
    obtain ⟨y, e2, _, _⟩ := DataW.trod_int u1 h4
    refine ⟨g, o, x, y, rfl, World.block_lt_of_cell? W _ h1, ?_, ?_⟩
    · rw [h1]; simpa using e1
    · rw [Nat.add_assoc, h2]; simpa using e2
end
end Go.Proofs.YtpamhgdkblabnaaGreat
namespace Go.Proofs.YtpamhgdkblabnaaGreat
open Go.ChangeShapes Go.WideShapes Go.RowKit Go.Deep

section
variable {H : Type} {enc : TypeId × Value → H} {P : Program} {W W' : World}
/-- The slice's cells are bools. -/
def BoolsAt (w : World) (la : Option Addr) (ln : Nat) : Prop := ∀ i, i < ln → ∃ (g o : Nat) (b : Bool), la = some ⟨g, o, none⟩ ∧ w.cell? ⟨g, o + i, none⟩ = some (.bool b)
theorem open_bools {t e : TypeId} {v : Value} {d : DataW H} {ps : List MemPlace} (ht : P.underlying t = some (.slice e)) (he : P.underlying e = some .bool) (hc : P.cellsOf e = 1)
    (hv : ∃ a n c, v = .slice a n c) (h : DataW.Trod enc P W 0 (fun _ => true) true t v d ps) : ∃ la ln lc, v = .slice la ln lc ∧ BoolsAt W la ln := by
  obtain ⟨a0, n0, c00, rfl⟩ := hv
  obtain ⟨fuel, hf⟩ := h
  rcases open_slice ht hf with ⟨hcs, _⟩ | ⟨a, len, cap, m, n, D, Pl, hcs, _, hl, hm, hmm, _, hx⟩
  · simp [Value.cells] at hcs
    obtain ⟨rfl, rfl, rfl⟩ := hcs
    exact ⟨none, 0, 0, rfl, fun i hi => by omega⟩
  · simp [Value.cells] at hcs
    obtain ⟨rfl, rfl, rfl⟩ := hcs
    simp only [if_true] at hmm
    have each : ∀ i, i < n0 → ∃ b, W.cell? (a.add i) = some (.bool b) := fun i hi => by
      obtain ⟨cs', h1, h2⟩ := hx i (by omega)
      rw [hc, Nat.mul_one] at h1
      obtain ⟨_, hlen, hcell⟩ := World.cells?_some h1
      obtain ⟨b, e2, _⟩ := DataW.trod_bool he h2
      subst e2
      have q0 := hcell 0 (by omega)
      rw [add_add] at q0
      exact ⟨b, by simpa using q0⟩
    refine ⟨_, _, _, rfl, fun i hi => ?_⟩
    obtain ⟨s0, z0⟩ := each 0 (by omega)
    obtain ⟨g, o, rfl⟩ := spot_of (by omega) z0
    obtain ⟨b, h0⟩ := each i hi
    rw [add_spot] at h0
    exact ⟨g, o, b, rfl, h0⟩
/-- .. as functions. -/
theorem bools_fn {la : Option Addr} {L m : Nat} (h : BoolsAt W la m) (hL : L ≤ m) : ∃ B : Nat → Bool, L ≠ 0 → ∃ g o, la = some ⟨g, o, none⟩ ∧ ∀ i, i < L → W.cell? ⟨g, o + i, none⟩ = some (.bool (B i)) := by
  have hc : ∀ i, ∃ b : Bool, i < m → ∃ g o, la = some ⟨g, o, none⟩ ∧ W.cell? ⟨g, o + i, none⟩ = some (.bool b) := fun i => by
    by_cases hi : i < m
    · obtain ⟨g, o, b, h1, h2⟩ := h i hi
      exact ⟨b, fun _ => ⟨g, o, h1, h2⟩⟩
    · exact ⟨false, fun h => absurd h hi⟩
  obtain ⟨B, hB⟩ := Classical.axiomOfChoice hc
  refine ⟨B, fun h0 => ?_⟩
  obtain ⟨g, o, rfl, _⟩ := hB 0 (by omega)
  refine ⟨g, o, rfl, fun i hi => ?_⟩
  obtain ⟨g2, o2, e, h2⟩ := hB i (by omega)
  injection e with e
  injection e with e1 e2
  subst e1 e2
  exact h2
theorem u8s_fn {la : Option Addr} {L : Nat} (h : U8s W la L) : ∃ F : Nat → Nat, (∀ i, i < L → F i ≤ 255) ∧ (L ≠ 0 → ∃ g o, la = some ⟨g, o, none⟩ ∧ ∀ i, i < L → W.cell? ⟨g, o + i, none⟩ = some (.int .u8 (F i : Int))) := by
  have hc : ∀ i, ∃ z : Nat, i < L → z ≤ 255 ∧ ∃ g o, la = some ⟨g, o, none⟩ ∧ W.cell? ⟨g, o + i, none⟩ = some (.int .u8 (z : Int)) := fun i => by
    by_cases hi : i < L
    · obtain ⟨g, o, z, h1, _, h3, h2⟩ := h i hi
      exact ⟨z, fun _ => ⟨h3, g, o, h1, h2⟩⟩
    · exact ⟨0, fun h => absurd h hi⟩
  obtain ⟨F, hF⟩ := Classical.axiomOfChoice hc
  refine ⟨F, fun i hi => (hF i hi).1, fun h0 => ?_⟩
  obtain ⟨_, g, o, rfl, _⟩ := hF 0 (by omega)
  refine ⟨g, o, rfl, fun i hi => ?_⟩
  obtain ⟨_, g2, o2, e, h2⟩ := hF i hi
  injection e with e
  injection e with e1 e2
  subst e1 e2
  exact h2
end
end Go.Proofs.YtpamhgdkblabnaaGreat
