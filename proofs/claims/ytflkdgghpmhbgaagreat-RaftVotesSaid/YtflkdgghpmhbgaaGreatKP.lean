/- raft: Receive, whatever message comes; the bounds behind it. -/
import Derived.Test.YtflkdgghpmhbgaaGreatKO
import Derived.Test.YtflkdgghpmhbgaaGreatKT
import Derived.Test.YtflkdgghpmhbgaaGreatKL
namespace Go.Proofs.YtflkdgghpmhbgaaGreat
open Go.RowKit
/-- A value that lies in none of a node's blocks. -/
def Pl.Far (p : Pl) (ev : Value) : Prop := ∀ k, ev.ownBlock = some k → k ≠ p.xb ∧ k ≠ p.nb ∧ k ≠ p.lb ∧ k ≠ p.db ∧ p.v.ownBlock ≠ some k ∧ p.dv.ownBlock ≠ some k
theorem MsgAt.ch {w w' : World} {p p' : Pl} {ev : Value} {E : List Ent} (h : MsgAt w p ev E) (hf : E ≠ [] → p.Far ev) (hc : XCh p w w' p') : MsgAt w' p' ev E ∧ (E ≠ [] → p'.Far ev) := by
  obtain ⟨a, c, h1, h2, h3⟩ := h.sl
  have far : E ≠ [] → p'.Far ev := fun hne k hk => by
    obtain ⟨g, o, ha, hg, _⟩ := h3 hne
    obtain rfl : g = k := by rw [h1, ha] at hk; simpa [Value.ownBlock] using hk
    obtain ⟨q1, q2, q3, q4, q5, q6⟩ := hf hne g hk
    refine ⟨by rw [hc.xb]; exact q1, by rw [hc.nb]; exact q2, by rw [hc.lb]; exact q3, by rw [hc.db]; exact q4, fun e => ?_, fun e => ?_⟩
    · rcases hc.vloc g e with e | e
      · exact q5 e
      · omega
    · rcases hc.dloc g e with e | e
      · exact q6 e
      · omega
  refine ⟨⟨⟨a, c, h1, h2, fun hne => ?_⟩, h.ok, h.len, fun hne k hk => ⟨(far hne k hk).2.2.1, (far hne k hk).2.2.2.2.1⟩⟩, far⟩
  obtain ⟨g, o, ha, hg, hv⟩ := h3 hne
  obtain ⟨q1, q2, q3, q4, q5, q6⟩ := hf hne g (by rw [h1, ha]; rfl)
  have e := hc.block g hg q1 q2 q3 q4 q5 q6
  refine ⟨g, o, ha, Nat.lt_of_lt_of_le hg hc.size, fun i y hy => ?_⟩
  have := hv i y hy
  exact ⟨by rw [World.cell?_of_block (w := w) (a := ⟨g, o + i * 2, none⟩) e]; exact this.1, by rw [World.cell?_of_block (w := w) (a := ⟨g, o + i * 2 + 1, none⟩) e]; exact this.2⟩
section
variable {w : World} {p : Pl} {x : RN} {M K : Nat}
theorem recv_gt {m : Mg} (h : XW w p x) (hi : x.In M K) (hj : (x.join m.term).1.In M K) (hM : M ≤ 80000000) (hK : K ≤ 10000000000000000) (hkn : x.s.Knows) (ev : Value) (hm : MsgAt w p ev m.ents) (hxa : m.ents ≠ [] → p.Far ev)
    (hidx : m.index ≤ 1000000000000000000) (hcm : m.commit ≤ 1000000000000000000) (hlt : m.lterm < m64) (hst : m.state.size ≤ 100000000) (hmt : m.term < m64) (hl : x.leaves m = false) (ht : x.s.c.term < m.term) :
    Calls Tryz.prog 23 #[.pointer (some ⟨p.xb, 0, none⟩), .agg (mgL m ev).toArray] w fun e w' => (∃ v, e = .returned v ∧ MOwn w' w.heap.size v (x.receive m).2) ∧ XO p w (x.receive m).1 w' := by
  obtain ⟨l1, l2, l3, l4, l5⟩ := leaves_not hl
  have hn := hi.n
  have fit : ∀ {y : RN}, y.In M K → y.Fit := fun hy => hy.fit (by omega) (by omega)
  have hps : (x.join m.term).1.ps = x.ps := by unfold RN.join; split <;> rfl
  have hR : x.receive m = if (x.join m.term).2 = true then (x.join m.term).1.kindly m else ((x.join m.term).1, []) := by unfold RN.receive; rw [if_neg (by rw [hl]; simp), if_pos ht]
  by_cases hb : (x.join m.term).2 = true
  · rw [if_pos hb] at hR
    obtain ⟨y, hy⟩ : ∃ y, (x.join m.term).1 = y := ⟨_, rfl⟩
    have hsrc : m.src = (m.src.toNat : Int) := by omega
    have hd : m.src.toNat < y.ps.length := by rw [← hy, hps]; omega
    have hyi : y.In M K := by rw [← hy]; exact hj
    rw [hy] at hR
    by_cases k0 : m.kind = 0
    · exact recv_g0 h (fit hi) hkn hn m ev hmt hl ht hb k0 (hR.trans (by unfold RN.kindly; rw [if_pos k0])) (fun W p' hW hc => by rw [hy] at hW; rw [← hc.xb]; exact asked_prog hW hyi hM hK m ev hmt)
    by_cases k1 : m.kind = 1
    · exact recv_g1 h (fit hi) hkn hn m ev hmt hl ht hb k1 (hR.trans (by unfold RN.kindly; rw [if_neg k0, if_pos k1])) (fun W p' hW hc => by rw [hy] at hW; rw [← hc.xb]; exact chosen_prog hW hyi hM hK m ev _ hd hsrc)
    by_cases k2 : m.kind = 2
    · exact recv_g2 h (fit hi) hkn hn m ev hmt hl ht hb k2 (hR.trans (by unfold RN.kindly; rw [if_neg k0, if_neg k1, if_pos (.inl k2)])) (fun W p' hW hc => by rw [hy] at hW; rw [← hc.xb]; exact led_prog hW (fit (hyi.follow m.src)) ev (hm.ch hxa hc).1 (fun hne k hk => ((hm.ch hxa hc).2 hne k hk).1) hidx hcm hlt hst)
    by_cases k4 : m.kind = 4
    · exact recv_g4 h (fit hi) hkn hn m ev hmt hl ht hb k4 (hR.trans (by unfold RN.kindly; rw [if_neg k0, if_neg k1, if_pos (.inr k4)])) (fun W p' hW hc => by rw [hy] at hW; rw [← hc.xb]; exact led_prog hW (fit (hyi.follow m.src)) ev (hm.ch hxa hc).1 (fun hne k hk => ((hm.ch hxa hc).2 hne k hk).1) hidx hcm hlt hst)
    by_cases k3 : m.kind = 3
    · exact recv_g3 h (fit hi) hkn hn m ev hmt hl ht hb k3 (hR.trans (by unfold RN.kindly; rw [if_neg k0, if_neg k1, if_neg (by omega), if_pos k3])) (fun W p' hW hc => by rw [hy] at hW; rw [← hc.xb]; exact told_prog hW (fit hyi) _ hd hsrc (fit (hyi.backs m _)) (fit (hyi.goes m _)) (fit (hyi.goes m _).count) ev hidx)
    have hRo : x.receive m = ((x.join m.term).1, []) := by rw [hR, hy]; unfold RN.kindly; rw [if_neg k0, if_neg k1, if_neg (by omega), if_neg k3]
    exact recv_go h (fit hi) hkn hn m ev hmt hl ht hb k0 k1 k2 k4 k3 hRo rfl
  · rw [if_neg hb] at hR
    exact recv_gf h (fit hi) hkn hn m ev hmt hl ht (by simpa using hb) hR rfl
end
end Go.Proofs.YtflkdgghpmhbgaaGreat
namespace Go.Proofs.YtflkdgghpmhbgaaGreat
open Go.RowKit

/-- All that the log holds, and all that a crash may leave of it, has that property. -/
structure LgS.Kept (s : LgS) (P : CT → Prop) : Prop where
  sure : s.dn = false → s.Sure
  own : P s.c
  n : s.d.n ≤ s.d.T.size
  read : ∀ j, s.d.n ≤ j → j ≤ s.d.T.size → ∃ c, readC (s.d.T.extract 0 j) = some c ∧ P c
  knows : s.Knows
/-- What a change answers: it is done, it was refused, or the disk was down. -/
def LgS.Ans (s : LgS) (q : LgS × Int) (c' : CT) : Prop :=
  (q.2 = 0 ∧ q.1.dn = false ∧ s.dn = false ∧ q.1.c = c') ∨ (q.2 = 1 ∧ q.1 = s ∧ s.dn = false) ∨ (q.2 = 3 ∧ q.1.dn = true ∧ q.1.c = s.c)
section
variable {s : LgS} {P Q : CT → Prop} {c' : CT} {k : UInt8} {body : ByteArray}
theorem LgS.Kept.mono (h : s.Kept P) (hpq : ∀ c, P c → Q c) : s.Kept Q :=
  ⟨h.sure, hpq _ h.own, h.n, fun j h1 h2 => by obtain ⟨c, e1, e2⟩ := h.read j h1 h2; exact ⟨c, e1, hpq c e2⟩, h.knows⟩
theorem LgS.Sure.kept (h : s.Sure) (hP : P s.c) (hk : s.Knows) : s.Kept P :=
  ⟨fun _ => h, hP, by rw [h.all]; exact Nat.le_refl _, fun j h1 h2 => by
    obtain rfl : j = s.d.T.size := by have := h.all; omega
    exact ⟨s.c, by rw [extract_all]; exact h.read, hP⟩, hk⟩
theorem LgS.Hurt.kept {c : CT} (h : s.Hurt c c') (hc : P c) (hc' : P c') : s.Kept P :=
  ⟨fun e => (by rw [h.dn] at e; cases e), by rw [h.same]; exact hc, h.n, fun j h1 h2 => by
    rcases h.read j h1 h2 with e | e
    · exact ⟨_, e, hc⟩
    · exact ⟨_, e, hc'⟩, fun _ => h.dn⟩
theorem ok_dn {d : DS} (h : d.ok = true) : stDn d.dn d.lim d.k = false := by
  unfold DS.ok stOk at h
  unfold stDn
  simp only [Bool.and_eq_true, Bool.not_eq_true', Bool.or_eq_true, decide_eq_true_eq] at h
  obtain ⟨h1, h2⟩ := h
  rw [h1]
  rcases h2 with h2 | h2
  · rw [h2]; rfl
  · have : decide (d.k = 0) = false := decide_eq_false (by omega)
    rw [this]; simp
theorem swap_up {b : ByteArray} (h : (s.swap b).2 = true) : (s.swap b).1.d.dn = false := ok_dn h
theorem write_up {r : ByteArray} (h : (s.write r).2 = true) : (s.write r).1.d.dn = false := by
  unfold LgS.write at h ⊢
  split
  · rename_i h1
    rw [if_pos h1] at h
    exact swap_up h
  · rename_i h1
    rw [if_neg h1] at h
    split
    · rename_i h2
      rw [if_pos h2] at h
      exact ok_dn (d := s.d.app r) h
    · rename_i h2
      rw [if_neg h2] at h
      cases h
theorem change_up (h : (s.change k body).2 = 0) : (s.change k body).1.d.dn = false := by
  unfold LgS.change at h ⊢
  split
  · rename_i h1
    exact write_up h1
  · rename_i h1
    rw [if_neg h1] at h
    cases h
theorem rebase_up {i t : Nat} {st : ByteArray} (h : (s.rebase i t st).2 = 0) : (s.rebase i t st).1.d.dn = false := by
  unfold LgS.rebase at h ⊢
  split
  · rename_i h1
    exact swap_up h1
  · rename_i h1
    rw [if_neg h1] at h
    cases h
theorem LgS.Kept.change (h : s.Kept P) (hdn : s.dn = false) (hc : s.c.Ok) (hw : (bodyL s.c).length < m64) (hk : k = 249 ∨ k = 250) (hb : body.size < m64) (hr : redoC s.c k body = some c') (hP : P c') :
    (s.change k body).1.Kept P ∧ LgS.Ans s (s.change k body) c' := by
  rcases (h.sure hdn).change hc hw hk hb hr with ⟨h1, h2, h3, h4⟩ | ⟨h1, h2⟩
  · exact ⟨h2.kept (by rw [h3]; exact hP) (fun e => by rw [change_up h1] at e; cases e), .inl ⟨h1, by rw [h4, hdn], hdn, h3⟩⟩
  · exact ⟨h2.kept h.own hP, .inr (.inr ⟨h1, h2.dn, h2.same⟩)⟩
theorem LgS.Kept.rebase {i t : Nat} {st : ByteArray} (h : s.Kept P) (hdn : s.dn = false) (hc : (s.c.rebase i t st).Ok) (hw : (bodyL (s.c.rebase i t st)).length < m64) (hP : P (s.c.rebase i t st)) :
    (s.rebase i t st).1.Kept P ∧ LgS.Ans s (s.rebase i t st) (s.c.rebase i t st) := by
  rcases (h.sure hdn).rebase hc hw with ⟨h1, h2, h3, h4⟩ | ⟨h1, h2⟩
  · exact ⟨h2.kept (by rw [h3]; exact hP) (fun e => by rw [rebase_up h1] at e; cases e), .inl ⟨h1, by rw [h4, hdn], hdn, h3⟩⟩
  · exact ⟨h2.kept h.own hP, .inr (.inr ⟨h1, h2.dn, h2.same⟩)⟩
theorem LgS.Kept.setTerm {t : Nat} {x : Int} (h : s.Kept P) (hc : s.c.Ok) (hw : (bodyL s.c).length < m64) (ht : t < m64) (hx : x < 9223372036854775808) (hP : s.c.votes t x = true → P { s.c with term := t, vote := x }) :
    (s.setTerm t x).1.Kept P ∧ LgS.Ans s (s.setTerm t x) { s.c with term := t, vote := x } := by
  unfold LgS.setTerm
  rw [h.knows.or, h.knows.down]
  split
  · rename_i h1
    exact ⟨h, .inr (.inr ⟨rfl, h1, rfl⟩)⟩
  · rename_i h1
    have hdn : s.dn = false := by simpa using h1
    split
    · rename_i h2
      have hsz : (voteB t x).size = 16 := by rw [voteB, ofL_size, List.length_append, numL_len, numL_len]
      exact h.change hdn hc hw (.inl rfl) (by rw [hsz]; decide) (redo_vote s.c t x ht hx h2) (hP h2)
    · exact ⟨h, .inr (.inl ⟨rfl, rfl, hdn⟩)⟩
theorem LgS.Kept.add {b : Nat} {E : List Ent} (h : s.Kept P) (hc : s.c.Ok) (hw : (bodyL s.c).length < m64) (hb : b < m64) (hE : EntsOk E) (hl : (entsL E).length ≤ 100000000) (hP : s.c.takes b E.length = true → P (s.c.addE b E)) :
    (s.add b E).1.Kept P ∧ LgS.Ans s (s.add b E) (s.c.addE b E) := by
  unfold LgS.add
  rw [h.knows.or, h.knows.down]
  split
  · rename_i h1
    exact ⟨h, .inr (.inr ⟨rfl, h1, rfl⟩)⟩
  · rename_i h1
    have hdn : s.dn = false := by simpa using h1
    split
    · rename_i h2
      have hab : (addB b E).size = 8 + (entsL E).length := by rw [addB, ofL_size, List.length_append, numL_len]
      exact h.change hdn hc hw (.inr rfl) (by rw [hab]; unfold m64; omega) (redo_add s.c b E hb hE h2) (hP h2)
    · exact ⟨h, .inr (.inl ⟨rfl, rfl, hdn⟩)⟩
theorem LgS.Kept.install {i t : Nat} {st : ByteArray} (h : s.Kept P) (hc : (s.c.rebase i t st).Ok) (hw : (bodyL (s.c.rebase i t st)).length < m64) (hP : P (s.c.rebase i t st)) :
    (s.install i t st).1.Kept P ∧ LgS.Ans s (s.install i t st) (s.c.rebase i t st) := by
  unfold LgS.install
  rw [h.knows.or, h.knows.down]
  split
  · rename_i h1
    exact ⟨h, .inr (.inr ⟨rfl, h1, rfl⟩)⟩
  · rename_i h1
    have hdn : s.dn = false := by simpa using h1
    split
    · exact ⟨h, .inr (.inl ⟨rfl, rfl, hdn⟩)⟩
    · exact h.rebase hdn hc hw hP
end
end Go.Proofs.YtflkdgghpmhbgaaGreat
namespace Go.Proofs.YtflkdgghpmhbgaaGreat
open Go.RowKit

/-- Behind that term and vote, or there. -/
def Later (t : Nat) (v : Int) (c : CT) : Prop := t < c.term ∨ (t = c.term ∧ (v = -1 ∨ v = c.vote))
structure Pv (t : Nat) (v : Int) (M K : Nat) (c : CT) : Prop where
  ok : c.Ok
  whole : (wholeB c).size ≤ M
  term : c.term ≤ K
  last : c.base + c.ents.length ≤ K
  later : Later t v c
/-- What a message says of votes is so of that node. -/
def Says (y : RN) (m : Mg) : Prop := (m.kind = 0 → m.term = y.s.c.term ∧ y.s.c.vote = (y.id : Int)) ∧ (m.kind = 1 → m.ok = true → m.term = y.s.c.term ∧ y.s.c.vote = m.dst ∧ 0 ≤ m.dst)
/-- What a step of a node leaves. -/
structure RN.Step (x : RN) (q : RN × List Mg) (t : Nat) (v : Int) (M K : Nat) : Prop where
  kept : q.1.s.Kept (Pv t v M K)
  id : q.1.id = x.id
  len : q.1.ps.length = x.ps.length
  pat : q.1.pat ≤ x.pat + 1
  quiet : q.1.s.dn = true → q.2 = []
  said : ∀ m ∈ q.2, Says q.1 m
section
variable {t : Nat} {v : Int} {M K M2 K2 : Nat} {c : CT} {s : LgS} {x y : RN}
theorem Pv.mono (h : Pv t v M K c) (hM : M ≤ M2) (hK : K ≤ K2) : Pv t v M2 K2 c := ⟨h.ok, Nat.le_trans h.whole hM, Nat.le_trans h.term hK, Nat.le_trans h.last hK, h.later⟩
theorem Kept.up (h : s.Kept (Pv t v M K)) (hM : M ≤ M2) (hK : K ≤ K2) : s.Kept (Pv t v M2 K2) := h.mono fun _ hc => hc.mono hM hK
theorem Pv.body (h : Pv t v M K c) (hM : M ≤ 100000000) : (bodyL c).length < m64 := body_lt h.whole hM
theorem Pv.setTerm (h : Pv t v M K c) {t' : Nat} {u : Int} (ht : t' ≤ K) (hK : K ≤ 1000000000000000000) (hu : u < 9223372036854775808) (hl : c.term < t' ∨ (c.term = t' ∧ (c.vote = -1 ∨ c.vote = u))) (hv : c.votes t' u = true) : Pv t v M K { c with term := t', vote := u } := by
  refine ⟨term_ok h.ok (by unfold m64; omega) hu hv, ?_, ht, h.last, ?_⟩
  · have := h.whole
    rw [wholeB_len] at this ⊢
    exact this
  · unfold Later
    show t < t' ∨ (t = t' ∧ (v = -1 ∨ v = u))
    rcases h.later with e | ⟨e1, e2⟩
    · rcases hl with h1 | ⟨h1, _⟩ <;> exact .inl (by omega)
    · rcases hl with h1 | ⟨h1, h2⟩
      · exact .inl (by omega)
      · refine .inr ⟨by omega, ?_⟩
        rcases e2 with e2 | e2
        · exact .inl e2
        · rcases h2 with h2 | h2
          · exact .inl (e2.trans h2)
          · exact .inr (e2.trans h2)
theorem Pv.add (h : Pv t v M K c) {b : Nat} {E : List Ent} (hE : EntsOk E) (ht : c.takes b E.length = true) (hb : b + E.length ≤ K) : Pv t v (M + (entsL E).length) K (c.addE b E) :=
  ⟨addE_ok h.ok hE ht, Nat.le_trans (addE_size c b E) (by have := h.whole; omega), h.term, by rw [addE_last h.ok.base ht]; exact hb, h.later⟩
theorem Pv.rebase (h : Pv t v M K c) {i u : Nat} {st : ByteArray} (hi : i ≤ K) (hK : K ≤ 1000000000000000000) (hu : u < m64) (hs : st.size < m64) : Pv t v (M + st.size) K (c.rebase i u st) :=
  ⟨rebase_ok h.ok (by unfold m64; omega) hu hs, Nat.le_trans (rebase_size c i u st) (by have := h.whole; omega), h.term, Nat.le_trans (rebase_last c i u st) (by have := h.last; omega), h.later⟩
theorem Kept.term (h : s.Kept (Pv t v M K)) (hM : M ≤ 100000000) {t' : Nat} {u : Int} (ht : t' ≤ K) (hK : K ≤ 1000000000000000000) (hu : u < 9223372036854775808) (hl : s.c.term < t' ∨ (s.c.term = t' ∧ (s.c.vote = -1 ∨ s.c.vote = u))) :
    (s.setTerm t' u).1.Kept (Pv t v M K) ∧ LgS.Ans s (s.setTerm t' u) { s.c with term := t', vote := u } :=
  h.setTerm h.own.ok (h.own.body hM) (by unfold m64; omega) hu fun hv => h.own.setTerm ht hK hu hl hv
theorem Kept.ents (h : s.Kept (Pv t v M K)) (hM : M ≤ 100000000) {b : Nat} {E : List Ent} (hE : EntsOk E) (hb : b + E.length ≤ K) (hK : K ≤ 1000000000000000000) (hl : (entsL E).length ≤ 100000000) :
    (s.add b E).1.Kept (Pv t v (M + (entsL E).length) K) ∧ LgS.Ans s (s.add b E) (s.c.addE b E) :=
  (Kept.up h (Nat.le_add_right _ _) (Nat.le_refl _)).add h.own.ok (h.own.body hM) (by unfold m64; omega) hE hl fun ht => h.own.add hE ht hb
theorem Kept.entry (h : x.s.Kept (Pv t v M K)) (hM : M ≤ 100000000) (hK : K < 1000000000000000000) (cmd : ByteArray) (hc : cmd.size ≤ 1000000) :
    (x.addS cmd).1.Kept (Pv t v (M + cmd.size + 16) (K + 1)) ∧ LgS.Ans x.s (x.addS cmd) (x.s.c.addE x.s.c.lastN [(x.s.c.term, cmd)]) := by
  have hlast := lastN_le x.s.c
  have hl := h.own.last
  have h1 := Kept.ents (b := x.s.c.lastN) (E := [(x.s.c.term, cmd)]) (Kept.up h (Nat.le_refl M) (Nat.le_succ K)) hM (fun y hy => by
    obtain rfl : y = (x.s.c.term, cmd) := by simpa using hy
    exact ⟨h.own.ok.term, by unfold m64; simp only; omega⟩) (by show _ + 1 ≤ _; omega) (by omega) (by rw [ent_one_len]; omega)
  rw [ent_one_len] at h1
  exact ⟨Kept.up h1.1 (by omega) (Nat.le_refl _), h1.2⟩
theorem Kept.inst (h : s.Kept (Pv t v M K)) {i u : Nat} {st : ByteArray} (hM : M + st.size ≤ 100000000) (hi : i ≤ K) (hK : K ≤ 1000000000000000000) (hu : u < m64) :
    (s.install i u st).1.Kept (Pv t v (M + st.size) K) ∧ LgS.Ans s (s.install i u st) (s.c.rebase i u st) := by
  have hp : Pv t v (M + st.size) K (s.c.rebase i u st) := h.own.rebase hi hK hu (by unfold m64; omega)
  exact (Kept.up h (Nat.le_add_right _ _) (Nat.le_refl _)).install hp.ok (hp.body hM) hp
theorem Ans.three {q : LgS × Int} {c' : CT} (h : LgS.Ans s q c') (hd : q.1.dn = true) (h3 : s.dn = false) : q.2 = 3 := by
  rcases h with ⟨_, h2, _⟩ | ⟨_, h2, _⟩ | ⟨h1, _⟩
  · rw [h2] at hd; cases hd
  · rw [h2, h3] at hd; cases hd
  · exact h1
theorem Ans.dn {q : LgS × Int} {c' : CT} (h : LgS.Ans s q c') (hd : q.1.dn = true) : q.2 ≠ 0 := by
  rcases h with ⟨_, h2, _⟩ | ⟨h1, _⟩ | ⟨h1, _⟩
  · rw [h2] at hd; cases hd
  · rw [h1]; decide
  · rw [h1]; decide
theorem Ans.dn3 {q : LgS × Int} {c' : CT} (h : LgS.Ans s q c') (hd : q.1.dn = true) : q.2 = 3 := by
  rcases h with ⟨_, h2, _⟩ | ⟨_, h2, h3⟩ | ⟨h1, _⟩
  · rw [h2] at hd; cases hd
  · rw [h2, h3] at hd; cases hd
  · exact h1
theorem Ans.zero {q : LgS × Int} {c' : CT} (h : LgS.Ans s q c') (h0 : q.2 = 0) : q.1.c = c' := by
  rcases h with ⟨_, _, _, h2⟩ | ⟨h1, _⟩ | ⟨h1, _⟩
  · exact h2
  · rw [h1] at h0; cases h0
  · rw [h1] at h0; cases h0
theorem feedM_kind (x : RN) (d : Nat) : (x.feedM d).kind = 4 ∨ (x.feedM d).kind = 2 := by
  unfold RN.feedM RN.feedQ
  split
  · exact .inl rfl
  · exact .inr rfl
theorem Says.feed (x y : RN) (d : Nat) : Says y (x.feedM d) :=
  ⟨fun e => (by rcases feedM_kind x d with h | h <;> rw [h] at e <;> cases e), fun e => (by rcases feedM_kind x d with h | h <;> rw [h] at e <;> cases e)⟩
theorem Says.all (x y : RN) : ∀ m ∈ x.feedAll, Says y m := fun m hm => by
  obtain ⟨d, _, rfl⟩ := List.mem_map.1 hm
  exact Says.feed x y d
theorem Says.ans (x y : RN) (d : Int) (ok : Bool) (i : Nat) : Says y (x.ans d ok i) := ⟨fun e => (by cases e), fun e => by cases e⟩
theorem count_same (y : RN) : y.count.s = y.s ∧ y.count.id = y.id ∧ y.count.ps = y.ps ∧ y.count.pat = y.pat := by unfold RN.count; split <;> exact ⟨rfl, rfl, rfl, rfl⟩
theorem win_step (h : x.s.Kept (Pv t v M K)) (hM : M ≤ 100000000) (hK : K < 1000000000000000000) : x.win.1.s.Kept (Pv t v (M + 16) (K + 1)) ∧ x.win.1.id = x.id ∧ x.win.1.ps.length = x.ps.length ∧ x.win.1.pat = 0 ∧ (x.win.1.s.dn = true → x.win.2 = []) ∧ ∀ m ∈ x.win.2, Says x.win.1 m := by
  obtain ⟨h1, h2⟩ := Kept.entry (x := x.led) (show x.led.s.Kept _ from h) hM hK ⟨#[]⟩ (by decide)
  have hz : (⟨#[]⟩ : ByteArray).size = 0 := rfl
  rw [hz, Nat.add_zero] at h1
  obtain ⟨c1, c2, c3, c4⟩ := count_same (x.led.add ⟨#[]⟩)
  have e0 : (x.led.add ⟨#[]⟩).ps.length = x.ps.length := by show (List.replicate _ _).length = _; rw [List.length_replicate]
  unfold RN.win
  split
  · exact ⟨h1, rfl, e0, rfl, fun _ => rfl, fun m hm => by cases hm⟩
  · rename_i h3
    refine ⟨by rw [c1]; exact h1, c2, by rw [c3]; exact e0, c4, fun hd => ?_, Says.all _ _⟩
    rw [c1] at hd
    exact absurd (Ans.dn3 h2 hd) h3
theorem stand_step (h : x.s.Kept (Pv t v M K)) (hM : M ≤ 90000000) (hK : K ≤ 10000000000000000) (hid : x.id ≤ 1000) : RN.Step x x.stand t v (M + 16) (K + 2) := by
  have hT := h.own.term
  obtain ⟨h1, h2⟩ := Kept.term (t' := x.s.c.term + 1) (u := (x.id : Int)) (Kept.up h (Nat.le_refl M) (Nat.le_succ K)) (by omega) (by omega) (by omega) (by omega) (.inl (by omega))
  unfold RN.stand
  split
  · rename_i h0
    have hc := Ans.zero h2 h0
    have hlen : (x.cand (x.s.setTerm (x.s.c.term + 1) (x.id : Int)).1).ps.length = x.ps.length := by show (List.set _ _ _).length = _; rw [List.length_set, List.length_replicate]
    split
    · obtain ⟨k1, k2, k3, k4, k5, k6⟩ := win_step (x := x.cand (x.s.setTerm (x.s.c.term + 1) (x.id : Int)).1) h1 (by omega) (by omega)
      exact ⟨k1, k2, k3.trans hlen, by rw [k4]; omega, k5, k6⟩
    · refine ⟨Kept.up h1 (by omega) (by omega), rfl, hlen, Nat.zero_le _, fun hd => absurd h0 (Ans.dn h2 hd), fun m hm => ?_⟩
      obtain ⟨d, _, rfl⟩ := List.mem_map.1 hm
      refine ⟨fun _ => ⟨rfl, ?_⟩, fun e => by cases e⟩
      show (x.s.setTerm (x.s.c.term + 1) (x.id : Int)).1.c.vote = _
      rw [hc]
      rfl
  · exact ⟨Kept.up h1 (by omega) (by omega), rfl, rfl, Nat.le_succ _, fun _ => rfl, fun m hm => by cases hm⟩
theorem tick_step (h : x.s.Kept (Pv t v M K)) (hM : M ≤ 90000000) (hK : K ≤ 10000000000000000) (hid : x.id ≤ 1000) : RN.Step x x.tick t v (M + 16) (K + 2) := by
  have hd := RN.down_id h.knows
  have hw : x.wait = { x with pat := x.pat + 1 } := by unfold RN.wait; rw [hd]
  have hb : x.beat = { x with pat := 0 } := by unfold RN.beat; rw [hd]
  have h1 := Kept.up h (Nat.le_add_right M 16) (Nat.le_add_right K 2)
  unfold RN.tick
  rw [h.knows.or, hd, hw, hb]
  split
  · exact ⟨h1, rfl, rfl, Nat.le_succ _, fun _ => rfl, fun m hm => by cases hm⟩
  · rename_i h0
    split
    · split
      · exact ⟨h1, rfl, rfl, Nat.zero_le _, fun e => absurd e h0, Says.all _ _⟩
      · exact ⟨h1, rfl, rfl, Nat.le_refl _, fun _ => rfl, fun m hm => by cases hm⟩
    · split
      · have k := stand_step (x := { x with pat := x.pat + 1 }) h hM hK hid
        have hp : (RN.stand { x with pat := x.pat + 1 }).1.pat ≤ x.pat + 1 := by
          unfold RN.stand
          split
          · split
            · rw [(win_step (x := RN.cand { x with pat := x.pat + 1 } _) (Kept.term (t' := x.s.c.term + 1) (u := (x.id : Int)) (Kept.up h (Nat.le_refl M) (Nat.le_succ K)) (by omega) (by have := h.own.term; omega) (by omega) (by omega) (.inl (by omega))).1 (by omega) (by omega)).2.2.2.1]
              omega
            · exact Nat.zero_le _
          · exact Nat.le_refl _
        exact ⟨k.kept, k.id, k.len, hp, k.quiet, k.said⟩
      · exact ⟨h1, rfl, rfl, Nat.le_refl _, fun _ => rfl, fun m hm => by cases hm⟩
theorem asked_step (h : x.s.Kept (Pv t v M K)) (hdn : x.s.dn = false) (hM : M ≤ 90000000) (hK : K ≤ 10000000000000000) (m : Mg) (hs : m.src ≤ 1000) (hs0 : 0 ≤ m.src) : RN.Step x (x.asked m) t v M K := by
  unfold RN.asked
  split
  · rename_i hg
    unfold RN.grants at hg
    simp only [Bool.and_eq_true, decide_eq_true_eq, Bool.or_eq_true] at hg
    obtain ⟨h1, h2⟩ := Kept.term (t' := m.term) (u := m.src) h (by omega) (by have := h.own.term; omega) (by omega) (by omega) (.inr ⟨hg.1.1.1.symm, hg.1.2⟩)
    split
    · rename_i h0
      have hc := Ans.zero h2 h0
      refine ⟨h1, rfl, rfl, Nat.zero_le _, fun hd => absurd h0 (Ans.dn h2 hd), fun m' hm => ?_⟩
      obtain rfl := List.mem_singleton.1 hm
      refine ⟨fun e => (by cases e), fun _ _ => ⟨rfl, ?_, hs0⟩⟩
      show (x.s.setTerm m.term m.src).1.c.vote = m.src
      rw [hc]
    · exact ⟨h1, rfl, rfl, Nat.le_succ _, fun _ => rfl, fun m hm => by cases hm⟩
  · refine ⟨h, rfl, rfl, Nat.le_succ _, fun hd => (by rw [show x.s.dn = true from hd] at hdn; cases hdn), fun m' hm => ?_⟩
    obtain rfl := List.mem_singleton.1 hm
    exact ⟨fun e => (by cases e), fun _ e => by cases e⟩
theorem Step.up {q : RN × List Mg} (h : RN.Step x q t v M K) (hM : M ≤ M2) (hK : K ≤ K2) : RN.Step x q t v M2 K2 := ⟨Kept.up h.kept hM hK, h.id, h.len, h.pat, h.quiet, h.said⟩
theorem chosen_step (h : x.s.Kept (Pv t v M K)) (hM : M ≤ 90000000) (hK : K ≤ 10000000000000000) (m : Mg) (d : Nat) : RN.Step x (x.chosen m d) t v (M + 16) (K + 1) := by
  have hlen : (x.got d).ps.length = x.ps.length := by show (List.set _ _ _).length = _; rw [List.length_set]
  unfold RN.chosen
  split
  · split
    · obtain ⟨k1, k2, k3, k4, k5, k6⟩ := win_step (x := x.got d) h (by omega) (by omega)
      exact ⟨k1, k2, k3.trans hlen, by rw [k4]; omega, k5, k6⟩
    · exact ⟨Kept.up h (by omega) (by omega), rfl, hlen, Nat.le_succ _, fun _ => rfl, fun m hm => by cases hm⟩
  · exact ⟨Kept.up h (by omega) (by omega), rfl, rfl, Nat.le_succ _, fun _ => rfl, fun m hm => by cases hm⟩
theorem entsL_tail (e : Ent) (E : List Ent) : (entsL E).length ≤ (entsL (e :: E)).length := by rw [entsL_cons]; simp only [List.length_append]; omega
theorem keep_step (h : x.s.Kept (Pv t v M K)) (hdn : x.s.dn = false) (hM : M ≤ 90000000) (hK : K ≤ 10000000000000000) : ∀ (E : List Ent) (b : Nat), EntsOk E → b + E.length ≤ K → (entsL E).length ≤ 90000000 →
    (x.keep b E).1.s.Kept (Pv t v (M + (entsL E).length) K) ∧ (x.keep b E).1.id = x.id ∧ (x.keep b E).1.ps = x.ps ∧ (x.keep b E).1.pat = x.pat ∧ ((x.keep b E).2 = true → (x.keep b E).1.s.dn = false)
  | [], b, _, _, _ => ⟨Kept.up h (Nat.le_add_right _ _) (Nat.le_refl _), rfl, rfl, rfl, fun _ => hdn⟩
  | e :: E, b, hE, hb, hl => by
    have ht := entsL_tail e E
    unfold RN.keep
    split
    · obtain ⟨k1, k2⟩ := keep_step h hdn hM hK E (b + 1) (fun y hy => hE y (List.mem_cons_of_mem _ hy)) (by simp only [List.length_cons] at hb; omega) (by omega)
      exact ⟨Kept.up k1 (by omega) (Nat.le_refl _), k2⟩
    · split
      · exact ⟨Kept.up h (Nat.le_add_right _ _) (Nat.le_refl _), rfl, rfl, rfl, fun e => by cases e⟩
      · obtain ⟨k1, k2⟩ := Kept.ents (b := b) (E := e :: E) h (by omega) hE hb (by omega) (by omega)
        refine ⟨k1, rfl, rfl, rfl, fun e0 => ?_⟩
        have e0 : (x.s.add b (e :: E)).2 = 0 := by simpa using e0
        show (x.s.add b (e :: E)).1.dn = false
        cases hd : (x.s.add b (e :: E)).1.dn with
        | false => rfl
        | true => exact absurd e0 (Ans.dn k2 hd)
theorem take2_step (h : x.s.Kept (Pv t v M K)) (hdn : x.s.dn = false) (hM : M ≤ 90000000) (hK : K ≤ 10000000000000000) (m : Mg) (b : Nat) (E : List Ent) (hE : EntsOk E) (hb : b + E.length ≤ K) (hl : (entsL E).length ≤ 90000000) : RN.Step x (x.take2 m b E) t v (M + (entsL E).length) K := by
  obtain ⟨k1, k2, k3, k4, k5⟩ := keep_step h hdn hM hK E b hE hb hl
  unfold RN.take2
  split
  · rename_i h0
    refine ⟨k1, k2, by show (x.keep b E).1.ps.length = _; rw [k3], by show (x.keep b E).1.pat ≤ _; rw [k4]; omega, fun hd => ?_, fun m' hm => ?_⟩
    · have hd : (x.keep b E).1.s.dn = true := hd
      rw [k5 h0] at hd; cases hd
    · obtain rfl := List.mem_singleton.1 hm
      exact Says.ans _ _ _ _ _
  · exact ⟨k1, k2, by show (x.keep b E).1.ps.length = _; rw [k3], by show (x.keep b E).1.pat ≤ _; rw [k4]; omega, fun _ => rfl, fun m hm => by cases hm⟩
theorem still_step (h : x.s.Kept (Pv t v M K)) (hdn : x.s.dn = false) (l : List Mg) (hs : ∀ m ∈ l, Says x m) : RN.Step x (x, l) t v M K :=
  ⟨h, rfl, rfl, Nat.le_succ _, fun hd => (by rw [show x.s.dn = true from hd] at hdn; cases hdn), hs⟩
theorem one_ans (x : RN) (d : Int) (ok : Bool) (i : Nat) : ∀ m ∈ [x.ans d ok i], Says x m := fun m hm => by
  obtain rfl := List.mem_singleton.1 hm
  exact Says.ans _ _ _ _ _
theorem entsL_drop' (E : List Ent) (k : Nat) : (entsL (E.drop k)).length ≤ (entsL E).length := entsL_drop E k
theorem take_step (h : x.s.Kept (Pv t v M K)) (hdn : x.s.dn = false) (hM : M ≤ 90000000) (hK : K ≤ 10000000000000000) (m : Mg) (hE : EntsOk m.ents) (hb : m.index + m.ents.length ≤ K) (hl : (entsL m.ents).length ≤ 90000000) : RN.Step x (x.take m) t v (M + (entsL m.ents).length) K := by
  have h1 := Kept.up h (Nat.le_add_right M (entsL m.ents).length) (Nat.le_refl K)
  unfold RN.take
  split
  · split
    · exact still_step h1 hdn _ (one_ans _ _ _ _)
    · have hd := entsL_drop' m.ents (x.s.c.base - m.index)
      exact Step.up (take2_step h hdn hM hK m x.s.c.base _ (fun y hy => hE y (List.mem_of_mem_drop hy)) (by rw [List.length_drop]; omega) (by omega)) (by omega) (Nat.le_refl _)
  · split
    · exact take2_step h hdn hM hK m _ _ hE hb hl
    · exact still_step h1 hdn _ (one_ans _ _ _ _)
theorem install_step (h : x.s.Kept (Pv t v M K)) (hdn : x.s.dn = false) (m : Mg) (hM : M + m.state.size ≤ 90000000) (hK : K ≤ 10000000000000000) (hb : m.index ≤ K) (hl : m.lterm ≤ K) : RN.Step x (x.install m) t v (M + m.state.size) K := by
  unfold RN.install
  split
  · obtain ⟨k1, k2⟩ := Kept.inst (i := m.index) (u := m.lterm) (st := m.state) h (by omega) hb (by omega) (by unfold m64; omega)
    split
    · rename_i h0
      refine ⟨k1, rfl, rfl, Nat.le_succ _, fun hd => absurd h0 (Ans.dn k2 hd), fun m' hm => ?_⟩
      obtain rfl := List.mem_singleton.1 hm
      exact Says.ans _ _ _ _ _
    · exact ⟨k1, rfl, rfl, Nat.le_succ _, fun _ => rfl, fun m hm => by cases hm⟩
  · exact still_step (Kept.up h (Nat.le_add_right _ _) (Nat.le_refl _)) hdn _ (one_ans _ _ _ _)
theorem Step.follow {q : RN × List Mg} {l : Int} (h : RN.Step (x.follow l) q t v M K) (hp : q.1.pat ≤ 1) : RN.Step x q t v M K := ⟨h.kept, h.id, h.len, by omega, h.quiet, h.said⟩
theorem led2_step (h : x.s.Kept (Pv t v M K)) (hdn : x.s.dn = false) (m : Mg) (hM : M + m.state.size ≤ 90000000) (hK : K ≤ 10000000000000000) (hE : EntsOk m.ents) (hb : m.index + m.ents.length ≤ K) (hl : m.lterm ≤ K) (hes : (entsL m.ents).length ≤ 90000000) :
    RN.Step x (x.led2 m) t v (M + (entsL m.ents).length + m.state.size) K := by
  have h1 := Kept.up h (show M ≤ M + (entsL m.ents).length + m.state.size by omega) (Nat.le_refl K)
  unfold RN.led2
  split
  · exact still_step h1 hdn _ (one_ans _ _ _ _)
  · split
    · exact still_step h1 hdn _ (fun m hm => by cases hm)
    · split
      · have k := install_step (x := x.follow m.src) h hdn m hM hK (by omega) hl
        exact Step.follow (Step.up k (by omega) (Nat.le_refl _)) (Nat.le_trans k.pat (Nat.le_refl 1))
      · have k := take_step (x := x.follow m.src) h hdn (by omega) hK m hE hb hes
        exact Step.follow (Step.up k (by omega) (Nat.le_refl _)) (Nat.le_trans k.pat (Nat.le_refl 1))
theorem told_step (h : x.s.Kept (Pv t v M K)) (hdn : x.s.dn = false) (m : Mg) (d : Nat) : RN.Step x (x.told m d) t v M K := by
  have el : (x.goes m d).ps.length = x.ps.length := by show (List.set _ _ _).length = _; rw [List.length_set]
  have eb : (x.backs m d).ps.length = x.ps.length := by show (List.set _ _ _).length = _; rw [List.length_set]
  obtain ⟨c1, c2, c3, c4⟩ := count_same (x.goes m d)
  have hx : ∀ {l : List Mg}, (∀ m' ∈ l, Says (x.goes m d).count m') → RN.Step x ((x.goes m d).count, l) t v M K := fun hl =>
    ⟨by show (x.goes m d).count.s.Kept _; rw [c1]; exact h, c2, by show (x.goes m d).count.ps.length = _; rw [c3]; exact el, by show (x.goes m d).count.pat ≤ _; rw [c4]; exact Nat.le_succ _, fun hd => (by have hd : (x.goes m d).count.s.dn = true := hd; rw [c1] at hd; rw [show x.s.dn = true from hd] at hdn; cases hdn), hl⟩
  unfold RN.told
  split
  · split
    · split
      · exact hx fun m hm => by cases hm
      · exact hx fun m' hm => by
          obtain rfl := List.mem_singleton.1 hm
          exact Says.feed _ _ _
    · refine ⟨h, rfl, eb, Nat.le_succ _, fun hd => (by rw [show x.s.dn = true from hd] at hdn; cases hdn), fun m' hm => ?_⟩
      obtain rfl := List.mem_singleton.1 hm
      exact Says.feed _ _ _
  · exact still_step h hdn _ (fun m hm => by cases hm)
theorem kindly_step (h : x.s.Kept (Pv t v M K)) (hdn : x.s.dn = false) (m : Mg) (hM : M + m.state.size ≤ 90000000) (hK : K ≤ 10000000000000000) (hE : EntsOk m.ents) (hb : m.index + m.ents.length ≤ K) (hl : m.lterm ≤ K) (hes : (entsL m.ents).length ≤ 90000000) (hs : m.src ≤ 1000) (hs0 : 0 ≤ m.src) :
    RN.Step x (x.kindly m) t v (M + (entsL m.ents).length + m.state.size + 16) (K + 1) := by
  unfold RN.kindly
  split
  · exact Step.up (asked_step h hdn (by omega) hK m hs hs0) (by omega) (by omega)
  · split
    · exact Step.up (chosen_step h (by omega) hK m _) (by omega) (by omega)
    · split
      · exact Step.up (led2_step h hdn m hM hK hE hb hl hes) (by omega) (by omega)
      · split
        · exact Step.up (told_step h hdn m _) (by omega) (by omega)
        · exact Step.up (still_step h hdn _ (fun m hm => by cases hm)) (by omega) (by omega)
theorem join_step (h : x.s.Kept (Pv t v M K)) (hM : M ≤ 90000000) (hK : K ≤ 10000000000000000) (u : Nat) (hu : u ≤ K) (ht : x.s.c.term < u) :
    (x.join u).1.s.Kept (Pv t v M K) ∧ (x.join u).1.id = x.id ∧ (x.join u).1.ps = x.ps ∧ (x.join u).1.pat = x.pat ∧ ((x.join u).2 = true → (x.join u).1.s.dn = false) := by
  obtain ⟨k1, k2⟩ := Kept.term (t' := u) (u := -1) h (by omega) hu (by omega) (by omega) (.inl ht)
  unfold RN.join
  split
  · rename_i h0
    refine ⟨k1, rfl, rfl, rfl, fun _ => ?_⟩
    show (x.s.setTerm u (-1)).1.dn = false
    cases hd : (x.s.setTerm u (-1)).1.dn with
    | false => rfl
    | true => exact absurd h0 (Ans.dn k2 hd)
  · exact ⟨k1, rfl, rfl, rfl, fun e => by cases e⟩
theorem receive_step (h : x.s.Kept (Pv t v M K)) (hn : x.ps.length ≤ 9) (m : Mg) (hM : M + m.state.size ≤ 90000000) (hK : K ≤ 10000000000000000) (hE : EntsOk m.ents) (hb : m.index + m.ents.length ≤ K) (hl : m.lterm ≤ K) (hu : m.term ≤ K) (hes : (entsL m.ents).length ≤ 90000000) :
    RN.Step x (x.receive m) t v (M + (entsL m.ents).length + m.state.size + 16) (K + 1) := by
  have h1 := Kept.up h (show M ≤ M + (entsL m.ents).length + m.state.size + 16 by omega) (Nat.le_succ K)
  unfold RN.receive
  split
  · exact ⟨h1, rfl, rfl, Nat.le_succ _, fun _ => rfl, fun m hm => by cases hm⟩
  · rename_i h0
    obtain ⟨l1, l2, l3, l4, l5⟩ := leaves_not (by simpa using h0)
    split
    · rename_i ht
      obtain ⟨k1, k2, k3, k4, k5⟩ := join_step h (by omega) hK m.term hu ht
      split
      · rename_i hj
        have k := kindly_step (x := (x.join m.term).1) k1 (k5 hj) m hM hK hE hb hl hes (by omega) (by omega)
        exact ⟨k.kept, k.id.trans k2, k.len.trans (by rw [k3]), by have := k.pat; rw [k4] at this; exact this, k.quiet, k.said⟩
      · exact ⟨Kept.up k1 (by omega) (by omega), k2, by rw [k3], by show (x.join m.term).1.pat ≤ _; rw [k4]; omega, fun _ => rfl, fun m hm => by cases hm⟩
    · exact kindly_step h l1 m hM hK hE hb hl hes (by omega) (by omega)
theorem propose_step (h : x.s.Kept (Pv t v M K)) (cmd : ByteArray) (hc : cmd.size ≤ 1000000) (hM : M ≤ 90000000) (hK : K ≤ 10000000000000000) : RN.Step x ((x.propose cmd).1, (x.propose cmd).2.2.2) t v (M + cmd.size + 16) (K + 1) := by
  obtain ⟨k1, k2⟩ := Kept.entry h (by omega) (by omega) cmd hc
  obtain ⟨c1, c2, c3, c4⟩ := count_same (x.add cmd)
  unfold RN.propose
  split
  · split
    · rename_i h0
      refine ⟨by show (x.add cmd).count.s.Kept _; rw [c1]; exact k1, c2, by show (x.add cmd).count.ps.length = _; rw [c3]; rfl, by show (x.add cmd).count.pat ≤ _; rw [c4]; exact Nat.le_succ _, fun hd => ?_, Says.all _ _⟩
      have hd : (x.add cmd).count.s.dn = true := hd
      rw [c1] at hd
      exact absurd h0 (Ans.dn k2 hd)
    · exact ⟨k1, rfl, rfl, Nat.le_succ _, fun _ => rfl, fun m hm => by cases hm⟩
  · exact ⟨Kept.up h (by omega) (by omega), rfl, rfl, Nat.le_succ _, fun _ => rfl, fun m hm => by cases hm⟩
end
end Go.Proofs.YtflkdgghpmhbgaaGreat
namespace Go.Proofs.YtflkdgghpmhbgaaGreat
open Go.RowKit

section
variable {w : World} {p : Pl} {x : RN} {M K : Nat}
theorem RN.In.join (h : x.In M K) (t : Nat) (ht : t ≤ K) (hK : K ≤ 1000000000000000000) : (x.join t).1.In (M + 41) K := by
  unfold RN.join
  split
  · exact h.setTerm t (-1) 0 (-1) x.pat ht hK (by omega) h.pat
  · exact h.setTerm t (-1) x.role x.leader x.pat ht hK (by omega) h.pat
theorem RN.In.asked (h : x.In M K) (m : Mg) (ht : m.term ≤ K) (hs : m.src ≤ 1000) (hK : K ≤ 1000000000000000000) : (x.asked m).1.In (M + 41) K := by
  unfold RN.asked
  split
  · split
    · exact h.setTerm m.term m.src x.role x.leader 0 ht hK (by omega) (by omega)
    · exact h.setTerm m.term m.src x.role x.leader x.pat ht hK (by omega) h.pat
  · exact h.mono (by omega) (Nat.le_refl _)
theorem RN.In.chosen (h : x.In M K) (m : Mg) (d : Nat) (hM : M ≤ 90000000) (hK : K ≤ 100000000000000000) : (x.chosen m d).1.In (M + 49) (K + 1) := by
  unfold RN.chosen
  split
  · split
    · exact (h.got d).win hM hK
    · exact (h.got d).mono (by omega) (by omega)
  · exact h.mono (by omega) (by omega)
theorem RN.In.kindly (h : x.In M K) (m : Mg) (hM : M ≤ 80000000) (hK : K ≤ 10000000000000000) (hE : EntsOk m.ents) (hb : m.index + m.ents.length ≤ K) (hl : m.lterm ≤ K) (hu : m.term ≤ K) (hst : m.state.size ≤ 1000000) (hs : m.src ≤ 1000) :
    (x.kindly m).1.In (M + (entsL m.ents).length + m.state.size + 49) (K + 1) := by
  unfold RN.kindly
  split
  · exact (h.asked m hu hs (by omega)).mono (by omega) (by omega)
  · split
    · exact (h.chosen m _ (by omega) (by omega)).mono (by omega) (by omega)
    · split
      · exact (h.led2 (by omega) (by omega) m hE hb hl hst).mono (by omega) (by omega)
      · split
        · exact (h.told m _).mono (by omega) (by omega)
        · exact h.mono (by omega) (by omega)
theorem RN.In.receive (h : x.In M K) (m : Mg) (hM : M ≤ 70000000) (hK : K ≤ 10000000000000000) (hE : EntsOk m.ents) (hb : m.index + m.ents.length ≤ K) (hl : m.lterm ≤ K) (hu : m.term ≤ K) (hst : m.state.size ≤ 1000000) :
    (x.receive m).1.In (M + (entsL m.ents).length + m.state.size + 90) (K + 1) := by
  have hn := h.n
  unfold RN.receive
  split
  · exact h.mono (by omega) (by omega)
  · rename_i h0
    obtain ⟨l1, l2, l3, l4, l5⟩ := leaves_not (by simpa using h0)
    split
    · have hj := h.join m.term hu (by omega)
      split
      · exact (hj.kindly m (by omega) hK hE hb hl hu hst (by omega)).mono (by omega) (by omega)
      · exact hj.mono (by omega) (by omega)
    · exact (h.kindly m (by omega) hK hE hb hl hu hst (by omega)).mono (by omega) (by omega)
theorem recv_prog (h : XW w p x) (hi : x.In M K) (hM : M ≤ 70000000) (hK : K ≤ 10000000000000000) (hkn : x.s.Knows) (m : Mg) (ev : Value) (hm : MsgAt w p ev m.ents) (hxa : m.ents ≠ [] → p.Far ev)
    (hidx : m.index ≤ 1000000000000000000) (hcm : m.commit ≤ 1000000000000000000) (hlt : m.lterm < m64) (hst : m.state.size ≤ 100000000) (hu : m.term ≤ K) :
    Calls Tryz.prog 23 #[.pointer (some ⟨p.xb, 0, none⟩), .agg (mgL m ev).toArray] w fun e w' => (∃ v, e = .returned v ∧ MOwn w' w.heap.size v (x.receive m).2) ∧ XO p w (x.receive m).1 w' := by
  by_cases hl : x.leaves m = true
  · exact recv_left h hkn hi.n m ev hl
  · have hl : x.leaves m = false := by simpa using hl
    have hmt : m.term < m64 := by unfold m64; omega
    by_cases ht : x.s.c.term < m.term
    · exact recv_gt h (hi.mono (by omega) (Nat.le_refl K)) (hi.join m.term hu (by omega)) (by omega) hK hkn ev hm hxa hidx hcm hlt hst hmt hl ht
    · exact recv_le h hi (by omega) hK hkn m ev hm (fun hne k hk => (hxa hne k hk).1) hidx hcm hlt hst hmt hl (by omega)
end
end Go.Proofs.YtflkdgghpmhbgaaGreat
