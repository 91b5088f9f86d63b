/- raft: slices of messages that grow; toAll. -/
import Derived.Test.YtflkdgghpmhbgaaGreatKG
namespace Go.Proofs.YtflkdgghpmhbgaaGreat
open Go.RowKit

/-- What a node knows of another one: whether it voted for it, the index ahead of next, match. -/
structure Pr where
  v : Bool
  a : Nat
  m : Nat
def prC (l : List Pr) : List Value := l.flatMap fun p => [.bool p.v, .int .u64 (p.a : Int), .int .u64 (p.m : Int)]
theorem prC_length (l : List Pr) : (prC l).length = l.length * 3 := by
  induction l with
  | nil => rfl
  | cons x l ih => simp only [prC, List.flatMap_cons, List.length_append, List.length_cons, List.length_nil] at ih ⊢; omega
theorem prC_get : ∀ (l : List Pr) (i : Nat) (x : Pr), l[i]? = some x → (prC l)[i * 3]? = some (.bool x.v) ∧ (prC l)[i * 3 + 1]? = some (.int .u64 (x.a : Int)) ∧ (prC l)[i * 3 + 2]? = some (.int .u64 (x.m : Int))
  | [], _, _, h => by cases h
  | y :: l, 0, x, h => by
    obtain rfl : y = x := by simpa using h
    exact ⟨rfl, rfl, rfl⟩
  | y :: l, i + 1, x, h => by
    have := prC_get l i x (by simpa using h)
    have e : (prC (y :: l)) = .bool y.v :: .int .u64 (y.a : Int) :: .int .u64 (y.m : Int) :: prC l := rfl
    rw [e, show (i + 1) * 3 = i * 3 + 1 + 1 + 1 by omega]
    exact this
theorem prC_setv : ∀ (l : List Pr) (i : Nat) (x : Pr) (b : Bool), l[i]? = some x → (prC l).set (i * 3) (.bool b) = prC (l.set i { x with v := b })
  | [], _, _, _, h => by cases h
  | y :: l, 0, x, b, h => by
    obtain rfl : y = x := by simpa using h
    rfl
  | y :: l, i + 1, x, b, h => by
    have := prC_setv l i x b (by simpa using h)
    have e : (prC (y :: l)) = .bool y.v :: .int .u64 (y.a : Int) :: .int .u64 (y.m : Int) :: prC l := rfl
    rw [e, show (i + 1) * 3 = i * 3 + 1 + 1 + 1 by omega]
    simp only [List.set_cons_succ, this]
    rfl
theorem prC_seta : ∀ (l : List Pr) (i : Nat) (x : Pr) (b : Nat), l[i]? = some x → (prC l).set (i * 3 + 1) (.int .u64 (b : Int)) = prC (l.set i { x with a := b })
  | [], _, _, _, h => by cases h
  | y :: l, 0, x, b, h => by
    obtain rfl : y = x := by simpa using h
    rfl
  | y :: l, i + 1, x, b, h => by
    have := prC_seta l i x b (by simpa using h)
    have e : (prC (y :: l)) = .bool y.v :: .int .u64 (y.a : Int) :: .int .u64 (y.m : Int) :: prC l := rfl
    rw [e, show (i + 1) * 3 + 1 = i * 3 + 1 + 1 + 1 + 1 by omega]
    simp only [List.set_cons_succ, this]
    rfl
theorem prC_setm : ∀ (l : List Pr) (i : Nat) (x : Pr) (b : Nat), l[i]? = some x → (prC l).set (i * 3 + 2) (.int .u64 (b : Int)) = prC (l.set i { x with m := b })
  | [], _, _, _, h => by cases h
  | y :: l, 0, x, b, h => by
    obtain rfl : y = x := by simpa using h
    rfl
  | y :: l, i + 1, x, b, h => by
    have := prC_setm l i x b (by simpa using h)
    have e : (prC (y :: l)) = .bool y.v :: .int .u64 (y.a : Int) :: .int .u64 (y.m : Int) :: prC l := rfl
    rw [e, show (i + 1) * 3 + 2 = i * 3 + 2 + 1 + 1 + 1 by omega]
    simp only [List.set_cons_succ, this]
    rfl

/-- A node: its number, its log, its role, whom it takes for the leader, its commit index, its patience, the others. -/
structure RN where
  id : Nat
  s : LgS
  role : Int
  leader : Int
  commit : Nat
  pat : Nat
  ps : List Pr
def nodeC (x : RN) (lb nb : Nat) : List Value := [.int .i64 (x.id : Int), .pointer (some ⟨lb, 0, none⟩), .int .i64 x.role, .int .i64 x.leader, .int .u64 (x.commit : Int), .int .i64 (x.pat : Int), .slice (some ⟨nb, 0, none⟩) x.ps.length x.ps.length]
/-- Where a node lies: its block, its log's, its disk's, its peers', the log's entries and the disk's bytes. -/
structure Pl where
  xb : Nat
  lb : Nat
  db : Nat
  nb : Nat
  v : Value
  dv : Value
structure XW (w : World) (p : Pl) (x : RN) : Prop where
  node : w.heap[p.xb]? = some (.cells (nodeC x p.lb p.nb).toArray 127 (0, 0))
  peers : w.heap[p.nb]? = some (.cells (prC x.ps).toArray 188 (0, 0))
  lw : LW w p.lb p.db p.v p.dv x.s
/-- From w to w' only the node's blocks have turned. -/
structure XCh (p : Pl) (w w' : World) (p' : Pl) : Prop where
  os : w'.os = w.os
  tape : w'.tape = w.tape
  output : w'.output = w.output
  size : w.heap.size ≤ w'.heap.size
  block : ∀ j, j < w.heap.size → j ≠ p.xb → j ≠ p.nb → j ≠ p.lb → j ≠ p.db → p.v.ownBlock ≠ some j → p.dv.ownBlock ≠ some j → w'.heap[j]? = w.heap[j]?
  vloc : ∀ j, p'.v.ownBlock = some j → p.v.ownBlock = some j ∨ w.heap.size ≤ j
  dloc : ∀ j, p'.dv.ownBlock = some j → p.dv.ownBlock = some j ∨ w.heap.size ≤ j
  xb : p'.xb = p.xb
  lb : p'.lb = p.lb
  db : p'.db = p.db
  nb : p'.nb = p.nb
/-- What a call leaves: the node is so, and nothing else has turned. -/
def XO (p : Pl) (w : World) (x : RN) (w' : World) : Prop := ∃ p', XW w' p' x ∧ XCh p w w' p'
section
variable {w w' : World} {p p' : Pl} {x : RN}
theorem XCh.refl (p : Pl) (w : World) : XCh p w w p := ⟨rfl, rfl, rfl, Nat.le_refl _, fun _ _ _ _ _ _ _ _ => rfl, fun _ h => .inl h, fun _ h => .inl h, rfl, rfl, rfl, rfl⟩
theorem XCh.trans {p1 p2 p3 : Pl} {w1 w2 w3 : World} (h : XCh p1 w1 w2 p2) (k : XCh p2 w2 w3 p3) : XCh p1 w1 w3 p3 :=
  ⟨k.os.trans h.os, k.tape.trans h.tape, k.output.trans h.output, Nat.le_trans h.size k.size,
   fun j hj h1 h2 h3 h4 h5 h6 => (k.block j (Nat.lt_of_lt_of_le hj h.size) (by rw [h.xb]; exact h1) (by rw [h.nb]; exact h2) (by rw [h.lb]; exact h3) (by rw [h.db]; exact h4) (fun e => by
     rcases h.vloc j e with e2 | e2
     · exact h5 e2
     · omega) (fun e => by
     rcases h.dloc j e with e2 | e2
     · exact h6 e2
     · omega)).trans (h.block j hj h1 h2 h3 h4 h5 h6),
   fun j hj => by
     rcases k.vloc j hj with e | e
     · exact h.vloc j e
     · exact .inr (Nat.le_trans h.size e),
   fun j hj => by
     rcases k.dloc j hj with e | e
     · exact h.dloc j e
     · exact .inr (Nat.le_trans h.size e),
   k.xb.trans h.xb, k.lb.trans h.lb, k.db.trans h.db, k.nb.trans h.nb⟩
theorem XCh.ofBelow (p : Pl) (h : Below w.heap.size w w') : XCh p w w' p := ⟨h.os, h.tape, h.output, h.size, fun j hj _ _ _ _ _ _ => h.block j hj, fun _ h => .inl h, fun _ h => .inl h, rfl, rfl, rfl, rfl⟩
theorem XCh.ofLog {v' dv' : Value} (h : LCh p.lb p.db p.v p.dv w w' v' dv') : XCh p w w' { p with v := v', dv := dv' } := ⟨h.os, h.tape, h.output, h.size, fun j hj _ _ h3 h4 h5 h6 => h.block j hj h3 h4 h5 h6, h.vloc, h.dloc, rfl, rfl, rfl, rfl⟩
theorem XCh.setX (p : Pl) (w : World) (o : Nat) (y : Value) : XCh p w (w.setCell ⟨p.xb, o, none⟩ y) p :=
  ⟨rfl, rfl, rfl, by simp, fun j _ h1 _ _ _ _ _ => heap_setCell_other w ⟨p.xb, o, none⟩ j y h1, fun _ h => .inl h, fun _ h => .inl h, rfl, rfl, rfl, rfl⟩
theorem XCh.setP (p : Pl) (w : World) (o : Nat) (y : Value) : XCh p w (w.setCell ⟨p.nb, o, none⟩ y) p :=
  ⟨rfl, rfl, rfl, by simp, fun j _ _ h2 _ _ _ _ => heap_setCell_other w ⟨p.nb, o, none⟩ j y h2, fun _ h => .inl h, fun _ h => .inl h, rfl, rfl, rfl, rfl⟩
theorem XCh.onlyP (p : Pl) (h : Only p.nb w w') : XCh p w w' p := ⟨h.os, h.tape, h.output, h.size, fun j hj _ h2 _ _ _ _ => h.block j hj h2, fun _ h => .inl h, fun _ h => .inl h, rfl, rfl, rfl, rfl⟩
theorem XW.xlt (h : XW w p x) : p.xb < w.heap.size := block_lt h.node
theorem XW.nlt (h : XW w p x) : p.nb < w.heap.size := block_lt h.peers
/-- Two blocks of unlike types are two. -/
theorem ty_ne {w : World} {a b : Nat} {c1 c2 : Array Value} {t1 t2 : TypeId} {f1 f2 : Nat × Nat} (h1 : w.heap[a]? = some (.cells c1 t1 f1)) (h2 : w.heap[b]? = some (.cells c2 t2 f2)) (hne : t1 ≠ t2) : a ≠ b := fun e => by
  rw [e, h2] at h1
  injection h1 with h1
  injection h1 with _ h1 _
  exact hne h1.symm
/-- A block of another type than those of logs and disks is none of theirs. -/
theorem LW.far {lb db b : Nat} {v dv : Value} {s : LgS} {c : Array Value} {t : TypeId} {f : Nat × Nat} (h : LW w lb db v dv s) (hb : w.heap[b]? = some (.cells c t f)) (h1 : t ≠ 121) (h2 : t ≠ 124) (h3 : t ≠ 70) (h4 : t ≠ 5) :
    b ≠ lb ∧ b ≠ db ∧ v.ownBlock ≠ some b ∧ dv.ownBlock ≠ some b := by
  refine ⟨ty_ne hb h.log.1 h1, ty_ne hb h.disk.1 h2, fun e => ?_, fun e => ?_⟩
  · obtain ⟨cur, hk⟩ := h.log.2.1.typ b e
    exact ty_ne hb hk h3 rfl
  · obtain ⟨cur, fz, hk⟩ := h.disk.2.1.typ b e
    exact ty_ne hb hk h4 rfl
theorem XW.xfar (h : XW w p x) : p.xb ≠ p.lb ∧ p.xb ≠ p.db ∧ p.v.ownBlock ≠ some p.xb ∧ p.dv.ownBlock ≠ some p.xb := h.lw.far h.node (by decide) (by decide) (by decide) (by decide)
theorem XW.nfar (h : XW w p x) : p.nb ≠ p.lb ∧ p.nb ≠ p.db ∧ p.v.ownBlock ≠ some p.nb ∧ p.dv.ownBlock ≠ some p.nb := h.lw.far h.peers (by decide) (by decide) (by decide) (by decide)
theorem XW.xn (h : XW w p x) : p.xb ≠ p.nb := ty_ne h.node h.peers (by decide)
theorem XW.later (h : XW w p x) (hb : Below w.heap.size w w') : XW w' p x := ⟨(hb.block _ h.xlt).trans h.node, (hb.block _ h.nlt).trans h.peers, h.lw.later hb⟩
theorem XW.byLog {v' dv' : Value} {s' : LgS} (h : XW w p x) (hl : LW w' p.lb p.db v' dv' s') (hc : LCh p.lb p.db p.v p.dv w w' v' dv') : XW w' { p with v := v', dv := dv' } { x with s := s' } := by
  obtain ⟨a1, a2, a3, a4⟩ := h.xfar
  obtain ⟨b1, b2, b3, b4⟩ := h.nfar
  exact ⟨(hc.block _ h.xlt a1 a2 a3 a4).trans h.node, (hc.block _ h.nlt b1 b2 b3 b4).trans h.peers, hl⟩
theorem XO.ofLog {s' : LgS} (h : XW w p x) (ho : LO p.lb p.db p.v p.dv w s' w') : XO p w { x with s := s' } w' := by
  obtain ⟨v', dv', hl, hc⟩ := ho
  exact ⟨_, h.byLog hl hc, XCh.ofLog hc⟩
theorem XO.get (h : XO p w x w') : ∃ v' dv', XW w' { p with v := v', dv := dv' } x ∧ XCh p w w' { p with v := v', dv := dv' } := by
  obtain ⟨⟨xb, lb, db, nb, v', dv'⟩, h1, h2⟩ := h
  obtain rfl : xb = p.xb := h2.xb
  obtain rfl : lb = p.lb := h2.lb
  obtain rfl : db = p.db := h2.db
  obtain rfl : nb = p.nb := h2.nb
  exact ⟨v', dv', h1, h2⟩
theorem XO.of (h : XW w' p' x) (hc : XCh p w w' p') : XO p w x w' := ⟨p', h, hc⟩
theorem XO.trans {w2 : World} {p2 : Pl} (hc : XCh p w w2 p2) (h : XO p2 w2 x w') : XO p w x w' := by
  obtain ⟨p3, hl, hc3⟩ := h
  exact ⟨p3, hl, hc.trans hc3⟩
theorem XW.cells (h : XW w p x) : w.cell? ⟨p.xb, 0, none⟩ = some (.int .i64 (x.id : Int)) ∧ w.cell? ⟨p.xb, 1, none⟩ = some (.pointer (some ⟨p.lb, 0, none⟩)) ∧ w.cell? ⟨p.xb, 2, none⟩ = some (.int .i64 x.role) ∧ w.cell? ⟨p.xb, 3, none⟩ = some (.int .i64 x.leader) ∧
    w.cell? ⟨p.xb, 4, none⟩ = some (.int .u64 (x.commit : Int)) ∧ w.cell? ⟨p.xb, 5, none⟩ = some (.int .i64 (x.pat : Int)) ∧ w.cell? ⟨p.xb, 6, none⟩ = some (.slice (some ⟨p.nb, 0, none⟩) x.ps.length x.ps.length) := by
  have h1 := h.node
  simp [World.cell?, h1, nodeC]
theorem XW.free (h : XW w p x) (o : Nat) : w.frozen? ⟨p.xb, o, none⟩ = false := by
  have h1 := h.node
  simp [World.frozen?, h1]
theorem XW.nfree (h : XW w p x) (o : Nat) : w.frozen? ⟨p.nb, o, none⟩ = false := by
  have h1 := h.peers
  simp [World.frozen?, h1]
theorem XW.peer (h : XW w p x) {i : Nat} {q : Pr} (hi : x.ps[i]? = some q) : w.cell? ⟨p.nb, i * 3, none⟩ = some (.bool q.v) ∧ w.cell? ⟨p.nb, i * 3 + 1, none⟩ = some (.int .u64 (q.a : Int)) ∧ w.cell? ⟨p.nb, i * 3 + 2, none⟩ = some (.int .u64 (q.m : Int)) := by
  have h1 := h.peers
  obtain ⟨g1, g2, g3⟩ := prC_get x.ps i q hi
  simp [World.cell?, h1, g1, g2, g3]
theorem LW.setFar {lb db b : Nat} {v dv : Value} {s : LgS} (h : LW w lb db v dv s) (hb : b ≠ lb ∧ b ≠ db ∧ v.ownBlock ≠ some b ∧ dv.ownBlock ≠ some b) (hh : ∀ j, j ≠ b → w'.heap[j]? = w.heap[j]?) : LW w' lb db v dv s :=
  ⟨CtAt.mv h.log (hh lb (Ne.symm hb.1)) fun k hk => hh k (fun e => hb.2.2.1 (by rw [hk, e])), Dk.keep h.disk (hh db (Ne.symm hb.2.1)) fun k hk => hh k (fun e => hb.2.2.2 (by rw [hk, e]))⟩
theorem XW.setX (h : XW w p x) (x2 : RN) (o : Nat) (y : Value) (hs : x2.s = x.s) (hps : x2.ps = x.ps) (hc : ((nodeC x p.lb p.nb).toArray.setIfInBounds o y) = (nodeC x2 p.lb p.nb).toArray) : XW (w.setCell ⟨p.xb, o, none⟩ y) p x2 :=
  ⟨by have := heap_setCell_same w p.xb o _ _ y h.node; rw [hc] at this; exact this, by rw [hps]; exact (heap_setCell_other w ⟨p.xb, o, none⟩ p.nb y h.xn.symm).trans h.peers,
   by rw [hs]; exact h.lw.setFar h.xfar fun j hj => heap_setCell_other w ⟨p.xb, o, none⟩ j y hj⟩
theorem XW.setRole (h : XW w p x) (r : Int) : XW (w.setCell ⟨p.xb, 2, none⟩ (.int .i64 r)) p { x with role := r } := h.setX _ 2 _ rfl rfl (by simp [nodeC])
theorem XW.setLeader (h : XW w p x) (r : Int) : XW (w.setCell ⟨p.xb, 3, none⟩ (.int .i64 r)) p { x with leader := r } := h.setX _ 3 _ rfl rfl (by simp [nodeC])
theorem XW.setCommit (h : XW w p x) (r : Nat) : XW (w.setCell ⟨p.xb, 4, none⟩ (.int .u64 (r : Int))) p { x with commit := r } := h.setX _ 4 _ rfl rfl (by simp [nodeC])
theorem XW.setPat (h : XW w p x) (r : Nat) : XW (w.setCell ⟨p.xb, 5, none⟩ (.int .i64 (r : Int))) p { x with pat := r } := h.setX _ 5 _ rfl rfl (by simp [nodeC])
theorem XW.setP (h : XW w p x) {ps : List Pr} (hl : ps.length = x.ps.length) (hb : w'.heap[p.nb]? = some (.cells (prC ps).toArray 188 (0, 0))) (hh : ∀ j, j ≠ p.nb → w'.heap[j]? = w.heap[j]?) : XW w' p { x with ps := ps } :=
  ⟨by rw [hh _ h.xn]; have := h.node; unfold nodeC at *; rw [hl]; exact this, hb, h.lw.setFar h.nfar hh⟩
theorem set_heap3 {w : World} {b o : Nat} {l : List Value} {t : TypeId} (h : w.heap[b]? = some (.cells l.toArray t (0, 0))) (y : Value) : (w.setCell ⟨b, o, none⟩ y).heap[b]? = some (.cells (l.set o y).toArray t (0, 0)) := by
  have := heap_setCell_same w b o _ _ y h
  simpa using this
theorem XW.setV (h : XW w p x) {i : Nat} {q : Pr} (hi : x.ps[i]? = some q) (b : Bool) : XW (w.setCell ⟨p.nb, i * 3, none⟩ (.bool b)) p { x with ps := x.ps.set i { q with v := b } } :=
  h.setP (by simp) (by rw [set_heap3 h.peers, prC_setv _ _ _ _ hi]) fun j hj => heap_setCell_other w ⟨p.nb, i * 3, none⟩ j _ hj
theorem XW.setA (h : XW w p x) {i : Nat} {q : Pr} (hi : x.ps[i]? = some q) (b : Nat) : XW (w.setCell ⟨p.nb, i * 3 + 1, none⟩ (.int .u64 (b : Int))) p { x with ps := x.ps.set i { q with a := b } } :=
  h.setP (by simp) (by rw [set_heap3 h.peers, prC_seta _ _ _ _ hi]) fun j hj => heap_setCell_other w ⟨p.nb, i * 3 + 1, none⟩ j _ hj
theorem XW.setM (h : XW w p x) {i : Nat} {q : Pr} (hi : x.ps[i]? = some q) (b : Nat) : XW (w.setCell ⟨p.nb, i * 3 + 2, none⟩ (.int .u64 (b : Int))) p { x with ps := x.ps.set i { q with m := b } } :=
  h.setP (by simp) (by rw [set_heap3 h.peers, prC_setm _ _ _ _ hi]) fun j hj => heap_setCell_other w ⟨p.nb, i * 3 + 2, none⟩ j _ hj
end

/-- A message. -/
structure Mg where
  kind : Int
  src : Int
  dst : Int
  term : Nat
  index : Nat
  lterm : Nat
  commit : Nat
  ok : Bool
  ents : List Ent
  state : ByteArray
def mgL (m : Mg) (v : Value) : List Value := [.int .i64 m.kind, .int .i64 m.src, .int .i64 m.dst, .int .u64 (m.term : Int), .int .u64 (m.index : Int), .int .u64 (m.lterm : Int), .int .u64 (m.commit : Int), .bool m.ok, v, .string m.state]
/-- What a message of a node bears without more. -/
def mg0 (kind src dst : Int) (term : Nat) : Mg := ⟨kind, src, dst, term, 0, 0, 0, false, [], ⟨#[]⟩⟩
/-- This value is that message; its entries lie at B and above. -/
def MgV (w : World) (B : Nat) (v : Value) (m : Mg) : Prop := ∃ ev, v = .agg (mgL m ev).toArray ∧ EOwn w B ev m.ents
/-- The cells of messages. -/
def mgC (l : List (Mg × Value)) : List Value := l.flatMap fun q => mgL q.1 q.2
theorem mgC_length (l : List (Mg × Value)) : (mgC l).length = l.length * 10 := by
  induction l with
  | nil => rfl
  | cons x l ih => simp only [mgC, mgL, List.flatMap_cons, List.length_append, List.length_cons, List.length_nil] at ih ⊢; omega
theorem mgC_append (a b : List (Mg × Value)) : mgC (a ++ b) = mgC a ++ mgC b := List.flatMap_append ..
/-- The slice value v owns these messages; no block below B is its own, nor one of theirs. -/
def MOwn (w : World) (B : Nat) (v : Value) (l : List Mg) : Prop := ∃ q : List (Mg × Value), q.map (·.1) = l ∧ w.ownsRow B 40 10 v q.length (mgC q) ∧ ∀ y ∈ q, EOwn w B y.2 y.1.ents
theorem MOwn.nil (w : World) (B : Nat) : MOwn w B (.slice none 0 0) [] := ⟨[], rfl, World.ownsRow_nil _ _ _ _, fun _ h => by cases h⟩
theorem MOwn.later {w w' : World} {B : Nat} {v : Value} {l : List Mg} (h : MOwn w B v l) (hb : Below w.heap.size w w') : MOwn w' B v l := by
  obtain ⟨q, h1, h2, h3⟩ := h
  exact ⟨q, h1, ownN_mv h2 fun k hk => hb.block k (World.ownsRow.lt h2 k hk).2, fun y hy => (h3 y hy).later hb⟩
theorem MOwn.shape {w : World} {B : Nat} {v : Value} {l : List Mg} (h : MOwn w B v l) : ∃ a c, v = .slice a l.length c := by
  obtain ⟨q, h1, h2, _⟩ := h
  have hl : l.length = q.length := by rw [← h1]; simp
  rcases h2.2 with ⟨e1, e2⟩ | ⟨g, cap, cur, hv, _⟩
  · exact ⟨none, 0, by rw [e1, hl, e2]⟩
  · exact ⟨_, cap, by rw [hv, hl]⟩
theorem MOwn.low {w : World} {B : Nat} {v : Value} {l : List Mg} (h : MOwn w B v l) : ∀ k, v.ownBlock = some k → B ≤ k := by
  obtain ⟨q, h1, h2, _⟩ := h
  exact ownN_low h2
theorem MOwn.base {w : World} {B B' : Nat} {v : Value} {l : List Mg} (h : MOwn w B v l) (hB : B' ≤ B) : MOwn w B' v l := by
  obtain ⟨q, h1, h2, h3⟩ := h
  exact ⟨q, h1, ownN_base h2 fun k hk => Nat.le_trans hB (ownN_low h2 k hk), fun y hy => (h3 y hy).base fun k hk => Nat.le_trans hB ((h3 y hy).low k hk)⟩
/-- Messages' block is no entries' one. -/
theorem ownM_ne {w : World} {B n : Nat} {v ev : Value} {xs : List Value} {E : List Ent} (h : w.ownsRow B 40 10 v n xs) (he : EOwn w B ev E) : ∀ k, ev.ownBlock = some k → v.ownBlock ≠ some k := fun k hk e => by
  obtain ⟨cur, hc⟩ := he.typ k hk
  rcases h.2 with ⟨e1, _⟩ | ⟨g, cap, cur2, hv, _, hg, _⟩
  · rw [e1] at e; simp [Value.ownBlock] at e
  · obtain rfl : g = k := by rw [hv] at e; simpa [Value.ownBlock] using e
    exact ty_ne hc hg (by decide) rfl
theorem Tryz.msgSl : ∃ z, SlN Tryz.prog 54 40 z 10 104 := ⟨.agg #[.int .i64 0, .int .i64 0, .int .i64 0, .int .u64 0, .int .u64 0, .int .u64 0, .int .u64 0, .bool false, .slice none 0 0, .string ⟨#[]⟩], Tryz.underlying54, by kernel_rfl, rfl, by decide⟩
end Go.Proofs.YtflkdgghpmhbgaaGreat
namespace Go.Proofs.YtflkdgghpmhbgaaGreat
open Go.RowKit

def RN.down (x : RN) : RN := { x with s := x.s.down }
def RN.maj (x : RN) : Nat := x.ps.length / 2 + 1
def RN.limit (x : RN) : Nat := 10 + (7 * x.id + 3 * (x.s.c.term % 11)) % 11
/-- The bounds within which all numbers of a node stay small. -/
structure RN.Fit (x : RN) : Prop where
  s : x.s.Fit
  id : x.id < x.ps.length
  n : x.ps.length ≤ 9
  term : x.s.c.term ≤ 1000000000000000000
  last : x.s.c.base + x.s.c.ents.length ≤ 1000000000000000000
  commit : x.commit ≤ 1000000000000000000
  pat : x.pat ≤ 1000000000000
  ps : ∀ q ∈ x.ps, q.a ≤ 1000000000000000000 ∧ q.m ≤ 1000000000000000000
section
variable {w : World} {p : Pl} {x : RN}
theorem RN.Fit.few (h : x.Fit) : x.s.c.ents.length ≤ 10000000000 := by have := ents_few h.s.whole; omega
theorem RN.Fit.m64 (h : x.Fit) : x.s.c.base + x.s.c.ents.length < m64 := by have := h.last; unfold Go.Proofs.YtflkdgghpmhbgaaGreat.m64; omega
theorem RN.Fit.lastN (h : x.Fit) : x.s.c.lastN = x.s.c.base + x.s.c.ents.length := lastN_of h.m64
theorem XW.drewN (h : XW w p x) (n : Nat) : XW (w.drewN n) p x := h.later ((Same.of w n).below _)
theorem xterm_prog (h : XW w p x) : Calls Tryz.prog 28 #[.pointer (some ⟨p.lb, 0, none⟩)] w fun e w' => e = .returned (.int .u64 (x.s.c.term : Int)) ∧ w' = w := gterm_prog h.lw.log
theorem xterm_q (h : XW w p x) (n : Nat) : Calls Tryz.prog 28 #[.pointer (some ⟨p.lb, 0, none⟩)] (w.drewN n) fun e w' => e = .returned (.int .u64 (x.s.c.term : Int)) ∧ ∃ m, w' = w.drewN m :=
  quietE ((xterm_prog (h.drewN n)).mono fun _ _ h => ⟨h.1, h.2.symm⟩)
theorem xterm_q2 (h : XW w p x) (a n : Nat) : Calls Tryz.prog 28 #[.pointer (some ⟨p.lb, 0, none⟩)] (w.drewN (a + n)) fun e w' => e = .returned (.int .u64 (x.s.c.term : Int)) ∧ ∃ m, w' = w.drewN (a + m) :=
  quietE2 ((xterm_prog (h.drewN (a + n))).mono fun _ _ h => ⟨h.1, h.2.symm⟩)
theorem xlast_prog (h : XW w p x) (hf : x.Fit) : Calls Tryz.prog 31 #[.pointer (some ⟨p.lb, 0, none⟩)] w fun e w' => e = .returned (.int .u64 (x.s.c.lastN : Int)) ∧ Same w w' := glast_prog h.lw.log hf.few
theorem xlast_q (h : XW w p x) (hf : x.Fit) (n : Nat) : Calls Tryz.prog 31 #[.pointer (some ⟨p.lb, 0, none⟩)] (w.drewN n) fun e w' => e = .returned (.int .u64 (x.s.c.lastN : Int)) ∧ ∃ m, w' = w.drewN m := quietS (xlast_prog (h.drewN n) hf)
theorem xlast_q2 (h : XW w p x) (hf : x.Fit) (a n : Nat) : Calls Tryz.prog 31 #[.pointer (some ⟨p.lb, 0, none⟩)] (w.drewN (a + n)) fun e w' => e = .returned (.int .u64 (x.s.c.lastN : Int)) ∧ ∃ m, w' = w.drewN (a + m) := quietS2 (xlast_prog (h.drewN (a + n)) hf)
theorem xvote_prog (h : XW w p x) : Calls Tryz.prog 98 #[.pointer (some ⟨p.lb, 0, none⟩)] w fun e w' => e = .returned (.int .i64 x.s.c.vote) ∧ w' = w := gvote_prog h.lw.log
theorem xtermAt_prog (i : Nat) (h : XW w p x) (hf : x.Fit) : Calls Tryz.prog 100 #[.pointer (some ⟨p.lb, 0, none⟩), .int .u64 (i : Int)] w fun e w' => e = .returned (.tuple #[numV (x.s.c.termAt i), .bool (x.s.c.termAt i).isSome]) ∧ Below w.heap.size w w' := gtermAt_prog i h.lw.log hf.few hf.m64

set_option maxRecDepth 100000 in
theorem role_prog (h : XW w p x) : Calls Tryz.prog 54 #[.pointer (some ⟨p.xb, 0, none⟩)] w fun e w' => e = .returned (.int .i64 x.role) ∧ w' = w := by
  obtain ⟨m0, m1, m2, m3, m4, m5, m6⟩ := h.cells
  clear h m0 m1 m3 m4 m5 m6
  go_enter Tryz.func54, Tryz.ntmps54
  go_wp2_with fail
  go_ret
  exact ⟨rfl, rfl⟩
set_option maxRecDepth 100000 in
theorem leader_prog (h : XW w p x) : Calls Tryz.prog 55 #[.pointer (some ⟨p.xb, 0, none⟩)] w fun e w' => e = .returned (.int .i64 x.leader) ∧ w' = w := by
  obtain ⟨m0, m1, m2, m3, m4, m5, m6⟩ := h.cells
  clear h m0 m1 m2 m4 m5 m6
  go_enter Tryz.func55, Tryz.ntmps55
  go_wp2_with fail
  go_ret
  exact ⟨rfl, rfl⟩
set_option maxRecDepth 100000 in
theorem commit_prog (h : XW w p x) : Calls Tryz.prog 29 #[.pointer (some ⟨p.xb, 0, none⟩)] w fun e w' => e = .returned (.int .u64 (x.commit : Int)) ∧ w' = w := by
  obtain ⟨m0, m1, m2, m3, m4, m5, m6⟩ := h.cells
  clear h m0 m1 m2 m3 m5 m6
  go_enter Tryz.func29, Tryz.ntmps29
  go_wp2_with fail
  go_ret
  exact ⟨rfl, rfl⟩
set_option maxRecDepth 100000 in
theorem log_prog (h : XW w p x) : Calls Tryz.prog 27 #[.pointer (some ⟨p.xb, 0, none⟩)] w fun e w' => e = .returned (.pointer (some ⟨p.lb, 0, none⟩)) ∧ w' = w := by
  obtain ⟨m0, m1, m2, m3, m4, m5, m6⟩ := h.cells
  clear h m0 m2 m3 m4 m5 m6
  go_enter Tryz.func27, Tryz.ntmps27
  go_wp2_with fail
  go_ret
  exact ⟨rfl, rfl⟩
set_option maxRecDepth 100000 in
theorem xdown_prog (h : XW w p x) : Calls Tryz.prog 26 #[.pointer (some ⟨p.xb, 0, none⟩)] w fun e w' => e = .returned (.bool (x.s.dn || x.s.d.dn)) ∧ XW w' p x.down ∧ XCh p w w' p := by
  obtain ⟨m0, m1, m2, m3, m4, m5, m6⟩ := h.cells
  have K := Lib.hid (hdown_prog h.lw)
  have H := Lib.hid h
  clear h m0 m2 m3 m4 m5 m6
  go_enter Tryz.func26, Tryz.ntmps26
  go_wp2_with fail
  refine K.out.mono ?_
  rintro e w1 ⟨rfl, hl1, hc1⟩
  have HX := Lib.hid (H.out.byLog hl1 (LCh.ofLog p.db p.dv hc1))
  have HC := Lib.hid (XCh.ofLog (p := p) (LCh.ofLog p.db p.dv hc1))
  clear hl1 hc1 K
  go_wp2_with fail
  go_ret
  exact ⟨rfl, HX.out, HC.out⟩
set_option maxRecDepth 100000 in
theorem majority_prog (h : XW w p x) (hn : x.ps.length ≤ 9) : Calls Tryz.prog 131 #[.pointer (some ⟨p.xb, 0, none⟩)] w fun e w' => e = .returned (.int .i64 (x.maj : Int)) ∧ w' = w := by
  obtain ⟨m0, m1, m2, m3, m4, m5, m6⟩ := h.cells
  have hnI : (x.ps.length : Int) ≤ 9 := by omega
  have hq : (x.ps.length : Int).tdiv 2 = ((x.ps.length / 2 : Nat) : Int) := by rw [Int.tdiv_eq_ediv_of_nonneg (by omega)]; omega
  have e1 : x.maj = x.ps.length / 2 + 1 := rfl
  rw [e1]
  obtain ⟨n, hn2⟩ : ∃ n, x.ps.length = n := ⟨_, rfl⟩
  rw [hn2] at m6 hnI hq ⊢
  obtain ⟨q, hqq⟩ : ∃ q, n / 2 = q := ⟨_, rfl⟩
  have hqI : (q : Int) ≤ 9 := by omega
  rw [hqq] at hq ⊢
  clear h m0 m1 m2 m3 m4 m5 e1 hn2 hqq hn
  go_enter Tryz.func131, Tryz.ntmps131
  go_wp2_with fail
  go_ret
  exact ⟨by simp, rfl⟩
set_option maxHeartbeats 1000000 in
set_option maxRecDepth 100000 in
theorem limit_prog (h : XW w p x) (hf : x.Fit) : Calls Tryz.prog 71 #[.pointer (some ⟨p.xb, 0, none⟩)] w fun e w' => e = .returned (.int .i64 (x.limit : Int)) ∧ Same w w' := by
  obtain ⟨m0, m1, m2, m3, m4, m5, m6⟩ := h.cells
  have K := Lib.hid (xterm_q h)
  have hid := hf.id
  have hn := hf.n
  have ht := hf.term
  obtain ⟨T, hT⟩ : ∃ T, x.s.c.term = T := ⟨_, rfl⟩
  obtain ⟨I, hI⟩ : ∃ I, x.id = I := ⟨_, rfl⟩
  have e1 : x.limit = 10 + (7 * I + 3 * (T % 11)) % 11 := by rw [← hT, ← hI]; rfl
  rw [e1]
  rw [hT] at K ht
  rw [hI] at m0 hid
  obtain ⟨R, hR⟩ : ∃ R, T % 11 = R := ⟨_, rfl⟩
  obtain ⟨M, hM⟩ : ∃ M, (7 * I + 3 * R) % 11 = M := ⟨_, rfl⟩
  rw [hR, hM]
  have h1 : (T : Int).tmod 11 = (R : Int) := by rw [Int.tmod_eq_emod_of_nonneg (by omega)]; omega
  have h2 : ((7 * (I : Int)) + (3 * (R : Int))).tmod 11 = (M : Int) := by rw [Int.tmod_eq_emod_of_nonneg (by omega)]; omega
  have b1 : (I : Int) ≤ 9 := by omega
  have b2 : (R : Int) ≤ 11 := by omega
  have b3 : (M : Int) ≤ 11 := by omega
  clear h hf m2 m3 m4 m5 m6 hid hn ht hT hI e1 hR hM
  go_enter Tryz.func71, Tryz.ntmps71
  go_wp2_with fail
  go_quiet ((go_at_call 28; exact K.out _))
  go_wp2_with fail
  go_ret
  exact ⟨by simp, _, rfl⟩
set_option maxRecDepth 100000 in
theorem mayVote_prog (h : XW w p x) (d : Int) : Calls Tryz.prog 123 #[.pointer (some ⟨p.xb, 0, none⟩), .int .i64 d] w fun e w' => e = .returned (.bool (decide (x.s.c.vote = -1) || decide (x.s.c.vote = d))) ∧ w' = w := by
  obtain ⟨m0, m1, m2, m3, m4, m5, m6⟩ := h.cells
  have K := Lib.hid (xvote_prog h)
  obtain ⟨V, hV⟩ : ∃ V, x.s.c.vote = V := ⟨_, rfl⟩
  rw [hV] at K ⊢
  clear h m0 m2 m3 m4 m5 m6 hV
  by_cases h1 : V = -1
  · subst h1
    go_enter Tryz.func123, Tryz.ntmps123
    go_wp2_with fail
    refine K.out.mono ?_
    rintro e w1 ⟨rfl, rfl⟩
    go_wp2_with fail
    go_ret
    exact ⟨rfl, rfl⟩
  · have hd : decide (V = -1) = false := decide_eq_false h1
    rw [hd]
    go_enter Tryz.func123, Tryz.ntmps123
    go_wp2_with fail
    refine K.out.mono ?_
    rintro e w1 ⟨rfl, rfl⟩
    go_wp2_with fail
    go_ret
    exact ⟨by cases hh : decide (V = d) <;> simp_all, rfl⟩
end
end Go.Proofs.YtflkdgghpmhbgaaGreat
namespace Go.Proofs.YtflkdgghpmhbgaaGreat
open Go.RowKit

def set10 (w : World) (G : Nat) (b0 b1 b2 b3 b4 b5 b6 b7 b8 b9 : Value) : World :=
  (((((((((w.setCell ⟨G, 0, none⟩ b0).setCell ⟨G, 1, none⟩ b1).setCell ⟨G, 2, none⟩ b2).setCell ⟨G, 3, none⟩ b3).setCell ⟨G, 4, none⟩ b4).setCell ⟨G, 5, none⟩ b5).setCell ⟨G, 6, none⟩ b6).setCell ⟨G, 7, none⟩ b7).setCell ⟨G, 8, none⟩ b8).setCell ⟨G, 9, none⟩ b9
theorem set10_heap {w : World} {G : Nat} {a0 a1 a2 a3 a4 a5 a6 a7 a8 a9 : Value} {ty : TypeId} (h : w.heap[G]? = some (.cells #[a0, a1, a2, a3, a4, a5, a6, a7, a8, a9] ty (0, 0))) (b0 b1 b2 b3 b4 b5 b6 b7 b8 b9 : Value) :
    (set10 w G b0 b1 b2 b3 b4 b5 b6 b7 b8 b9).heap[G]? = some (.cells #[b0, b1, b2, b3, b4, b5, b6, b7, b8, b9] ty (0, 0)) := by
  have h0 := heap_setCell_same w G 0 _ _ b0 h
  have h1 := heap_setCell_same _ G 1 _ _ b1 h0
  have h2 := heap_setCell_same _ G 2 _ _ b2 h1
  have h3 := heap_setCell_same _ G 3 _ _ b3 h2
  have h4 := heap_setCell_same _ G 4 _ _ b4 h3
  have h5 := heap_setCell_same _ G 5 _ _ b5 h4
  have h6 := heap_setCell_same _ G 6 _ _ b6 h5
  have h7 := heap_setCell_same _ G 7 _ _ b7 h6
  have h8 := heap_setCell_same _ G 8 _ _ b8 h7
  have h9 := heap_setCell_same _ G 9 _ _ b9 h8
  simpa [set10] using h9
theorem set10_below {w : World} {G B : Nat} (hB : B ≤ G) (b0 b1 b2 b3 b4 b5 b6 b7 b8 b9 : Value) : Below B w (set10 w G b0 b1 b2 b3 b4 b5 b6 b7 b8 b9) :=
  (((((((((((Below.refl B w).setCell hB _).setCell hB _).setCell hB _).setCell hB _).setCell hB _).setCell hB _).setCell hB _).setCell hB _).setCell hB _).setCell hB _)
theorem set10_other (w : World) (G : Nat) (b0 b1 b2 b3 b4 b5 b6 b7 b8 b9 : Value) (j : Nat) (hj : j ≠ G) : (set10 w G b0 b1 b2 b3 b4 b5 b6 b7 b8 b9).heap[j]? = w.heap[j]? := by
  unfold set10
  rw [heap_setCell_other _ ⟨G, 9, none⟩ j _ hj, heap_setCell_other _ ⟨G, 8, none⟩ j _ hj, heap_setCell_other _ ⟨G, 7, none⟩ j _ hj, heap_setCell_other _ ⟨G, 6, none⟩ j _ hj, heap_setCell_other _ ⟨G, 5, none⟩ j _ hj, heap_setCell_other _ ⟨G, 4, none⟩ j _ hj, heap_setCell_other _ ⟨G, 3, none⟩ j _ hj, heap_setCell_other _ ⟨G, 2, none⟩ j _ hj, heap_setCell_other _ ⟨G, 1, none⟩ j _ hj, heap_setCell_other _ ⟨G, 0, none⟩ j _ hj]
/-- A call's result that lies in a variable of type Msg, in slot k. -/
theorem results_msg {f : Func} {k : Nat} {tmps : Array Value} {w : World} {H : Nat} {cs : Array Value} (hf : f.results = #[.cell k 40]) (h2 : tmps.getD k undef = .pointer (some ⟨H, 0, none⟩))
    (hg : w.heap[H]? = some (.cells cs 40 (0, 0))) (hs : cs.size = 10) : (results f tmps).run Tryz.prog w = .ok (.agg cs) w := by
  have hi : (Tryz.prog.info? 40).map (·.size) = some cs.size := by rw [hs]; kernel_rfl
  have h3 : tmps[k]?.getD undef = .pointer (some ⟨H, 0, none⟩) := by simpa using h2
  simp only [results, hf]
  simp [h3, asAddr, run_loadVar_row w H 40 40 cs (0, 0) _ hg Tryz.underlying40 rfl hi]
section
variable {w : World} {p : Pl} {x : RN}
/-- What msg makes. -/
def RN.mg (x : RN) (kind dst : Int) : Mg := mg0 kind x.id dst x.s.c.term
set_option maxHeartbeats 2000000 in
set_option maxRecDepth 100000 in
theorem msg_prog (h : XW w p x) (kind dst : Int) : Calls Tryz.prog 125 #[.pointer (some ⟨p.xb, 0, none⟩), .int .i64 kind, .int .i64 dst] w fun e w' => e = .returned (.agg (mgL (x.mg kind dst) (.slice none 0 0)).toArray) ∧ Below w.heap.size w w' := by
  have K := Lib.hid (xterm_prog ((h.later ((Below.refl _ _).alloc (Nat.le_refl _) (.cells #[.int .i64 0, .int .i64 0, .int .i64 0, .int .u64 0, .int .u64 0, .int .u64 0, .int .u64 0, .bool false, .slice none 0 0, .string ⟨#[]⟩] 40))).drewN 1))
  obtain ⟨m0, m1, m2, m3, m4, m5, m6⟩ := h.cells
  have hlt := h.xlt
  have e1 : (mgL (x.mg kind dst) (.slice none 0 0)).toArray = #[.int .i64 kind, .int .i64 (x.id : Int), .int .i64 dst, .int .u64 (x.s.c.term : Int), .int .u64 0, .int .u64 0, .int .u64 0, .bool false, .slice none 0 0, .string ⟨#[]⟩] := rfl
  rw [e1]
  obtain ⟨T, hT⟩ : ∃ T, x.s.c.term = T := ⟨_, rfl⟩
  rw [hT] at K ⊢
  clear h m2 m3 m4 m5 m6 hT e1
  go_enter Tryz.func125, Tryz.ntmps125
  go_wp2_with fail
  go_region_with ((go_at_call 28; refine K.out.mono ?_; rintro e w2 ⟨rfl, rfl⟩))
  all_goals
    go_wp2_with fail
    exact bodyPost_ret (results_msg rfl rfl (set10_heap (w := World.drewN _ 1) (heap_alloc_new w _) _ _ _ _ _ _ _ _ _ _) rfl) rfl
      ⟨rfl, ((((Below.refl _ _).alloc (Nat.le_refl _) _).trans ((Same.of _ 1).below _)).trans (set10_below (Nat.le_refl _) _ _ _ _ _ _ _ _ _ _))⟩
end
end Go.Proofs.YtflkdgghpmhbgaaGreat
namespace Go.Proofs.YtflkdgghpmhbgaaGreat
open Go.RowKit

theorem MOwn.one {w : World} {B G c : Nat} {m : Mg} {ev : Value} (hg : w.heap[G]? = some (.cells (mgL m ev).toArray 40 (0, 0))) (hc : c = 1) (hB : B ≤ G) (he : EOwn w B ev m.ents) : MOwn w B (.slice (some ⟨G, 0, none⟩) 1 c) [m] := by
  subst hc
  refine ⟨[(m, ev)], rfl, ⟨by simp [mgC_length], .inr ⟨G, 1, _, rfl, hB, hg, Nat.le_refl _, by decide, rfl, ?_⟩⟩, fun y hy => ?_⟩
  · simp [mgC, mgL]
  · obtain rfl : y = (m, ev) := by simpa using hy
    exact he
theorem cellO {w : World} {b o g i : Nat} {v u : Value} (h : w.cell? ⟨b, o, none⟩ = some u) (hne : b ≠ g) : (w.setCell ⟨g, i, none⟩ v).cell? ⟨b, o, none⟩ = some u := by
  rw [World.cell?_of_block (w := w) (a := ⟨b, o, none⟩) (heap_setCell_other w ⟨g, i, none⟩ b v hne)]; exact h
theorem cells10 {w : World} {G : Nat} {a0 a1 a2 a3 a4 a5 a6 a7 a8 a9 : Value} {ty : TypeId} (h : w.heap[G]? = some (.cells #[a0, a1, a2, a3, a4, a5, a6, a7, a8, a9] ty (0, 0))) :
    w.cell? ⟨G, 0, none⟩ = some a0 ∧ w.cell? ⟨G, 1, none⟩ = some a1 ∧ w.cell? ⟨G, 2, none⟩ = some a2 ∧ w.cell? ⟨G, 3, none⟩ = some a3 ∧ w.cell? ⟨G, 4, none⟩ = some a4 ∧
    w.cell? ⟨G, 5, none⟩ = some a5 ∧ w.cell? ⟨G, 6, none⟩ = some a6 ∧ w.cell? ⟨G, 7, none⟩ = some a7 ∧ w.cell? ⟨G, 8, none⟩ = some a8 ∧ w.cell? ⟨G, 9, none⟩ = some a9 := by
  simp [World.cell?, h]
theorem free10 {w : World} {G : Nat} {cs : Array Value} {ty : TypeId} (h : w.heap[G]? = some (.cells cs ty (0, 0))) :
    w.frozen? ⟨G, 0, none⟩ = false ∧ w.frozen? ⟨G, 1, none⟩ = false ∧ w.frozen? ⟨G, 2, none⟩ = false ∧ w.frozen? ⟨G, 3, none⟩ = false ∧ w.frozen? ⟨G, 4, none⟩ = false ∧
    w.frozen? ⟨G, 5, none⟩ = false ∧ w.frozen? ⟨G, 6, none⟩ = false ∧ w.frozen? ⟨G, 7, none⟩ = false ∧ w.frozen? ⟨G, 8, none⟩ = false ∧ w.frozen? ⟨G, 9, none⟩ = false := by
  simp [World.frozen?, h]
theorem alloc2 (w : World) (o1 o2 : Obj) : ((w.alloc o1).alloc o2).heap[w.heap.size + 1]? = some o2 := by
  have := heap_alloc_new (w.alloc o1) o2
  simpa using this
theorem ESl.nil (w : World) : ESl w (.slice none 0 0) [] := ⟨none, 0, rfl, Nat.le_refl _, fun h => absurd rfl h⟩
section
variable {w : World} {p : Pl} {x : RN}
/-- An answer to a leader. -/
def RN.ans (x : RN) (dst : Int) (ok : Bool) (index : Nat) : Mg := { x.mg 3 dst with ok := ok, index := index }
set_option maxHeartbeats 2000000 in
set_option maxRecDepth 100000 in
theorem answer_prog (h : XW w p x) (dst : Int) (ok : Bool) (index : Nat) : Calls Tryz.prog 126 #[.pointer (some ⟨p.xb, 0, none⟩), .int .i64 dst, .bool ok, .int .u64 (index : Int)] w fun e w' => ∃ v, e = .returned v ∧ MOwn w' w.heap.size v [x.ans dst ok index] ∧ Below w.heap.size w w' := by
  have K := Lib.hid (msg_prog h 3 dst)
  unfold RN.mg mg0 mgL at K
  dsimp only at K
  have EI : Hid (mgL (x.ans dst ok index) (.slice none 0 0) = [.int .i64 3, .int .i64 (x.id : Int), .int .i64 dst, .int .u64 (x.s.c.term : Int), .int .u64 (index : Int), .int .u64 0, .int .u64 0, .bool ok, .slice none 0 0, .string ⟨#[]⟩]) := Lib.hid rfl
  obtain ⟨I, hI⟩ : ∃ I, x.id = I := ⟨_, rfl⟩
  obtain ⟨T, hT⟩ : ∃ T, x.s.c.term = T := ⟨_, rfl⟩
  rw [hI, hT] at K EI
  obtain ⟨M, hM⟩ : ∃ M, x.ans dst ok index = M := ⟨_, rfl⟩
  have EN : Hid (M.ents = []) := Lib.hid (by rw [← hM]; rfl)
  rw [hM] at EI ⊢
  clear h hI hT hM
  go_enter Tryz.func126, Tryz.ntmps126
  go_wp2_with fail
  refine K.out.mono ?_
  rintro e w1 ⟨rfl, hb1⟩
  have HB1 := Lib.hid hb1
  clear hb1 K
  go_wp2_with fail
  go_ret
  refine ⟨_, rfl, MOwn.one (ev := .slice none 0 0) (by rw [EI.out]; exact alloc2 _ _ _) rfl (Nat.le_succ_of_le HB1.out.size) (by rw [EN.out]; exact EOwn.nil _ _), (HB1.out.alloc HB1.out.size _).alloc (by simp; have := HB1.out.size; omega) _⟩
/-- Whether its log is better than one that ends there. -/
def RN.better (x : RN) (i t : Nat) : Bool := decide (t < (x.s.c.termAt x.s.c.lastN).getD 0) || decide ((x.s.c.termAt x.s.c.lastN).getD 0 = t) && decide (i < x.s.c.lastN)
/-- What asks for a vote. -/
def RN.askM (x : RN) (dst : Int) : Mg := { x.mg 0 dst with index := x.s.c.lastN, lterm := (x.s.c.termAt x.s.c.lastN).getD 0 }
theorem numV_getD (o : Option Nat) : numV o = .int .u64 ((o.getD 0 : Nat) : Int) := by cases o <;> rfl
set_option maxHeartbeats 2000000 in
set_option maxRecDepth 100000 in
theorem ask_prog (h : XW w p x) (hf : x.Fit) (dst : Int) : Calls Tryz.prog 122 #[.pointer (some ⟨p.xb, 0, none⟩), .int .i64 dst] w fun e w' => (∃ v, e = .returned v ∧ MgV w' w.heap.size v (x.askM dst)) ∧ Below w.heap.size w w' := by
  obtain ⟨m0, m1, m2, m3, m4, m5, m6⟩ := h.cells
  obtain ⟨W0, hW0⟩ : ∃ W0, W0 = w.alloc (.cells #[.int .i64 0, .int .i64 0, .int .i64 0, .int .u64 0, .int .u64 0, .int .u64 0, .int .u64 0, .bool false, .slice none 0 0, .string ⟨#[]⟩] 40) := ⟨_, rfl⟩
  have hb0 : Below w.heap.size w W0 := by rw [hW0]; exact (Below.refl _ _).alloc (Nat.le_refl _) _
  have hz0 : W0.heap[w.heap.size]? = some (.cells #[.int .i64 0, .int .i64 0, .int .i64 0, .int .u64 0, .int .u64 0, .int .u64 0, .int .u64 0, .bool false, .slice none 0 0, .string ⟨#[]⟩] 40 (0, 0)) := by rw [hW0]; exact heap_alloc_new _ _
  have K := Lib.hid (msg_prog (h.later hb0) 0 dst)
  have KL := Lib.hid (fun W (hW : XW W p x) => xlast_prog hW hf)
  have KT := Lib.hid (fun W (hW : XW W p x) => xtermAt_prog x.s.c.lastN hW hf)
  unfold RN.mg mg0 mgL at K
  dsimp only at K
  have EI : Hid (mgL (x.askM dst) (.slice none 0 0) = [.int .i64 0, .int .i64 (x.id : Int), .int .i64 dst, .int .u64 (x.s.c.term : Int), .int .u64 (x.s.c.lastN : Int), .int .u64 (((x.s.c.termAt x.s.c.lastN).getD 0 : Nat) : Int), .int .u64 0, .bool false, .slice none 0 0, .string ⟨#[]⟩]) := Lib.hid rfl
  have H := Lib.hid (h.later hb0)
  obtain ⟨o, ho⟩ : ∃ o, x.s.c.termAt x.s.c.lastN = o := ⟨_, rfl⟩
  rw [ho] at KT EI
  obtain ⟨L, hL⟩ : ∃ L, x.s.c.lastN = L := ⟨_, rfl⟩
  rw [hL] at KL KT EI
  obtain ⟨I, hI⟩ : ∃ I, x.id = I := ⟨_, rfl⟩
  obtain ⟨T, hT⟩ : ∃ T, x.s.c.term = T := ⟨_, rfl⟩
  rw [hI, hT] at K EI
  obtain ⟨M, hM⟩ : ∃ M, x.askM dst = M := ⟨_, rfl⟩
  have EN : Hid (M.ents = []) := Lib.hid (by rw [← hM]; rfl)
  rw [hM] at EI ⊢
  have HB0 := Lib.hid hb0
  have HZ0 := Lib.hid hz0
  simp only [numV_getD] at KT
  clear h hf hI hT hM hL ho hb0 hz0 m0 m2 m3 m4 m5 m6
  go_enter Tryz.func122, Tryz.ntmps122
  go_wp2_with fail
  simp only [← hW0]
  clear hW0
  refine K.out.mono ?_
  rintro e w1 ⟨rfl, hb1⟩
  have hh1 := H.out.later hb1
  have HB1 := Lib.hid (HB0.out.trans (hb1.mono HB0.out.size))
  have hz1 := (hb1.block w.heap.size (block_lt HZ0.out)).trans HZ0.out
  obtain ⟨m0, m1', m2, m3, m4, m5, m6⟩ := hh1.cells
  clear hb1 K m0 m2 m3 m4 m5 m6
  have HH1 := Lib.hid hh1
  have HZ1 := Lib.hid hz1
  have hxl := hh1.xlt
  clear hh1 hz1
  go_wp2_with fail
  obtain ⟨W1, hW1⟩ : ∃ W1, W1 = w1.alloc (.cells #[.int .i64 0, .int .i64 (I : Int), .int .i64 dst, .int .u64 (T : Int), .int .u64 0, .int .u64 0, .int .u64 0, .bool false, .slice none 0 0, .string ⟨#[]⟩] 40) := ⟨_, rfl⟩
  have hb1 : Below w1.heap.size w1 W1 := by rw [hW1]; exact (Below.refl _ _).alloc (Nat.le_refl _) _
  have hy1 : W1.heap[w1.heap.size]? = some (.cells #[.int .i64 0, .int .i64 (I : Int), .int .i64 dst, .int .u64 (T : Int), .int .u64 0, .int .u64 0, .int .u64 0, .bool false, .slice none 0 0, .string ⟨#[]⟩] 40 (0, 0)) := by rw [hW1]; exact heap_alloc_new _ _
  simp only [← hW1]
  clear hW1
  refine (KL.out _ (HH1.out.later hb1)).mono ?_
  rintro e w2 ⟨rfl, hs2⟩
  have hb2 := hb1.trans (hs2.below _)
  have hy2 : w2.heap[w1.heap.size]? = some (.cells #[.int .i64 0, .int .i64 (I : Int), .int .i64 dst, .int .u64 (T : Int), .int .u64 0, .int .u64 0, .int .u64 0, .bool false, .slice none 0 0, .string ⟨#[]⟩] 40 (0, 0)) := by
    obtain ⟨q, rfl⟩ := hs2
    exact hy1
  have f4 : w2.frozen? ⟨w1.heap.size, 4, none⟩ = false := by simp [World.frozen?, hy2]
  have y4 : w2.cell? ⟨w1.heap.size, 4, none⟩ = some (.int .u64 0) := by simp [World.cell?, hy2]
  obtain ⟨W3, hW3⟩ : ∃ W3, W3 = w2.setCell ⟨w1.heap.size, 4, none⟩ (.int .u64 (L : Int)) := ⟨_, rfl⟩
  have hb3 : Below w1.heap.size w1 W3 := by rw [hW3]; exact hb2.setCell (Nat.le_refl _) _
  have hy3 : W3.heap[w1.heap.size]? = some (.cells #[.int .i64 0, .int .i64 (I : Int), .int .i64 dst, .int .u64 (T : Int), .int .u64 (L : Int), .int .u64 0, .int .u64 0, .bool false, .slice none 0 0, .string ⟨#[]⟩] 40 (0, 0)) := by
    rw [hW3]; exact heap_setCell_same w2 w1.heap.size 4 _ _ (.int .u64 (L : Int)) hy2
  have hh3 := HH1.out.later hb3
  have KT' := Lib.hid (KT.out (W3.drewN 1) (hh3.drewN 1))
  obtain ⟨m0, m1'', m2, m3, m4, m5, m6⟩ := hh3.cells
  have y34 : W3.cell? ⟨w1.heap.size, 4, none⟩ = some (.int .u64 (L : Int)) := by simp [World.cell?, hy3]
  have HY3 := Lib.hid hy3
  have HB3 := Lib.hid hb3
  have HB13 := Lib.hid (HB1.out.trans (hb3.mono HB1.out.size))
  clear hs2 hb2 hb1 hy1 hy2 hy3 hb3 m0 m2 m3 m4 m5 m6 m1 m1' hh3 KT KL
  go_wp2_with fail
  simp only [← hW3]
  clear y4 f4 hW3
  go_region_held3 (fun X => X.cell? ⟨p.xb, 1, none⟩ = some (.pointer (some ⟨p.lb, 0, none⟩)) ∧ X.cell? ⟨w1.heap.size, 4, none⟩ = some (.int .u64 (L : Int)))
    (first | exact ⟨m1'', y34⟩ | exact hcs5 | exact ⟨cellO hcs5.1 hne, cell_set_ne _ _ _ _ _ _ hcs5.2 (by decide)⟩)
    ((go_at_call 100; refine KT'.out.mono ?_; rintro e w5 ⟨rfl, hb5⟩; have hcs5 := And.intro (cellB hb5 m1'') (cellB hb5 y34); have hy5 := (hb5.block w1.heap.size (block_lt HY3.out)).trans HY3.out; have f5 : w5.frozen? ⟨w1.heap.size, 5, none⟩ = false := (by simp [World.frozen?, hy5]); have y5 : w5.cell? ⟨w1.heap.size, 5, none⟩ = some (.int .u64 0) := (by simp [World.cell?, hy5]); have hne := Nat.ne_of_lt hxl))
  have hy6 := heap_setCell_same w5 w1.heap.size 5 _ _ (.int .u64 ((o.getD 0 : Nat) : Int)) hy5
  have hHG : w.heap.size ≠ w1.heap.size := Nat.ne_of_lt (block_lt HZ1.out)
  have hGH : w1.heap.size ≠ w.heap.size := fun e => hHG e.symm
  have hb15 : Below w1.heap.size w1 (w5.setCell ⟨w1.heap.size, 5, none⟩ (.int .u64 ((o.getD 0 : Nat) : Int))) := (HB3.out.trans (((Same.of W3 1).below _).trans (hb5.mono HB3.out.size))).setCell (Nat.le_refl _) _
  have hz6 := (hb15.block w.heap.size (block_lt HZ1.out)).trans HZ1.out
  have hb05 := HB1.out.trans (hb15.mono HB1.out.size)
  obtain ⟨W6, hW6⟩ : ∃ W6, W6 = w5.setCell ⟨w1.heap.size, 5, none⟩ (.int .u64 ((o.getD 0 : Nat) : Int)) := ⟨_, rfl⟩
  rw [← hW6] at hy6 hz6 hb05 ⊢
  simp at hy6
  obtain ⟨c0, c1, c2, c3, c4, c5, c6, c7, c8, c9⟩ := cells10 hy6
  obtain ⟨d0, d1, d2, d3, d4, d5, d6, d7, d8, d9⟩ := cells10 hz6
  obtain ⟨e0, e1, e2, e3, e4, e5, e6, e7, e8, e9⟩ := free10 hz6
  have HZ6 := Lib.hid hz6
  have HB6 := Lib.hid hb05
  clear hW6 hb15 hb05 hy6 hz6 hy5 f5 y5 hb5 hcs5 m1'' y34
  go_wp2_with fail
  exact bodyPost_ret (results_msg rfl rfl (set10_heap HZ6.out _ _ _ _ _ _ _ _ _ _) rfl) rfl
    ⟨⟨_, rfl, .slice none 0 0, by rw [EI.out], by rw [EN.out]; exact EOwn.nil _ _⟩, HB6.out.trans (set10_below (Nat.le_refl _) _ _ _ _ _ _ _ _ _ _)⟩
set_option maxHeartbeats 1000000 in
set_option maxRecDepth 100000 in
theorem better_prog (h : XW w p x) (hf : x.Fit) (i t : Nat) : Calls Tryz.prog 124 #[.pointer (some ⟨p.xb, 0, none⟩), .int .u64 (i : Int), .int .u64 (t : Int)] w fun e w' => e = .returned (.bool (x.better i t)) ∧ Below w.heap.size w w' := by
  have KL := Lib.hid (xlast_prog h hf)
  have KT := Lib.hid (fun W (hW : XW W p x) => xtermAt_prog x.s.c.lastN hW hf)
  have H := Lib.hid h
  obtain ⟨m0, m1, m2, m3, m4, m5, m6⟩ := h.cells
  have e1 : x.better i t = (decide (t < (x.s.c.termAt x.s.c.lastN).getD 0) || decide ((x.s.c.termAt x.s.c.lastN).getD 0 = t) && decide (i < x.s.c.lastN)) := rfl
  rw [e1]
  obtain ⟨o, ho⟩ : ∃ o, x.s.c.termAt x.s.c.lastN = o := ⟨_, rfl⟩
  rw [ho] at KT ⊢
  simp only [numV_getD] at KT
  obtain ⟨T, hT⟩ : ∃ T, o.getD 0 = T := ⟨_, rfl⟩
  rw [hT] at KT ⊢
  obtain ⟨L, hL⟩ : ∃ L, x.s.c.lastN = L := ⟨_, rfl⟩
  rw [hL] at KL KT ⊢
  clear h hf e1 ho hT hL m0 m2 m3 m4 m5 m6
  by_cases h1 : t < T
  · have h1I : decide (t < T) = true := decide_eq_true h1
    rw [h1I]
    clear h1
    go_enter Tryz.func124, Tryz.ntmps124
    go_wp2_with fail
    refine KL.out.mono ?_
    rintro e w1 ⟨rfl, q, rfl⟩
    have HB1 := Lib.hid ((Same.of w q).below w.heap.size)
    have K := Lib.hid (KT.out _ (H.out.drewN q))
    go_wp2_with fail
    refine K.out.mono ?_
    rintro e w2 ⟨rfl, hb2⟩
    have HB2 := Lib.hid (HB1.out.trans (hb2.mono HB1.out.size))
    go_wp2_with fail
    go_ret
    exact ⟨by simp, HB2.out⟩
  · have h1I : decide (t < T) = false := decide_eq_false h1
    rw [h1I]
    by_cases h2 : T = t
    · subst h2
      clear h1
      go_enter Tryz.func124, Tryz.ntmps124
      go_wp2_with fail
      refine KL.out.mono ?_
      rintro e w1 ⟨rfl, q, rfl⟩
      have HB1 := Lib.hid ((Same.of w q).below w.heap.size)
      have K := Lib.hid (KT.out _ (H.out.drewN q))
      go_wp2_with fail
      refine K.out.mono ?_
      rintro e w2 ⟨rfl, hb2⟩
      have HB2 := Lib.hid (HB1.out.trans (hb2.mono HB1.out.size))
      go_wp2_with fail
      go_ret
      exact ⟨by simp, HB2.out⟩
    · have h2I : ((T : Int) == (t : Int)) = false := by simp; omega
      rw [decide_eq_false h2]
      clear h1 h2
      go_enter Tryz.func124, Tryz.ntmps124
      go_wp2_with fail
      refine KL.out.mono ?_
      rintro e w1 ⟨rfl, q, rfl⟩
      have HB1 := Lib.hid ((Same.of w q).below w.heap.size)
      have K := Lib.hid (KT.out _ (H.out.drewN q))
      go_wp2_with fail
      refine K.out.mono ?_
      rintro e w2 ⟨rfl, hb2⟩
      have HB2 := Lib.hid (HB1.out.trans (hb2.mono HB1.out.size))
      go_wp2_with fail
      go_ret
      exact ⟨by simp, HB2.out⟩
end
end Go.Proofs.YtflkdgghpmhbgaaGreat
namespace Go.Proofs.YtflkdgghpmhbgaaGreat
open Go.RowKit

def RN.votesN (x : RN) : Nat := x.ps.countP (·.v)
def RN.elected (x : RN) : Bool := decide (x.maj ≤ x.votesN)
theorem countP_take_succ {α : Type} {l : List α} {k : Nat} {q : α} (h : l[k]? = some q) (f : α → Bool) : (l.take (k + 1)).countP f = (l.take k).countP f + (if f q then 1 else 0) := by
  have hk := (List.getElem?_eq_some_iff.1 h).1
  have hq := (List.getElem?_eq_some_iff.1 h).2
  rw [List.take_succ_eq_append_getElem hk, List.countP_append, hq]
  simp [List.countP_cons]
section
variable {w : World} {p : Pl} {x : RN}
set_option maxHeartbeats 1000000 in
set_option maxRecDepth 100000 in
theorem elected_prog (h : XW w p x) (hn : x.ps.length ≤ 9) : Calls Tryz.prog 120 #[.pointer (some ⟨p.xb, 0, none⟩)] w fun e w' => e = .returned (.bool x.elected) ∧ Below w.heap.size w w' := by
  have H := Lib.hid h
  have KM := Lib.hid (fun W (hW : XW W p x) => majority_prog hW hn)
  obtain ⟨m0, m1, m2, m3, m4, m5, m6⟩ := h.cells
  have EL : Hid (x.elected = decide (x.maj ≤ x.ps.countP (·.v))) := Lib.hid rfl
  obtain ⟨n, hnn⟩ : ∃ n, x.ps.length = n := ⟨_, rfl⟩
  rw [hnn] at m6 hn
  have HN := Lib.hid hnn
  have hnI : (n : Int) ≤ 9 := by omega
  clear h hnn m0 m1 m2 m3 m4 m5
  go_enter Tryz.func120, Tryz.ntmps120
  go_wp2_with fail
  go_loopw [3, 11] (fun v i wr => ∃ k : Nat, k ≤ n ∧ i = .int .i64 (k : Int) ∧ v = .int .i64 (((x.ps.take k).countP (·.v) : Nat) : Int) ∧ Hid (Below w.heap.size w wr)) (fun _ i _ => n - (intOf i).toNat)
  case atStart => exact ⟨0, by omega, rfl, rfl, Lib.hid (Below.refl _ _)⟩
  case round =>
    obtain ⟨k, hk, rfl, rfl, HB⟩ := hrel
    by_cases hlt : k < n
    · have hkI : (k : Int) < (n : Int) := by omega
      have hk0 : (0 : Int) ≤ (k : Int) := by omega
      have hh := H.out.later HB.out
      obtain ⟨q, hq⟩ : ∃ q, x.ps[k]? = some q := ⟨_, List.getElem?_eq_getElem (by rw [HN.out]; exact hlt)⟩
      obtain ⟨c0, c1, c2⟩ := hh.peer hq
      have HS := Lib.hid (countP_take_succ hq (·.v))
      obtain ⟨C, hC⟩ : ∃ C, (x.ps.take k).countP (·.v) = C := ⟨_, rfl⟩
      have hCle : C ≤ k := by rw [← hC]; exact Nat.le_trans List.countP_le_length (by rw [List.length_take]; omega)
      have hCI : (C : Int) ≤ 9 := by omega
      have hC0 : (0 : Int) ≤ (C : Int) := by omega
      rw [hC] at HS ⊢
      obtain ⟨qv, qa, qm⟩ := q
      dsimp only at c0 c1 c2 HS
      clear hC hCle hq hh
      cases qv
      all_goals
        go_wp2_with fail
        go_roundw
        case rel => exact ⟨k + 1, by omega, by go_num, by rw [HS.out]; go_num, Lib.hid (HB.out.alloc HB.out.size _)⟩
        case measure => simp [intOf]; omega
    · have hke : k = n := by omega
      subst hke
      have hkI : ¬ (k : Int) < (k : Int) := by omega
      have ht : x.ps.take k = x.ps := List.take_of_length_le (by rw [HN.out]; omega)
      rw [ht]
      obtain ⟨C, hC⟩ : ∃ C, x.ps.countP (·.v) = C := ⟨_, rfl⟩
      rw [hC] at EL ⊢
      have hCle : C ≤ 9 := by rw [← hC]; exact Nat.le_trans List.countP_le_length (by rw [HN.out]; exact hn)
      have hCI : (C : Int) ≤ 9 := by omega
      have hC0 : (0 : Int) ≤ (C : Int) := by omega
      have K := Lib.hid (KM.out _ (H.out.later HB.out))
      obtain ⟨M, hM⟩ : ∃ M, x.maj = M := ⟨_, rfl⟩
      rw [hM] at EL K
      clear hC hCle hM KM ht
      go_wp2_with fail
      refine K.out.mono ?_
      rintro e w2 ⟨rfl, rfl⟩
      go_wp2_with fail
      go_ret
      exact ⟨by rw [EL.out]; simp, HB.out⟩

/-- What each other one is sent. -/
def RN.others (x : RN) : List Nat := (List.range x.ps.length).filter (· ≠ x.id)
end
end Go.Proofs.YtflkdgghpmhbgaaGreat
namespace Go.Proofs.YtflkdgghpmhbgaaGreat
open Go.RowKit

theorem mgC_one (l : List (Mg × Value)) (h : ∀ y ∈ l, y.2.oneCell' = true) : ∀ u ∈ mgC l, u.oneCell' = true := by
  intro u hu
  simp only [mgC, mgL, List.mem_flatMap, List.mem_cons, List.not_mem_nil, or_false] at hu
  obtain ⟨x, hx, h1 | h1 | h1 | h1 | h1 | h1 | h1 | h1 | h1 | h1⟩ := hu <;> rw [h1]
  all_goals first | rfl | exact h x hx
theorem EOwn.one {w : World} {B : Nat} {v : Value} {l : List Ent} (h : EOwn w B v l) : v.oneCell' = true := by
  obtain ⟨a, c, rfl, _⟩ := h.shape
  rfl
/-- append of one message that was laid just now. -/
theorem list_appM1 {ops : Array Oper} {rest : List Oper} {o : Oper} {a : Act} {w : World} {Q : Exit → Act → World → Prop} (hgd : o.guard = none) (s x : Operand)
    (ho : o.op = .call { callee := .builtin .append, args := #[s, x], argTypes := #[54, 54] })
    (B : Nat) (v : Value) (l : List Mg) (hs : a.eval s = v) (hown : MOwn w B v l)
    (g0 c : Nat) (m : Mg) (ev : Value) (hx : a.eval x = .slice (some ⟨g0, 0, none⟩) 1 c) (hblk : w.heap[g0]? = some (.cells (mgL m ev).toArray 40 (0, 0))) (he : EOwn w B ev m.ents)
    (hl : l.length + 1 ≤ 1000000000) (hbase : B ≤ w.heap.size)
    (h : ∀ v' w', MOwn w' B v' (l ++ [m]) → Grew w v w' v' → wpList Tryz.prog ops Q rest (a.put o.dst v') w') :
    wpList Tryz.prog ops Q (o :: rest) a w := by
  obtain ⟨z, S⟩ := Tryz.msgSl
  obtain ⟨q, h1, h2, h3⟩ := hown
  have hql : q.length = l.length := by rw [← h1]; simp
  refine list_appN S hgd s x ho B v q.length (mgC q) hs h2 g0 1 c (mgL m ev) hx hblk rfl (by have := mgC_one [(m, ev)] (fun y hy => by obtain rfl : y = (m, ev) := (by simpa using hy); exact he.one); simpa [mgC] using this) (by omega) (by unfold maxLen; omega) (by omega) hbase ?_
  intro g cap w' k1 k2
  have keep : ∀ (y : Mg × Value), EOwn w B y.2 y.1.ents → EOwn w' B y.2 y.1.ents := fun y e1 => e1.mv fun k hk => k2.block (e1.lt k hk) (ownM_ne h2 e1 k hk)
  refine h _ w' ⟨q ++ [(m, ev)], by rw [List.map_append, h1]; rfl, ?_, fun y hy => ?_⟩ k2
  · rw [List.length_append, mgC_append]
    have e : mgC [(m, ev)] = mgL m ev := by simp [mgC]
    rw [e]
    exact k1
  · rcases List.mem_append.1 hy with hy | hy
    · exact keep y (h3 y hy)
    · obtain rfl : y = (m, ev) := by simpa using hy
      exact keep (m, ev) he
section
variable {w : World} {p : Pl} {x : RN}
/-- The others among the first k. -/
def othersTo (id k : Nat) : List Nat := (List.range k).filter (fun j => j ≠ id)
theorem othersTo_succ (id k : Nat) : othersTo id (k + 1) = if k = id then othersTo id k else othersTo id k ++ [k] := by
  unfold othersTo
  rw [List.range_succ, List.filter_append]
  split
  · rename_i h; simp [h]
  · rename_i h; simp [h]
theorem othersTo_len (id k : Nat) : (othersTo id k).length ≤ k := by
  have := List.length_filter_le (fun j => decide (j ≠ id)) (List.range k)
  rw [List.length_range] at this
  exact this
set_option maxHeartbeats 2000000 in
set_option maxRecDepth 100000 in
theorem toAll_prog (h : XW w p x) (hn : x.ps.length ≤ 9) (hid : x.id < x.ps.length) (G : Nat) (eg : ∀ args w, (callFunc G args).run Tryz.prog w = .ok (.enter G args) w) (f : Nat → Mg)
    (hG : ∀ (d : Nat) W, XW W p x → d < x.ps.length → d ≠ x.id → Calls Tryz.prog G #[.pointer (some ⟨p.xb, 0, none⟩), .int .i64 (d : Int)] W fun e w' => (∃ v, e = .returned v ∧ MgV w' W.heap.size v (f d)) ∧ Below W.heap.size W w') :
    Calls Tryz.prog 117 #[.pointer (some ⟨p.xb, 0, none⟩), .func (.func G) #[.pointer (some ⟨p.xb, 0, none⟩)] #[]] w fun e w' => (∃ v, e = .returned v ∧ MOwn w' w.heap.size v ((othersTo x.id x.ps.length).map f)) ∧ Below w.heap.size w w' := by
  have H := Lib.hid h
  have K := Lib.hid hG
  obtain ⟨m0, m1, m2, m3, m4, m5, m6⟩ := h.cells
  obtain ⟨n, hnn⟩ : ∃ n, x.ps.length = n := ⟨_, rfl⟩
  rw [hnn] at m6 hn K hid ⊢
  obtain ⟨I, hI⟩ : ∃ I, x.id = I := ⟨_, rfl⟩
  rw [hI] at m0 K hid ⊢
  have hnI : (n : Int) ≤ 9 := by omega
  have hIn : (I : Int) ≤ 9 := by omega
  have C0 := Lib.hid (fun W (hW : Below w.heap.size w W) => show W.cell? ⟨p.xb, 0, none⟩ = some (.int .i64 (I : Int)) from cellB hW m0)
  clear h hG hnn hI m1 m2 m3 m4 m5
  go_enter Tryz.func117, Tryz.ntmps117
  go_wp2_with fail
  go_loopw [5, 12] (fun v i wr => ∃ k : Nat, k ≤ n ∧ i = .int .i64 (k : Int) ∧ Hid (MOwn wr w.heap.size v ((othersTo I k).map f)) ∧ Hid (Below w.heap.size w wr)) (fun _ i _ => n - (intOf i).toNat)
  case atStart => exact ⟨0, by omega, rfl, Lib.hid (MOwn.nil _ _), Lib.hid (Below.refl _ _)⟩
  case round =>
    obtain ⟨k, hk, rfl, HM, HB⟩ := hrel
    have c0 := C0.out _ HB.out
    by_cases hlt : k < n
    · have hkI : (k : Int) < (n : Int) := by omega
      have hk0 : (0 : Int) ≤ (k : Int) := by omega
      by_cases hki : k = I
      · subst hki
        have HS : Hid (othersTo k (k + 1) = othersTo k k) := Lib.hid (by rw [othersTo_succ, if_pos rfl])
        have hne : ((k : Int) != (k : Int)) = false := by simp
        go_wp2_with fail
        go_roundw
        case rel => exact ⟨k + 1, by omega, by go_num, by rw [HS.out]; exact HM, HB⟩
        case measure => simp [intOf]; omega
      · have HS : Hid (othersTo I (k + 1) = othersTo I k ++ [k]) := Lib.hid (by rw [othersTo_succ, if_neg hki])
        have hne : ((k : Int) != (I : Int)) = true := by simp; omega
        have hneI : ¬ (k : Int) = (I : Int) := by omega
        have K2 := Lib.hid (K.out k wr (H.out.later HB.out) hlt hki)
        go_wp2_with fail
        refine K2.out.mono ?_
        rintro e w2 ⟨⟨mv, rfl, ev, rfl, he⟩, hb2⟩
        have HE : Hid (EOwn w2 w.heap.size ev (f k).ents) := Lib.hid (he.base fun j hj => Nat.le_trans HB.out.size (he.low j hj))
        have HB2 := Lib.hid (HB.out.trans (hb2.mono HB.out.size))
        have HM2 := Lib.hid (HM.out.later hb2)
        have HLEN : Hid (((othersTo I k).map f).length + 1 ≤ 1000000000) := Lib.hid (by rw [List.length_map]; have := othersTo_len I k; omega)
        unfold mgL
        clear he hb2 K2 HM HB c0
        have HB3 := Lib.hid ((Below.refl w2.heap.size w2).alloc (Nat.le_refl _) (.cells (mgL (f k) ev).toArray 40))
        have hbw := HB2.out.trans (HB3.out.mono HB2.out.size)
        have HBW := Lib.hid hbw
        have hsz := hbw.size
        clear hbw
        go_wp2_with (at_builtin; refine list_appM1 rfl _ _ rfl w.heap.size u5 ((othersTo I k).map f) rfl (HM2.out.later HB3.out) w2.heap.size 1 (f k) ev rfl (heap_alloc_new w2 _) (HE.out.later HB3.out) HLEN.out hsz ?_)
        intro v3 w3 hown3 hgr3
        have HM3 := Lib.hid hown3
        have HB4 := Lib.hid (HBW.out.trans ((hgr3.below hsz HM2.out.low)))
        clear hown3 hgr3 hsz
        go_wp2_with fail
        go_roundw
        case rel => exact ⟨k + 1, by omega, by go_num, by rw [HS.out, List.map_append]; exact HM3, HB4⟩
        case measure => simp [intOf]; omega
    · have hke : k = n := by omega
      subst hke
      have hkI : ¬ (k : Int) < (k : Int) := by omega
      go_wp2_with fail
      go_ret
      exact ⟨⟨_, rfl, HM.out⟩, HB.out⟩
end
end Go.Proofs.YtflkdgghpmhbgaaGreat
