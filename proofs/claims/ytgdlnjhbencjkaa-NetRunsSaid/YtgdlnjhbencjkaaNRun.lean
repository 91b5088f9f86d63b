/- net: NetRuns: the net and the reference's beside one another. -/
import Derived.Test.YtgdlnjhbencjkaaNTake
import Derived.Test.YtgdlnjhbencjkaaNPut
import Derived.Test.YtgdlnjhbencjkaaNRfD
import Derived.Test.YtgdlnjhbencjkaaNRfP
namespace Go.Proofs.Ytgdlnjhbencjkaa
open Go.RowKit
/-- What of a value of the reference the net has. -/
def valQ (q : List On) : List (Nat × Mg) := q.map fun x => (x.1, x.2.1)
theorem valQ_len (q : List On) : (valQ q).length = q.length := by simp [valQ]
theorem valQ_get {q : List On} {i n : Nat} {m : Mg} {ev : Value} (h : q[i]? = some (n, m, ev)) : (valQ q)[i]? = some (n, m) := by simp [valQ, h]
theorem valQ_snoc (q : List On) (n : Nat) (m : Mg) (ev : Value) : valQ (q ++ [(n, m, ev)]) = valQ q ++ [(n, m)] := by simp [valQ]
theorem map_erase {α β : Type} (f : α → β) : ∀ (l : List α) (i : Nat), (l.eraseIdx i).map f = (l.map f).eraseIdx i
  | [], _ => rfl
  | x :: l, 0 => rfl
  | x :: l, i + 1 => by simp only [List.eraseIdx_cons_succ, List.map_cons, map_erase f l i]
theorem valQ_drop (q : List On) (i : Nat) (h : i < q.length) : valQ (dropI q (i : Int)) = (valQ q).eraseIdx i := by
  unfold dropI valQ
  rw [if_pos (by omega), Int.toNat_natCast, map_erase]
theorem dropI_out {q : List On} {i : Int} (h : ¬ (0 ≤ i ∧ i < (q.length : Int))) : dropI q i = q := by
  unfold dropI
  rw [if_neg h]
/-- A net stays where one block of another kind turns. -/
theorem NW.but {w w' : World} {nb : Nat} {v : Value} {all : Nat} {l : List (Nat × Mg)} (h : NW w nb v all l) {b : Nat} {cs : Array Value} {ty : TypeId} (hb : w.heap[b]? = some (.cells cs ty (0, 0)))
    (h1 : 63 ≠ ty) (h2 : 70 ≠ ty) (h3 : 32 ≠ ty) (h4 : 60 ≠ ty) (ho : ∀ j, j ≠ b → w'.heap[j]? = w.heap[j]?) : NW w' nb v all l := by
  obtain ⟨q, e1, e2, e3⟩ := h.way
  refine ⟨(ho _ (ty_ne h.net hb h1)).trans h.net, q, e1.mv fun k hk => ?_, e2, fun i x hx => ?_⟩
  · obtain ⟨cur, hc⟩ := e1.typ k hk
    exact ho _ (ty_ne hc hb h2)
  · obtain ⟨m, f1, f2⟩ := e3 i x hx
    exact ⟨m, f1, f2.mv (fun j c hj => ho j (ty_ne hj hb h3)) (fun j c hj => ho j (ty_ne hj hb h4))⟩
/-- The net, and the reference's value in its variable, both laid since w0; the reference's entries lie below w0's end. -/
structure NR (w0 w : World) (nb rb : Nat) (v rv : Value) (all last : Nat) (l : List (Nat × Mg)) (q : List On) : Prop where
  nw : NW w nb v all l
  var : w.heap[rb]? = some (.cells #[rv, .int .u64 (last : Int)] 29 (0, 0))
  row : ROwn w w0.heap.size rv q
  ents : REnt w0 q
  below : Below w0.heap.size w0 w
  nbl : w0.heap.size ≤ nb
  rbl : w0.heap.size ≤ rb
  vl : ∀ j, v.ownBlock = some j → w0.heap.size ≤ j
section
variable {w0 w w' : World} {nb rb all last all' last' : Nat} {v v' rv rv' : Value} {l l' : List (Nat × Mg)} {q q' : List On}
theorem NR.ents' (h : NR w0 w nb rb v rv all last l q) : REnt w q := h.ents.later h.below
theorem NR.later (h : NR w0 w nb rb v rv all last l q) (hb : Below w.heap.size w w') : NR w0 w' nb rb v rv all last l q :=
  ⟨h.nw.later hb, (hb.block _ (block_lt h.var)).trans h.var, h.row.later hb, h.ents, h.below.trans (hb.mono h.below.size), h.nbl, h.rbl, h.vl⟩
theorem ROwn.typ {B : Nat} (h : ROwn w B rv q) : ∀ k, rv.ownBlock = some k → ∃ cur, w.heap[k]? = some (.cells cur 43 (0, 0)) := by
  intro k hk
  rcases h.2 with ⟨rfl, _⟩ | ⟨g, cap, cur, rfl, _, hg, _⟩
  · simp [Value.ownBlock] at hk
  · have : g = k := by simpa [Value.ownBlock] using hk
    subst this
    exact ⟨cur, hg⟩
theorem NR.net (h : NR w0 w nb rb v rv all last l q) (hn : NW w' nb v' all' l') (hc : NCh nb v w w' v') : NR w0 w' nb rb v' rv all' last l' q :=
  ⟨hn, (hc.msgs h.nw _ _ _ h.var (by decide) (by decide)).trans h.var, ownN_mv h.row (fun k hk => by obtain ⟨cur, hcur⟩ := h.row.typ k hk; exact hc.msgs h.nw _ _ _ hcur (by decide) (by decide)), h.ents,
    h.below.trans (hc.below h.nbl h.vl h.below.size), h.nbl, h.rbl, fun j hj => by
      rcases hc.loc j hj with e | e
      · exact h.vl j e
      · exact Nat.le_trans h.below.size e⟩
/-- The variable takes what a call of the reference's handed back. -/
theorem NR.set (h : NR w0 w nb rb v rv all last l q) {w1 : World} (hb : Below w.heap.size w w1) (hr : ROwn w1 w.heap.size rv' q') (he : REnt w0 q') :
    NR w0 ((w1.setCell ⟨rb, 0, none⟩ rv').setCell ⟨rb, 1, none⟩ (.int .u64 (last' : Int))) nb rb v rv' all last' l q' := by
  have h1 := h.later hb
  have hlt := block_lt h.var
  refine ⟨h1.nw.but h1.var (by decide) (by decide) (by decide) (by decide) (fun j hj => set2_other w1 rb _ _ j hj), set2_heap h1.var _ _, ?_, he, h1.below.trans (set2_below h.rbl _ _), h.nbl, h.rbl, h.vl⟩
  refine ownN_base (ownN_mv hr fun j hj => set2_other w1 rb _ _ j (fun e => ?_)) fun j hj => ?_
  · have := ownN_low hr j hj; omega
  · have := ownN_low hr j hj; have := h.below.size; omega
theorem REnt.snoc {n : Nat} {m : Mg} {ev : Value} (h : REnt w q) (he : ESl w ev m.ents) : REnt w (q ++ [(n, m, ev)]) := fun x hx => by
  rcases List.mem_append.1 hx with h1 | h1
  · exact h x h1
  · obtain rfl : x = (n, m, ev) := by simpa using h1
    exact he
theorem REnt.drop (h : REnt w q) (i : Int) : REnt w (dropI q i) := fun x hx => h x (dropI_mem hx)
end
end Go.Proofs.Ytgdlnjhbencjkaa
