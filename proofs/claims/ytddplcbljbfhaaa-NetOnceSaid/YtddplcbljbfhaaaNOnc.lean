/- net: NetOnce: how often each message is on its way; the map that counts. -/
import Derived.Test.YtddplcbljbfhaaaNAwk
import Derived.Maps.OwnSet
import Derived.Maps.OwnOps
import Derived.Maps.RangeWalk
import Derived.Maps.Ext
namespace Go.Proofs.Ytddplcbljbfhaaa
open Go.RowKit Go.Maps

def mgO (t : Nat) : Mg := ⟨0, 0, 0, t, 0, 0, 0, false, [], ⟨#[]⟩⟩
/-- How many messages of that term are on their way. -/
def tcnt (l : List (Nat × Mg)) (j : Nat) : Nat := (l.filter fun x => x.2.term = j).length
theorem tcnt_nil (j : Nat) : tcnt [] j = 0 := rfl
theorem tcnt_le (l : List (Nat × Mg)) (j : Nat) : tcnt l j ≤ l.length := List.length_filter_le _ _
theorem tcnt_snoc (l : List (Nat × Mg)) (k : Nat) (m : Mg) (j : Nat) : tcnt (l ++ [(k, m)]) j = if j = m.term then tcnt l m.term + 1 else tcnt l j := by
  unfold tcnt
  rw [List.filter_append, List.length_append]
  by_cases h : j = m.term
  · subst h; simp
  · have h2 : ¬ m.term = j := fun e => h e.symm
    simp [h, h2]
theorem tcnt_erase : ∀ (l : List (Nat × Mg)) (i k : Nat) (m : Mg), l[i]? = some (k, m) → ∀ j, tcnt l j = tcnt (l.eraseIdx i) j + if m.term = j then 1 else 0
  | [], i, k, m, h, j => by simp at h
  | x :: l, 0, k, m, h, j => by
    obtain rfl : x = (k, m) := by simpa using h
    simp only [List.eraseIdx_cons_zero, tcnt, List.filter_cons]
    by_cases e : m.term = j <;> simp [e]
  | x :: l, i + 1, k, m, h, j => by
    have h2 : l[i]? = some (k, m) := by simpa using h
    have := tcnt_erase l i k m h2 j
    simp only [List.eraseIdx_cons_succ, tcnt, List.filter_cons] at this ⊢
    by_cases e : x.2.term = j <;> simp [e] <;> omega
/-- Only plain messages of small terms. -/
def Plain (l : List (Nat × Mg)) : Prop := ∀ x ∈ l, x.2.ents.length ≤ 1000 ∧ x.2.term ≤ 255
theorem Plain.snoc {l : List (Nat × Mg)} {k : Nat} {m : Mg} (h : Plain l) (h1 : m.ents.length ≤ 1000) (h2 : m.term ≤ 255) : Plain (l ++ [(k, m)]) := fun x hx => by
  rcases List.mem_append.1 hx with h3 | h3
  · exact h x h3
  · obtain rfl : x = (k, m) := by simpa using h3
    exact ⟨h1, h2⟩
theorem Plain.erase {l : List (Nat × Mg)} (h : Plain l) (i : Nat) : Plain (l.eraseIdx i) := fun x hx => h x (List.mem_of_mem_eraseIdx hx)
theorem Plain.get {l : List (Nat × Mg)} {i k : Nat} {m : Mg} (h : Plain l) (hi : l[i]? = some (k, m)) : m.ents.length ≤ 1000 ∧ m.term ≤ 255 := h _ (List.mem_of_getElem? hi)

theorem u64_law : Keyed Try.prog 27 := int_keyed Try.underlying27
theorem u64_key (j : Nat) (hj : j ≤ 255) : keyOf Try.prog 27 (.int .u64 (j : Int)) = some (.int .u64 (j : Int)) := keyOf_int_mk Try.underlying27 (by simp [Lit.wf, IntKind.min, IntKind.max, IntKind.signed, IntKind.bits]; omega)
theorem int_val (c : Int) (h0 : 0 ≤ c) (h1 : c ≤ 1000000) : plainElem (H := Unit) Try.prog 3 (.int .i64 c) = some (.lit (.int .i64 c), []) := plainElem_int Try.underlying3 (by simp [Lit.wf, IntKind.min, IntKind.max, IntKind.signed, IntKind.bits]; omega)
theorem zero_int (w : World) : (zeroValue 3).run Try.prog w = .ok (.int .i64 0) w := by kernel_rfl
/-- The map holds f's numbers. -/
def IMap (w : World) (mb n : Nat) (f : Nat → Nat) : Prop := ∃ D : DataW Unit, w.ownsMap Try.prog 27 (plainElem Try.prog 3) mb n D ∧ ∀ j : Nat, D.atKey (.int .u64 (j : Int)) (.lit (.int .i64 0)) = .lit (.int .i64 (f j : Int))
theorem IMap.made (w : World) : IMap (w.alloc (.map #[] 0)) w.heap.size 0 (tcnt []) := ⟨_, World.ownsMap_made _ _ _ _, fun _ => rfl⟩
theorem IMap.obj {w : World} {mb n : Nat} {f : Nat → Nat} (h : IMap w mb n f) : ∃ es clock, w.heap[mb]? = some (.map es clock) := by
  obtain ⟨D, ⟨es, clock, h1, _⟩, _⟩ := h
  exact ⟨es, clock, h1⟩
theorem IMap.mv {w w' : World} {mb n : Nat} {f : Nat → Nat} (h : IMap w mb n f) (hb : w'.heap[mb]? = w.heap[mb]?) : IMap w' mb n f := by
  obtain ⟨D, ⟨es, clock, h1, r⟩, h2⟩ := h
  exact ⟨D, ⟨es, clock, hb.trans h1, r⟩, h2⟩
theorem IMap.mono {w : World} {mb n n2 : Nat} {f : Nat → Nat} (h : IMap w mb n f) (hn : n ≤ n2) : IMap w mb n2 f := by
  obtain ⟨D, h1, h2⟩ := h
  exact ⟨D, h1.mono hn, h2⟩
theorem IMap.congr {w : World} {mb n : Nat} {f g : Nat → Nat} (h : IMap w mb n f) (e : ∀ j, f j = g j) : IMap w mb n g := by
  obtain ⟨D, h1, h2⟩ := h
  exact ⟨D, h1, fun j => by rw [h2 j, e j]⟩
set_option maxRecDepth 100000 in
theorem IMap.look {w : World} {mb n : Nat} {f : Nat → Nat} (h : IMap w mb n f) (j : Nat) (hj : j ≤ 255) : (Instr.lookup 56 (.map (some mb)) (.int .u64 (j : Int)) false).run Try.prog w = .ok (.int .i64 (f j : Int)) w := by
  obtain ⟨D, h1, h2⟩ := h
  obtain ⟨c, hr, hc, _⟩ := h1.lookup_int u64_law Try.underlying56 Try.underlying3 (zero_int w) (u64_key j hj)
  rw [h2 j] at hc
  injection hc with hc
  injection hc with _ hc
  rw [hr, ← hc]
theorem IMap.put {w : World} {mb n : Nat} {f : Nat → Nat} (h : IMap w mb n f) (j : Nat) (hj : j ≤ 255) (hn : n ≤ 1000) (c : Int) (d : Nat) (hc : c = (d : Int)) (hd : d ≤ 1000) :
    ∃ w', (Instr.mapUpdate 56 (.map (some mb)) (.int .u64 (j : Int)) (.int .i64 c)).run Try.prog w = .ok () w' ∧ w.grownBy w' (some mb) ∧ IMap w' mb (n + 1) (fun k => if k = j then d else f k) := by
  subst hc
  obtain ⟨D, h1, h2⟩ := h
  obtain ⟨w', hrun, hown, hg⟩ := h1.update u64_law Try.underlying56 (by unfold maxLen; omega) (u64_key j hj) (int_val (d : Int) (by omega) (by omega))
  refine ⟨w', hrun, hg, _, hown, fun k => ?_⟩
  by_cases hk : k = j
  · subst hk
    rw [atKey_put_same h1.isMap (by trivial)]
    simp
  · have hne : (Lit.int .u64 (k : Int)) ≠ .int .u64 (j : Int) := fun e => by injection e with _ e; omega
    rw [atKey_put_other hne, h2 k]
    simp [hk]
/-- The net and the map that counts, laid since w0. -/
structure NQ (w0 w : World) (nb mb : Nat) (v : Value) (all n : Nat) (l : List (Nat × Mg)) (f : Nat → Nat) : Prop where
  nw : NW w nb v all l
  im : IMap w mb n f
  below : Below w0.heap.size w0 w
  nbl : w0.heap.size ≤ nb
  mbl : w0.heap.size ≤ mb
  vl : ∀ j, v.ownBlock = some j → w0.heap.size ≤ j
section
variable {w0 w w' : World} {nb mb all n : Nat} {v v' : Value} {l l' : List (Nat × Mg)} {f g : Nat → Nat}
theorem NQ.mne (h : NQ w0 w nb mb v all n l f) : mb ≠ nb ∧ v.ownBlock ≠ some mb ∧ mb < w.heap.size := by
  obtain ⟨es, clock, hm⟩ := h.im.obj
  refine ⟨fun e => ?_, fun e => ?_, block_lt hm⟩
  · have := h.nw.net
    rw [← e, hm] at this
    cases this
  · obtain ⟨q, h1, _⟩ := h.nw.way
    obtain ⟨cur, hc⟩ := h1.typ mb e
    rw [hm] at hc
    cases hc
theorem NQ.later (h : NQ w0 w nb mb v all n l f) (hb : Below w.heap.size w w') : NQ w0 w' nb mb v all n l f :=
  ⟨h.nw.later hb, h.im.mv (hb.block _ h.mne.2.2), h.below.trans (hb.mono h.below.size), h.nbl, h.mbl, h.vl⟩
theorem NQ.alloc (h : NQ w0 w nb mb v all n l f) (o : Obj) : NQ w0 (w.alloc o) nb mb v all n l f := h.later ((Below.refl _ _).alloc (Nat.le_refl _) _)
theorem NQ.net {all' : Nat} (h : NQ w0 w nb mb v all n l f) (hn : NW w' nb v' all' l') (hc : NCh nb v w w' v') : NQ w0 w' nb mb v' all' n l' f :=
  ⟨hn, h.im.mv (hc.block _ h.mne.2.2 h.mne.1 h.mne.2.1), h.below.trans (hc.below h.nbl h.vl h.below.size), h.nbl, h.mbl, fun j hj => by
    rcases hc.loc j hj with e | e
    · exact h.vl j e
    · exact Nat.le_trans h.below.size e⟩
theorem NQ.congr (h : NQ w0 w nb mb v all n l f) (e : ∀ j, f j = g j) : NQ w0 w nb mb v all n l g := ⟨h.nw, h.im.congr e, h.below, h.nbl, h.mbl, h.vl⟩
theorem NQ.put (h : NQ w0 w nb mb v all n l f) (j : Nat) (hj : j ≤ 255) (hn : n ≤ 1000) (c : Int) (d : Nat) (hc : c = (d : Int)) (hd : d ≤ 1000) :
    ∃ w', (Instr.mapUpdate 56 (.map (some mb)) (.int .u64 (j : Int)) (.int .i64 c)).run Try.prog w = .ok () w' ∧ NQ w0 w' nb mb v all (n + 1) l (fun k => if k = j then d else f k) := by
  obtain ⟨w', hrun, hg, him⟩ := h.im.put j hj hn c d hc hd
  obtain ⟨n1, n2, n3⟩ := h.mne
  have hb : ∀ k, k < w.heap.size → k ≠ mb → w'.heap[k]? = w.heap[k]? := fun k hk hne => hg.block k hk (fun e => hne (by injection e))
  refine ⟨w', hrun, ?_, him, h.below.grown hg h.below.size (fun k e => by injection e with e; exact e ▸ h.mbl), h.nbl, h.mbl, h.vl⟩
  obtain ⟨q, h1, h2, h3⟩ := h.nw.way
  obtain ⟨es, clock, hm⟩ := h.im.obj
  refine ⟨(hb _ h.nw.lt n1.symm).trans h.nw.net, q, h1.mv fun k hk => hb k (h1.lt k hk) (fun e => n2 (e ▸ hk)), h2, fun i x hx => ?_⟩
  obtain ⟨m, e1, e2⟩ := h3 i x hx
  refine ⟨m, e1, e2.mv (fun j c hj => hb j (block_lt hj) fun e => ?_) (fun j c hj => hb j (block_lt hj) fun e => ?_)⟩
  · rw [e, hm] at hj; cases hj
  · rw [e, hm] at hj; cases hj
end
/-- The length of the net's row, read off the world. -/
def wayLen (w : World) (nb : Nat) : Nat := match w.heap[nb]? with
  | some (Obj.cells cs _ _) => match cs[0]? with
    | some (Value.slice _ n _) => n
    | _ => 0
  | _ => 0
theorem NW.wayLen {w : World} {nb : Nat} {v : Value} {all : Nat} {l : List (Nat × Mg)} (h : NW w nb v all l) : wayLen w nb = l.length := by
  obtain ⟨a, c, rfl⟩ := h.shape
  simp [Ytddplcbljbfhaaa.wayLen, h.net]
set_option maxRecDepth 100000 in
theorem IMap.zero {w : World} {mb n : Nat} {f : Nat → Nat} (h : IMap w mb n f) (hf : ∀ j, f j = 0) : ∃ D : DataW Unit, w.ownsMap Try.prog 27 (plainElem Try.prog 3) mb n D ∧
    ∀ x c : Int, (Lit.int .u64 x).wf = true → (∀ zd, D.atKey (.int .u64 x) zd = .lit (.int .i64 c)) → c = 0 := by
  obtain ⟨D, h1, h2⟩ := h
  refine ⟨D, h1, fun x c hx hat => ?_⟩
  have h0 : 0 ≤ x := by simp [Lit.wf, IntKind.min, IntKind.max, IntKind.signed, IntKind.bits] at hx; exact hx.1
  have h3 := h2 x.toNat
  rw [Int.toNat_of_nonneg h0, hat, hf] at h3
  injection h3 with h3
  injection h3 with _ h3
end Go.Proofs.Ytddplcbljbfhaaa
