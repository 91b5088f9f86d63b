/- raft: RaftVotes: fuel, a crash, the node that is started anew. -/
import Derived.Test.YtflkdgghpmhbgaaGreatKV
import Derived.Test.YtflkdgghpmhbgaaGreatKL
import Derived.Maps.OwnSet
import Derived.Maps.OwnOps
import Derived.Maps.Ext
namespace Go.Proofs.YtflkdgghpmhbgaaGreat
open Go.RowKit Go.Maps

/-- Votes by terms. -/
abbrev Vm := Nat → Option Int
def Vm.set (f : Vm) (t : Nat) (x : Int) : Vm := fun j => if j = t then some x else f j
def Vm.le (f g : Vm) : Prop := ∀ t x, f t = some x → g t = some x
theorem Vm.le.refl (f : Vm) : f.le f := fun _ _ h => h
theorem Vm.le.trans {f g k : Vm} (h : f.le g) (h2 : g.le k) : f.le k := fun t x e => h2 t x (h t x e)
/-- No vote is of a greater term than that one; in that one it is that vote. -/
def Con (f : Vm) (t : Nat) (v : Int) : Prop := ∀ T x, f T = some x → 0 ≤ x ∧ x < 9223372036854775808 ∧ (T < t ∨ (T = t ∧ x = v))
theorem Con.none (t : Nat) (v : Int) : Con (fun _ => none) t v := fun T x h => by cases h
theorem Con.sub {f F : Vm} {t : Nat} {v : Int} (h : Con F t v) (hf : f.le F) : Con f t v := fun T x e => h T x (hf T x e)
theorem Con.step {F : Vm} {t : Nat} {v : Int} {c : CT} (h : Con F t v) (hl : Later t v c) (hc : c.vote < 9223372036854775808) : ∃ F' : Vm, F.le F' ∧ Con F' c.term c.vote ∧ (0 ≤ c.vote → F' c.term = some c.vote) := by
  have old : ∀ T x, F T = some x → T = c.term → 0 ≤ x ∧ x = c.vote := fun T x e hT => by
    obtain ⟨h0, _, h1⟩ := h T x e
    refine ⟨h0, ?_⟩
    rcases hl with hl | ⟨hl, hv⟩
    · omega
    · rcases h1 with h1 | ⟨_, h1⟩
      · omega
      · rcases hv with hv | hv
        · omega
        · exact h1.trans hv
  have lt : ∀ T x, F T = some x → T ≤ c.term := fun T x e => by
    obtain ⟨_, _, h1⟩ := h T x e
    rcases hl with hl | ⟨hl, _⟩ <;> omega
  by_cases hv : 0 ≤ c.vote
  · refine ⟨F.set c.term c.vote, fun T x e => ?_, fun T x e => ?_, fun _ => if_pos rfl⟩
    · unfold Vm.set
      split
      · rename_i hT
        rw [(old T x e hT).2]
      · exact e
    · unfold Vm.set at e
      split at e
      · rename_i hT
        obtain rfl := Option.some.inj e
        exact ⟨hv, hc, .inr ⟨hT, rfl⟩⟩
      · rename_i hT
        have := lt T x e
        exact ⟨(h T x e).1, (h T x e).2.1, .inl (by omega)⟩
  · refine ⟨F, Vm.le.refl F, fun T x e => ⟨(h T x e).1, (h T x e).2.1, ?_⟩, fun e => absurd e hv⟩
    by_cases hT : T = c.term
    · exact .inr ⟨hT, (old T x e hT).2⟩
    · exact .inl (by have := lt T x e; omega)
/-- Whom a message says to have the vote of the node. -/
def votesOf (id : Nat) (m : Mg) : Option Int := if m.kind = 1 ∧ m.ok = true then some m.dst else if m.kind = 0 then some (id : Int) else none
def Told (id : Nat) (F : Vm) (l : List Mg) : Prop := ∀ m ∈ l, ∀ x, votesOf id m = some x → F m.term = some x
theorem Told.nil (id : Nat) (F : Vm) : Told id F [] := fun m hm => by cases hm
theorem Told.le {id : Nat} {F G : Vm} {l : List Mg} (h : Told id F l) (hF : F.le G) : Told id G l := fun m hm x e => hF _ _ (h m hm x e)
theorem Told.app {id : Nat} {F : Vm} {l k : List Mg} (h : Told id F l) (h2 : Told id F k) : Told id F (l ++ k) := fun m hm => by
  rcases List.mem_append.1 hm with h3 | h3
  · exact h m h3
  · exact h2 m h3
theorem Says.told {y : RN} {l : List Mg} {F : Vm} (h : ∀ m ∈ l, Says y m) (hF : 0 ≤ y.s.c.vote → F y.s.c.term = some y.s.c.vote) : Told y.id F l := fun m hm x e => by
  obtain ⟨h1, h2⟩ := h m hm
  unfold votesOf at e
  split at e
  · rename_i hk
    obtain rfl := Option.some.inj e
    obtain ⟨a1, a2, a3⟩ := h2 hk.1 hk.2
    rw [a1, ← a2]
    exact hF (by omega)
  · split at e
    · rename_i hk
      obtain rfl := Option.some.inj e
      obtain ⟨a1, a2⟩ := h1 hk
      rw [a1, ← a2]
      exact hF (by omega)
    · cases e
/-- The map in memory. -/
theorem vu64_law : Keyed Tryz.prog 37 := int_keyed Tryz.underlying37
theorem vu64_key (j : Nat) (hj : j < 18446744073709551616) : keyOf Tryz.prog 37 (.int .u64 (j : Int)) = some (.int .u64 (j : Int)) := keyOf_int_mk Tryz.underlying37 (by simp [Lit.wf, IntKind.min, IntKind.max, IntKind.signed, IntKind.bits]; omega)
theorem vint_val (c : Int) (h0 : 0 ≤ c) (h1 : c < 9223372036854775808) : plainElem (H := Unit) Tryz.prog 3 (.int .i64 c) = some (.lit (.int .i64 c), []) := plainElem_int Tryz.underlying3 (by simp [Lit.wf, IntKind.min, IntKind.max, IntKind.signed, IntKind.bits]; omega)
theorem vzero_int (w : World) : (zeroValue 3).run Tryz.prog w = .ok (.int .i64 0) w := by kernel_rfl
def VtM (w : World) (mb n : Nat) (f : Vm) : Prop := ∃ D : DataW Unit, w.ownsMap Tryz.prog 37 (plainElem Tryz.prog 3) mb n D ∧ ∀ j : Nat, Maps.has D (.int .u64 (j : Int)) = (f j).isSome ∧ D.atKey (.int .u64 (j : Int)) (.lit (.int .i64 0)) = .lit (.int .i64 ((f j).getD 0))
theorem VtM.made (w : World) : VtM (w.alloc (.map #[] 0)) w.heap.size 0 (fun _ => none) := ⟨_, World.ownsMap_made _ _ _ _, fun _ => ⟨rfl, rfl⟩⟩
theorem VtM.mv {w w' : World} {mb n : Nat} {f : Vm} (h : VtM w mb n f) (hb : w'.heap[mb]? = w.heap[mb]?) : VtM w' mb n f := by
  obtain ⟨D, ⟨es, clock, h1, r⟩, h2⟩ := h
  exact ⟨D, ⟨es, clock, hb.trans h1, r⟩, h2⟩
theorem VtM.mono {w : World} {mb n n2 : Nat} {f : Vm} (h : VtM w mb n f) (hn : n ≤ n2) : VtM w mb n2 f := by
  obtain ⟨D, h1, h2⟩ := h
  exact ⟨D, h1.mono hn, h2⟩
theorem VtM.lt {w : World} {mb n : Nat} {f : Vm} (h : VtM w mb n f) : mb < w.heap.size := by
  obtain ⟨D, h1, _⟩ := h
  exact h1.lt
theorem VtM.obj {w : World} {mb n : Nat} {f : Vm} (h : VtM w mb n f) : ∃ es clock, w.heap[mb]? = some (.map es clock) := by
  obtain ⟨D, ⟨es, clock, h1, _⟩, _⟩ := h
  exact ⟨es, clock, h1⟩
set_option maxRecDepth 100000 in
theorem VtM.look {w : World} {mb n : Nat} {f : Vm} (h : VtM w mb n f) (j : Nat) (hj : j < 18446744073709551616) : (Instr.lookup 58 (.map (some mb)) (.int .u64 (j : Int)) true).run Tryz.prog w = .ok (.tuple #[.int .i64 ((f j).getD 0), .bool (f j).isSome]) w := by
  obtain ⟨D, h1, h2⟩ := h
  obtain ⟨v, ps, hrun, hv⟩ := h1.look_ok vu64_law Tryz.underlying58 (vzero_int w) (zd := .lit (.int .i64 0)) (zp := []) (plainElem_int Tryz.underlying3 (by decide)) (vu64_key j hj)
  obtain ⟨c, rfl, hc, _⟩ := plainElem_int_inv Tryz.underlying3 hv
  have hc2 := congrArg Prod.fst hc
  rw [(h2 j).2] at hc2
  injection hc2 with hc2
  injection hc2 with _ hc2
  rw [hrun, (h2 j).1, hc2]
theorem VtM.put {w : World} {mb n : Nat} {f : Vm} (h : VtM w mb n f) (j : Nat) (hj : j < 18446744073709551616) (hn : n ≤ 10000000) (c : Int) (h0 : 0 ≤ c) (h1c : c < 9223372036854775808) :
    ∃ w', (Instr.mapUpdate 58 (.map (some mb)) (.int .u64 (j : Int)) (.int .i64 c)).run Tryz.prog w = .ok () w' ∧ w.grownBy w' (some mb) ∧ VtM w' mb (n + 1) (f.set j c) := by
  obtain ⟨D, h1, h2⟩ := h
  obtain ⟨w', hrun, hown, hg⟩ := h1.update vu64_law Tryz.underlying58 (by unfold maxLen; omega) (vu64_key j hj) (vint_val c h0 h1c)
  refine ⟨w', hrun, hg, _, hown, fun k => ?_⟩
  unfold Vm.set
  by_cases hk : k = j
  · subst hk
    rw [if_pos rfl, has_put_same h1.isMap (by trivial), atKey_put_same h1.isMap (by trivial)]
    exact ⟨rfl, rfl⟩
  · have hne : (Lit.int .u64 (k : Int)) ≠ .int .u64 (j : Int) := fun e => by injection e with _ e; omega
    rw [if_neg hk, has_put_other hne, atKey_put_other hne]
    exact h2 k
/-- Slices of messages, as far as they tell. -/
def MRow (w : World) (B : Nat) (v : Value) (l : List Mg) : Prop := ∃ q : List (Mg × Value), q.map (·.1) = l ∧ w.ownsRow B 40 10 v q.length (mgC q) ∧ ∀ y ∈ q, y.2.oneCell' = true ∧ ∃ a n c, y.2 = .slice a n c
theorem MRow.nil (w : World) (B : Nat) : MRow w B (.slice none 0 0) [] := ⟨[], rfl, World.ownsRow_nil _ _ _ _, fun _ h => by cases h⟩
theorem MOwn.row {w : World} {B : Nat} {v : Value} {l : List Mg} (h : MOwn w B v l) : MRow w B v l := by
  obtain ⟨q, h1, h2, h3⟩ := h
  exact ⟨q, h1, h2, fun y hy => ⟨(h3 y hy).one, by obtain ⟨a, c, e, _⟩ := (h3 y hy).shape; exact ⟨a, _, c, e⟩⟩⟩
theorem MRow.base {w : World} {B B' : Nat} {v : Value} {l : List Mg} (h : MRow w B v l) (hB : B' ≤ B) : MRow w B' v l := by
  obtain ⟨q, h1, h2, h3⟩ := h
  exact ⟨q, h1, ownN_base h2 fun k hk => Nat.le_trans hB (ownN_low h2 k hk), h3⟩
theorem MRow.shape {w : World} {B : Nat} {v : Value} {l : List Mg} (h : MRow w B v l) : ∃ a c, v = .slice a l.length c := by
  obtain ⟨q, h1, h2, _⟩ := h
  have hl : l.length = q.length := by rw [← h1]; simp
  rcases h2.2 with ⟨e1, e2⟩ | ⟨g, cap, cur, hv, _⟩
  · exact ⟨none, 0, by rw [e1, hl, e2]⟩
  · exact ⟨_, cap, by rw [hv, hl]⟩
theorem MRow.mv {w w' : World} {B : Nat} {v : Value} {l : List Mg} (h : MRow w B v l) (hb : ∀ k, v.ownBlock = some k → w'.heap[k]? = w.heap[k]?) : MRow w' B v l := by
  obtain ⟨q, h1, h2, h3⟩ := h
  exact ⟨q, h1, ownN_mv h2 hb, h3⟩
theorem MRow.own {w : World} {B : Nat} {v : Value} {l : List Mg} (h : MRow w B v l) : ∀ k, v.ownBlock = some k → B ≤ k ∧ k < w.heap.size := by
  obtain ⟨q, h1, h2, _⟩ := h
  exact fun k hk => World.ownsRow.lt h2 k hk
theorem MRow.later {w w' : World} {B : Nat} {v : Value} {l : List Mg} (h : MRow w B v l) (hb : Below w.heap.size w w') : MRow w' B v l := h.mv fun k hk => hb.block k (h.own k hk).2
theorem mgC_get : ∀ (q : List (Mg × Value)) (i : Nat) (y : Mg × Value), q[i]? = some y → ∀ j u, (mgL y.1 y.2)[j]? = some u → (mgC q)[i * 10 + j]? = some u
  | [], i, y, h, _, _, _ => by simp at h
  | x :: q, 0, y, h, j, u, hu => by
    obtain rfl : x = y := by simpa using h
    have e : mgC (x :: q) = mgL x.1 x.2 ++ mgC q := rfl
    have hl := (List.getElem?_eq_some_iff.1 hu).1
    rw [e, Nat.zero_mul, Nat.zero_add, List.getElem?_append_left hl]
    exact hu
  | x :: q, i + 1, y, h, j, u, hu => by
    have e : mgC (x :: q) = mgL x.1 x.2 ++ mgC q := rfl
    have hl : (mgL x.1 x.2).length = 10 := rfl
    rw [e, show (i + 1) * 10 + j = 10 + (i * 10 + j) by omega, List.getElem?_append_right (by rw [hl]; omega), hl, Nat.add_sub_cancel_left]
    exact mgC_get q i y (by simpa using h) j u hu
theorem MRow.get {w : World} {B : Nat} {v : Value} {l : List Mg} (h : MRow w B v l) {i : Nat} {m : Mg} (hi : l[i]? = some m) : ∃ g ev c, v = .slice (some ⟨g, 0, none⟩) l.length c ∧ (∃ a n k, ev = .slice a n k) ∧ ∀ j u, (mgL m ev)[j]? = some u → w.cell? ⟨g, i * 10 + j, none⟩ = some u := by
  obtain ⟨q, h1, h2, h3⟩ := h
  have hl : l.length = q.length := by rw [← h1]; simp
  rw [← h1, List.getElem?_map] at hi
  obtain ⟨⟨m', ev⟩, hq, rfl⟩ := Option.map_eq_some_iff.1 hi
  rcases h2.2 with ⟨e1, e2⟩ | ⟨g, cap, cur, hv, _, hg, _, hcm, hcur, htk⟩
  · have : i < q.length := (List.getElem?_eq_some_iff.1 hq).1
    omega
  · refine ⟨g, ev, cap, by rw [hv, hl], (h3 _ (List.mem_of_getElem? hq)).2, fun j u hu => ?_⟩
    have hc := mgC_get q i _ hq j u hu
    rw [← htk] at hc
    have hlt := (List.getElem?_eq_some_iff.1 hc).1
    rw [List.getElem?_take] at hc
    split at hc
    · simp only [World.cell?, hg]
      simpa using hc
    · cases hc
end Go.Proofs.YtflkdgghpmhbgaaGreat
namespace Go.Proofs.YtflkdgghpmhbgaaGreat
open Go.RowKit Go.Maps

section
variable {w w' w0 : World} {p p' : Pl} {x y : RN}
theorem XW.offT (h : XW w p x) {k : Nat} {c : Array Value} {ty : TypeId} {fz : Nat × Nat} (hb : w.heap[k]? = some (.cells c ty fz)) (h0 : ty ≠ 127) (h1 : ty ≠ 188) (h2 : ty ≠ 121) (h3 : ty ≠ 124) (h4 : ty ≠ 70) (h5 : ty ≠ 5) : p.Off k := by
  obtain ⟨a1, a2, a3, a4⟩ := h.lw.far hb h2 h3 h4 h5
  exact ⟨ty_ne hb h.node h0, ty_ne hb h.peers h1, a1, a2, a3, a4⟩
theorem XW.grownV {mb : Nat} (h : XW w p x) (hg : w.grownBy w' (some mb)) (ho : p.Off mb) : XW w' p x := by
  have hb : ∀ k, k < w.heap.size → k ≠ mb → w'.heap[k]? = w.heap[k]? := fun k hk hne => hg.block k hk (fun e => hne (by injection e))
  obtain ⟨l1, l2, l3, l4⟩ := h.lw.lts
  exact ⟨(hb _ h.xlt (Ne.symm ho.xb)).trans h.node, (hb _ h.nlt (Ne.symm ho.nb)).trans h.peers,
    ⟨CtAt.mv h.lw.log (hb _ l1 (Ne.symm ho.lb)) fun k hk => hb k (l3 k hk) (fun e => ho.v (by rw [hk, e])), Dk.keep h.lw.disk (hb _ l2 (Ne.symm ho.db)) fun k hk => hb k (l4 k hk) (fun e => ho.dv (by rw [hk, e]))⟩⟩
/-- The node, the map of votes, the law's node, laid since w0. -/
structure VW (w0 w : World) (p : Pl) (x : RN) (g mb n : Nat) (f : Vm) : Prop where
  xw : XW w p x
  up : p.Up w0.heap.size
  below : Below w0.heap.size w0 w
  im : VtM w mb n f
  mbl : w0.heap.size ≤ mb
  mbo : p.Off mb
  gn : ∃ cs, w.heap[g]? = some (.cells (.pointer (some ⟨p.db, 0, none⟩) :: cs).toArray 50 (0, 0))
  go : p.Off g
variable {g mb n n2 : Nat} {f f2 : Vm}
theorem VW.later (h : VW w0 w p x g mb n f) (hb : Below w.heap.size w w') : VW w0 w' p x g mb n f := by
  obtain ⟨cs, hg⟩ := h.gn
  exact ⟨h.xw.later hb, h.up, h.below.trans (hb.mono h.below.size), h.im.mv (hb.block _ h.im.lt), h.mbl, h.mbo, ⟨cs, (hb.block _ (block_lt hg)).trans hg⟩, h.go⟩
theorem VW.step (h : VW w0 w p x g mb n f) (hx : XW w' p' y) (hc : XCh p w w' p') : VW w0 w' p' y g mb n f := by
  obtain ⟨cs, hg⟩ := h.gn
  obtain ⟨u1, u2⟩ := hc.up h.up h.below.size
  obtain ⟨o1, o2⟩ := hc.off h.mbo h.im.lt
  obtain ⟨q1, q2⟩ := hc.off h.go (block_lt hg)
  exact ⟨hx, u1, h.below.trans u2, h.im.mv o2, h.mbl, o1, ⟨cs, by rw [hc.db]; exact q2.trans hg⟩, q1⟩
theorem VW.kept (h : VW w0 w p x g mb n f) (hc : XCh p w w' p') {k : Nat} {c : Array Value} {ty : TypeId} {fz : Nat × Nat} (hb : w.heap[k]? = some (.cells c ty fz)) (h0 : ty ≠ 127) (h1 : ty ≠ 188) (h2 : ty ≠ 121) (h3 : ty ≠ 124) (h4 : ty ≠ 70) (h5 : ty ≠ 5) :
    w'.heap[k]? = some (.cells c ty fz) := ((hc.off (h.xw.offT hb h0 h1 h2 h3 h4 h5) (block_lt hb)).2).trans hb
theorem VW.grown (h : VW w0 w p x g mb n f) {k : Nat} (hg : w.grownBy w' (some k)) (ho : p.Off k) (h1 : k ≠ mb) (h2 : k ≠ g) (hB : w0.heap.size ≤ k) : VW w0 w' p x g mb n f := by
  obtain ⟨cs, hgn⟩ := h.gn
  have hb : ∀ j, j < w.heap.size → j ≠ k → w'.heap[j]? = w.heap[j]? := fun j hj hne => hg.block j hj (fun e => hne (by injection e))
  exact ⟨h.xw.grownV hg ho, h.up, h.below.grown hg h.below.size (fun j e => by injection e with e; exact e ▸ hB), h.im.mv (hb _ h.im.lt (Ne.symm h1)), h.mbl, h.mbo, ⟨cs, (hb _ (block_lt hgn) (Ne.symm h2)).trans hgn⟩, h.go⟩
theorem VW.mbg (h : VW w0 w p x g mb n f) : mb ≠ g := fun e => by
  obtain ⟨cs, hg⟩ := h.gn
  obtain ⟨es, clock, hm⟩ := h.im.obj
  rw [e, hg] at hm
  cases hm
theorem VW.put (h : VW w0 w p x g mb n f) (j : Nat) (hj : j < 18446744073709551616) (hn : n ≤ 10000000) (c : Int) (h0 : 0 ≤ c) (h1 : c < 9223372036854775808) :
    ∃ w', (Instr.mapUpdate 58 (.map (some mb)) (.int .u64 (j : Int)) (.int .i64 c)).run Tryz.prog w = .ok () w' ∧ w.grownBy w' (some mb) ∧ VW w0 w' p x g mb (n + 1) (f.set j c) := by
  obtain ⟨w', hrun, hg, him⟩ := h.im.put j hj hn c h0 h1
  obtain ⟨cs, hgn⟩ := h.gn
  have hb : ∀ j, j < w.heap.size → j ≠ mb → w'.heap[j]? = w.heap[j]? := fun j hj hne => hg.block j hj (fun e => hne (by injection e))
  exact ⟨w', hrun, hg, h.xw.grownV hg h.mbo, h.up, h.below.grown hg h.below.size (fun j e => by injection e with e; exact e ▸ h.mbl), him, h.mbl, h.mbo, ⟨cs, (hb _ (block_lt hgn) (Ne.symm h.mbg)).trans hgn⟩, h.go⟩
theorem MRow.typ {B : Nat} {v : Value} {l : List Mg} (h : MRow w B v l) : ∀ k, v.ownBlock = some k → ∃ cur, w.heap[k]? = some (.cells cur 40 (0, 0)) := by
  obtain ⟨q, h1, h2, _⟩ := h
  intro k hk
  rcases h2.2 with ⟨e1, _⟩ | ⟨b, cap, cur, hv, _, hg, _⟩
  · rw [e1] at hk; simp [Value.ownBlock] at hk
  · obtain rfl : b = k := by rw [hv] at hk; simpa [Value.ownBlock] using hk
    exact ⟨_, hg⟩
theorem MRow.ch {B : Nat} {v : Value} {l : List Mg} (hr : MRow w B v l) (h : VW w0 w p x g mb n f) (hc : XCh p w w' p') : MRow w' B v l := hr.mv fun k hk => by
  obtain ⟨cur, hb⟩ := hr.typ k hk
  rw [h.kept hc hb (by decide) (by decide) (by decide) (by decide) (by decide) (by decide)]
  exact hb.symm
/-- What was appended to a slice of messages turned nothing else. -/
theorem VW.grew (h : VW w0 w p x g mb n f) {v v' : Value} {l : List Mg} (hr : MRow w w0.heap.size v l) (hg : Grew w v w' v') : VW w0 w' p x g mb n f := by
  cases hv : v.ownBlock with
  | none =>
    have hgr := hg.grow
    rw [hv] at hgr
    exact h.later ⟨hgr.os, hgr.tape, hgr.output, hgr.size, fun j hj => hgr.block j hj (fun e => by cases e)⟩
  | some k =>
    have hgr := hg.grow
    rw [hv] at hgr
    obtain ⟨cur, hb⟩ := hr.typ k hv
    refine h.grown hgr (h.xw.offT hb (by decide) (by decide) (by decide) (by decide) (by decide) (by decide)) (fun e => ?_) (fun e => ?_) (hr.own k hv).1
    · obtain ⟨es, clock, hm⟩ := h.im.obj
      rw [← e, hb] at hm
      cases hm
    · obtain ⟨cs, hgn⟩ := h.gn
      exact ty_ne hb hgn (by decide) e
theorem cell_grew {v v' : Value} {l : List Mg} (hr : MRow w w0.heap.size v l) (hg : Grew w v w' v') {k : Nat} {c : Array Value} {ty : TypeId} {fz : Nat × Nat} (hb : w.heap[k]? = some (.cells c ty fz)) (hty : ty ≠ 40) : w'.heap[k]? = some (.cells c ty fz) := by
  refine (hg.grow.block k (block_lt hb) fun e => ?_).trans hb
  obtain ⟨cur, hc⟩ := hr.typ k e.symm
  exact ty_ne hb hc hty rfl
end
/-- append of messages to messages. -/
theorem list_appMR {ops : Array Oper} {rest : List Oper} {o : Oper} {a : Act} {w : World} {Q : Exit → Act → World → Prop} (hgd : o.guard = none) (s x : Operand)
    (ho : o.op = .call { callee := .builtin .append, args := #[s, x], argTypes := #[54, 54] })
    (B : Nat) (v : Value) (l : List Mg) (hs : a.eval s = v) (hown : MRow w B v l) (B2 : Nat) (v2 : Value) (k : List Mg) (hx : a.eval x = v2) (hown2 : MRow w B2 v2 k) (hl : l.length + k.length ≤ 1000000) (hbase : B ≤ w.heap.size)
    (h : ∀ v' w', MRow w' B v' (l ++ k) → Grew w v w' v' → wpList Tryz.prog ops Q rest (a.put o.dst v') w') :
    wpList Tryz.prog ops Q (o :: rest) a w := by
  obtain ⟨z, S⟩ := Tryz.msgSl
  obtain ⟨q, h1, h2, h3⟩ := hown
  obtain ⟨r, k1, k2, k3⟩ := hown2
  have hql : q.length = l.length := by rw [← h1]; simp
  have hrl : r.length = k.length := by rw [← k1]; simp
  have hcells : 0 < r.length → ∃ g o cp, v2 = .slice (some ⟨g, o, none⟩) r.length cp ∧ ∀ j u, (mgC r)[j]? = some u → w.cell? ⟨g, o + j, none⟩ = some u := fun hr => by
    rcases k2.2 with ⟨e1, e2⟩ | ⟨b, cap, cur, hv, _, hg, _, _, _, htk⟩
    · omega
    · refine ⟨b, 0, cap, hv, fun j u hu => ?_⟩
      rw [← htk] at hu
      rw [List.getElem?_take] at hu
      split at hu
      · simp only [World.cell?, hg, Nat.zero_add]
        simpa using hu
      · cases hu
  have hsh : ∃ a c, v2 = .slice a r.length c := by
    rcases k2.2 with ⟨e1, e2⟩ | ⟨b, cap, cur, hv, _⟩
    · exact ⟨none, 0, by rw [e1, e2]⟩
    · exact ⟨_, cap, hv⟩
  obtain ⟨ad, c, rfl⟩ := hsh
  refine list_appN2 S hgd s x ho B v q.length (mgC q) hs h2 ad r.length c (mgC r) hx (mgC_length r) (fun hm => ?_) (mgC_one r fun y hy => (k3 y hy).1) (by unfold maxLen; omega) (by omega) hbase ?_
  · obtain ⟨b, o', cp, e, hc⟩ := hcells hm
    injection e with e
    exact ⟨b, o', e, hc⟩
  · intro v' w' g1 g2
    refine h v' w' ⟨q ++ r, by rw [List.map_append, h1, k1], by rw [List.length_append, mgC_append]; exact g1, fun y hy => ?_⟩ g2
    rcases List.mem_append.1 hy with hy | hy
    · exact h3 y hy
    · exact k3 y hy
/-- The bounds and what a crash leaves. -/
structure VF (id N M K T : Nat) (x : RN) (t : Nat) (v : Int) : Prop where
  inn : x.In M K
  kept : x.s.Kept (Pv t v M K)
  id : x.id = id
  len : x.ps.length = N
  pat : x.pat ≤ T
/-- Behind an act's begin: f is what the map holds, F what is true, l what was sent. -/
structure TL (id N M K T : Nat) (x : RN) (t : Nat) (v : Int) (f F : Vm) (l : List Mg) : Prop where
  vf : VF id N M K T x t v
  le : f.le F
  con : Con F x.s.c.term x.s.c.vote
  told : Told id F l
section
variable {id N M K T M2 K2 T2 : Nat} {x : RN} {t : Nat} {v : Int} {f F : Vm} {l : List Mg}
theorem VF.mono (h : VF id N M K T x t v) (hM : M ≤ M2) (hK : K ≤ K2) (hT : T ≤ T2) : VF id N M2 K2 T2 x t v := ⟨h.inn.mono hM hK, Kept.up h.kept hM hK, h.id, h.len, Nat.le_trans h.pat hT⟩
theorem TL.mono (h : TL id N M K T x t v f F l) (hM : M ≤ M2) (hK : K ≤ K2) (hT : T ≤ T2) : TL id N M2 K2 T2 x t v f F l := ⟨h.vf.mono hM hK hT, h.le, h.con, h.told⟩
theorem TL.start (h : VF id N M K T x t v) (hc : Con f t v) : ∃ F, TL id N M K T x t v f F [] := by
  obtain ⟨F, h1, h2, _⟩ := hc.step h.kept.own.later h.kept.own.ok.votet
  exact ⟨F, h, h1, h2, Told.nil _ _⟩
theorem Later.refl (c : CT) : Later c.term c.vote c := .inr ⟨rfl, .inr rfl⟩
/-- A node that is up: all is sure, also that it is where it is. -/
theorem VF.here (h : VF id N M K T x t v) (hd : x.s.dn = false) : VF id N M K T x x.s.c.term x.s.c.vote :=
  ⟨h.inn, (h.kept.sure hd).kept ⟨h.kept.own.ok, h.kept.own.whole, h.kept.own.term, h.kept.own.last, Later.refl _⟩ h.kept.knows, h.id, h.len, h.pat⟩
theorem TL.next (h : TL id N M K T x t v f F l) (q : RN × List Mg) (hi : q.1.In M2 K2) (hs : ∀ t v, x.s.Kept (Pv t v M K) → RN.Step x q t v M2 K2) (hd : x.s.dn = true → q.2 = [] ∧ q.1.s.c = x.s.c) : ∃ F', TL id N M2 K2 (T + 1) q.1 t v f F' (l ++ q.2) := by
  have st := hs t v h.vf.kept
  have hvf : VF id N M2 K2 (T + 1) q.1 t v := ⟨hi, st.kept, st.id.trans h.vf.id, st.len.trans h.vf.len, by have := st.pat; have := h.vf.pat; omega⟩
  cases hdn : x.s.dn with
  | true =>
    obtain ⟨e1, e2⟩ := hd hdn
    exact ⟨F, hvf, h.le, by rw [e2]; exact h.con, by rw [e1, List.append_nil]; exact h.told⟩
  | false =>
    have st2 := hs _ _ (h.vf.here hdn).kept
    obtain ⟨F', h1, h2, h3⟩ := h.con.step st2.kept.own.later st2.kept.own.ok.votet
    refine ⟨F', hvf, h.le.trans h1, h2, (h.told.le h1).app ?_⟩
    have := Says.told st2.said h3
    rw [st2.id, h.vf.id] at this
    exact this
theorem TL.tick (h : TL id N M K T x t v f F l) (hM : M ≤ 70000000) (hK : K ≤ 1000000000000000) (hT : T ≤ 800000) (hid : id ≤ 1000) : ∃ F', TL id N (M + 90) (K + 2) (T + 1) x.tick.1 t v f F' (l ++ x.tick.2) := by
  have hp := h.vf.pat
  refine h.next x.tick (h.vf.inn.tick (by omega) (by omega) (by omega)) (fun t v hk => Step.up (tick_step hk (by omega) (by omega) (by rw [h.vf.id]; exact hid)) (by omega) (Nat.le_refl _)) (fun hd => ?_)
  unfold RN.tick
  rw [h.vf.kept.knows.or, if_pos hd, RN.down_id h.vf.kept.knows]
  exact ⟨rfl, rfl⟩
theorem TL.recv (h : TL id N M K T x t v f F l) (hM : M ≤ 60000000) (hK : K ≤ 1000000000000000) (m : Mg) (hE : EntsOk m.ents) (hb : m.index + m.ents.length ≤ K) (hl : m.lterm ≤ K) (hu : m.term ≤ K) (hes : (entsL m.ents).length ≤ 2000) (hst : m.state.size ≤ 100) :
    ∃ F', TL id N (M + 3000) (K + 1) (T + 1) (x.receive m).1 t v f F' (l ++ (x.receive m).2) := by
  refine h.next (x.receive m) ((h.vf.inn.receive m (by omega) (by omega) hE hb hl hu (by omega)).mono (by omega) (Nat.le_refl _)) (fun t v hk => Step.up (receive_step hk h.vf.inn.n m (by omega) (by omega) hE hb hl hu (by omega)) (by omega) (Nat.le_refl _)) (fun hd => ?_)
  have e : x.leaves m = true := by unfold RN.leaves; rw [hd]; rfl
  unfold RN.receive
  rw [if_pos e]
  exact ⟨rfl, rfl⟩
theorem TL.prop (h : TL id N M K T x t v f F l) (hM : M ≤ 60000000) (hK : K ≤ 1000000000000000) (cmd : ByteArray) (hc : cmd.size ≤ 100) :
    ∃ F', TL id N (M + 3000) (K + 1) (T + 1) (x.propose cmd).1 t v f F' (l ++ (x.propose cmd).2.2.2) := by
  refine h.next ((x.propose cmd).1, (x.propose cmd).2.2.2) ((h.vf.inn.propose cmd (by omega) (by omega) (by omega)).mono (by omega) (Nat.le_refl _)) (fun t v hk => Step.up (propose_step hk cmd (by omega) (by omega) (by omega)) (by omega) (Nat.le_refl _)) (fun hd => ?_)
  have e : x.addS cmd = (x.s, 3) := by
    unfold RN.addS LgS.add
    rw [h.vf.kept.knows.or, if_pos hd, h.vf.kept.knows.down]
  unfold RN.propose
  split
  · rw [if_neg (by rw [e]; show ¬ (3 : Int) = 0; decide)]
    refine ⟨rfl, ?_⟩
    show (x.addS cmd).1.c = _
    rw [e]
  · exact ⟨rfl, rfl⟩
end
end Go.Proofs.YtflkdgghpmhbgaaGreat
namespace Go.Proofs.YtflkdgghpmhbgaaGreat
open Go.RowKit Go.Maps

def RN.fuel (x : RN) (N : Int) : RN := { x with s := { x.s with d := { x.s.d with lim := decide (0 ≤ N), k := N.toNat } } }
def DS.crash (d : DS) (N : Int) : DS := ⟨d.T.extract 0 (d.n + min N.toNat (d.T.size - d.n)), d.n + min N.toNat (d.T.size - d.n), false, false, 0⟩
section
variable {id N M K T : Nat} {x : RN} {t : Nat} {v : Int} {f F : Vm} {l : List Mg}
theorem VF.fuel (h : VF id N M K T x t v) (z : Int) (hz : z ≤ 9223372036854775807) : VF id N M K T (x.fuel z) t v :=
  ⟨⟨⟨by show z.toNat ≤ _; omega, h.inn.s.ok, h.inn.s.whole, h.inn.s.T, h.inn.s.room⟩, h.inn.id, h.inn.n, h.inn.term, h.inn.last, h.inn.commit, h.inn.pat, h.inn.ps⟩,
   ⟨fun hd => ⟨(h.kept.sure hd).all, (h.kept.sure hd).read, (h.kept.sure hd).left⟩, h.kept.own, h.kept.n, h.kept.read, h.kept.knows⟩, h.id, h.len, h.pat⟩
theorem TL.fuel (h : TL id N M K T x t v f F l) (z : Int) (hz : z ≤ 9223372036854775807) : TL id N M K T (x.fuel z) t v f F l := ⟨h.vf.fuel z hz, h.le, h.con, h.told⟩
/-- A crash leaves a log that is read. -/
theorem VF.crash (h : VF id N M K T x t v) (z : Int) : ∃ c, Pv t v M K c ∧ readC (x.s.d.crash z).T = some c ∧ openO (x.s.d.crash z) = (some c, 0, x.s.d.crash z) ∧ (x.s.d.crash z).n = (x.s.d.crash z).T.size ∧ (x.s.d.crash z).T.size ≤ M := by
  have hn := h.kept.n
  obtain ⟨c, h1, h2⟩ := h.kept.read (x.s.d.n + min z.toNat (x.s.d.T.size - x.s.d.n)) (by omega) (by omega)
  have hs : (x.s.d.crash z).T.size = x.s.d.n + min z.toNat (x.s.d.T.size - x.s.d.n) := by
    show (x.s.d.T.extract 0 _).size = _
    rw [ByteArray.size_extract]; omega
  have hT := h.inn.s.T
  refine ⟨c, h2, h1, ?_, by rw [hs]; rfl, by rw [hs]; omega⟩
  unfold openO
  rw [if_neg (by show ¬ (false = true); simp), show readC (x.s.d.crash z).T = some c from h1]
  dsimp only
  rw [if_neg (by rw [hs]; show ¬ (_ + min _ _ < _); omega)]
/-- The node that is started on it. -/
theorem VF.again {d : DS} {c : CT} (hP : Pv t v M K c) (hr : readC d.T = some c) (hn : d.n = d.T.size) (hT : d.T.size ≤ M) (hk : d.k = 0) (hd : d.dn = false) (hid : id < N) (hN : N ≤ 9) : VF id N M K T (RN.start id N ⟨c, 0, false, d⟩) t v := by
  have hs : LgS.Sure ⟨c, 0, false, d⟩ := ⟨hn, hr, .inl rfl⟩
  have hkn : LgS.Knows ⟨c, 0, false, d⟩ := fun e => by rw [show d.dn = true from e] at hd; cases hd
  refine ⟨⟨⟨by show d.k ≤ _; omega, hP.ok, hP.whole, hT, Nat.zero_le _⟩, ?_, ?_, hP.term, hP.last, ?_, Nat.zero_le _, fun q hq => ?_⟩, hs.kept hP hkn, rfl, ?_, Nat.zero_le _⟩
  · show id < (List.replicate N _).length; rw [List.length_replicate]; exact hid
  · show (List.replicate N _).length ≤ 9; rw [List.length_replicate]; exact hN
  · show c.base ≤ K; have := hP.last; omega
  · obtain ⟨_, rfl⟩ := List.mem_replicate.1 hq
    exact ⟨Nat.zero_le _, Nat.zero_le _⟩
  · show (List.replicate N _).length = _; rw [List.length_replicate]
end
section
variable {w w' w0 : World} {p p' : Pl} {x y : RN} {g mb n db : Nat} {f : Vm} {dv dv' : Value} {d d' : DS}
theorem Ch.keptT (hd : DkS w db dv d) (hc : Ch db dv w w' dv') {k : Nat} {c : Array Value} {ty : TypeId} {fz : Nat × Nat} (hb : w.heap[k]? = some (.cells c ty fz)) (h3 : ty ≠ 124) (h5 : ty ≠ 5) : w'.heap[k]? = some (.cells c ty fz) := by
  refine (hc.block k (block_lt hb) (ty_ne hb hd.1 h3) fun e => ?_).trans hb
  obtain ⟨cur, fz2, hk⟩ := hd.2.1.typ k e
  exact ty_ne hb hk h5 rfl
/-- The disk alone is known, and the map. -/
structure VD (w0 w : World) (db : Nat) (dv : Value) (d : DS) (g mb n : Nat) (f : Vm) : Prop where
  disk : DkS w db dv d
  dbl : w0.heap.size ≤ db
  dvl : ∀ k, dv.ownBlock = some k → w0.heap.size ≤ k
  below : Below w0.heap.size w0 w
  im : VtM w mb n f
  mbl : w0.heap.size ≤ mb
  gn : ∃ cs, w.heap[g]? = some (.cells (.pointer (some ⟨db, 0, none⟩) :: cs).toArray 50 (0, 0))
theorem VD.mbo (h : VD w0 w db dv d g mb n f) : mb ≠ db ∧ dv.ownBlock ≠ some mb := by
  obtain ⟨es, clock, hm⟩ := h.im.obj
  refine ⟨fun e => ?_, fun e => ?_⟩
  · have := h.disk.1
    rw [← e, hm] at this
    cases this
  · obtain ⟨cur, fz, hk⟩ := h.disk.2.1.typ mb e
    rw [hm] at hk
    cases hk
theorem VD.ch (h : VD w0 w db dv d g mb n f) (hd : DkS w' db dv' d') (hc : Ch db dv w w' dv') : VD w0 w' db dv' d' g mb n f := by
  obtain ⟨cs, hg⟩ := h.gn
  obtain ⟨m1, m2⟩ := h.mbo
  exact ⟨hd, h.dbl, hc.low h.dvl h.below.size, h.below.trans (hc.below h.dbl h.dvl h.below.size), h.im.mv (hc.block _ h.im.lt m1 m2), h.mbl, ⟨cs, Ch.keptT h.disk hc hg (by decide) (by decide)⟩⟩
theorem VW.disk (h : VW w0 w p x g mb n f) : VD w0 w p.db p.dv x.s.d g mb n f := ⟨h.xw.lw.disk, h.up.db, h.up.dv, h.below, h.im, h.mbl, h.gn⟩
theorem vfuel_prog (h : VW w0 w p x g mb n f) (z : Int) : Calls Tryz.prog 25 #[.pointer (some ⟨p.db, 0, none⟩), .int .i64 z] w fun e w' => e = .returned (.tuple #[]) ∧ XO p w (x.fuel z) w' := by
  refine (fuel_prog h.xw.lw.disk z).mono ?_
  rintro e w' ⟨he, hd, hc⟩
  exact ⟨he, XO.ofLog h.xw (LO.of (h.xw.lw.byDisk (d := { x.s.d with lim := decide (0 ≤ z), k := z.toNat }) hd hc) (LCh.ofDisk p.lb p.v hc))⟩
theorem vcrash_prog (h : VW w0 w p x g mb n f) (hn : x.s.d.n ≤ x.s.d.T.size) (hT : x.s.d.T.size ≤ 1000000000) (z : Int) : Calls Tryz.prog 18 #[.pointer (some ⟨p.db, 0, none⟩), .int .i64 z] w fun e w' => e = .returned (.tuple #[]) ∧
    ∃ dv', VD w0 w' p.db dv' (x.s.d.crash z) g mb n f ∧ Ch p.db p.dv w w' dv' := by
  refine (crash_prog h.xw.lw.disk hn hT z).mono ?_
  rintro e w' ⟨he, v', hd, hc⟩
  exact ⟨he, v', h.disk.ch (d' := x.s.d.crash z) hd hc, hc⟩
theorem vopen_prog (h : VD w0 w db dv d g mb n f) (hk : d.k ≤ 9223372036854775807) (hn : d.n ≤ d.T.size) (hT : d.T.size ≤ 400000000) {c : CT} (ho : openO d = (some c, 0, d)) : Calls Tryz.prog 13 #[.pointer (some ⟨db, 0, none⟩)] w fun e w' =>
    ∃ lb v, e = .returned (.tuple #[.pointer (some ⟨lb, 0, none⟩), .int .i64 0]) ∧ VD w0 w' db dv d g mb n f ∧ LW w' lb db v dv ⟨c, 0, false, d⟩ ∧ w.heap.size ≤ lb ∧ (∀ k, v.ownBlock = some k → w.heap.size ≤ k) ∧ Ch db dv w w' dv := by
  refine (hopen_prog h.disk hk hn hT).mono ?_
  rw [ho]
  rintro e w' ⟨⟨lb, v, rfl, hlb, hl, hv⟩, hd, hc⟩
  exact ⟨lb, v, rfl, h.ch hd hc, ⟨hl, hd⟩, hlb, hv, hc⟩
theorem vstart_prog (h : VD w0 w db dv d g mb n f) {lb : Nat} {v : Value} {s : LgS} (hl : LW w lb db v dv s) (hlb : mb < lb) (hglb : g < lb) (hBlb : w0.heap.size ≤ lb) (hv : ∀ k, v.ownBlock = some k → mb < k ∧ g < k ∧ w0.heap.size ≤ k) (hk : s.Knows) (hdn : s.dn = false) (id N : Nat) (hid : id < N) (hN : N ≤ 9) :
    Calls Tryz.prog 15 #[.int .i64 (id : Int), .int .i64 (N : Int), .pointer (some ⟨lb, 0, none⟩)] w fun e w' => ∃ p : Pl, e = .returned (.tuple #[.pointer (some ⟨p.xb, 0, none⟩), .int .i64 0]) ∧ VW w0 w' p (RN.start id N s) g mb n f ∧ Below w.heap.size w w' := by
  refine (start_prog hl hk hdn id N hid hN).mono ?_
  rintro e w' ⟨xb, nb, rfl, hx, hb, h1, h2⟩
  obtain ⟨m1, m2⟩ := h.mbo
  obtain ⟨cs, hg⟩ := h.gn
  have hs := h.below.size
  have hml := h.im.lt
  have hgl := block_lt hg
  refine ⟨⟨xb, lb, db, nb, v, dv⟩, rfl, ⟨hx, ⟨Nat.le_trans hs h1, Nat.le_trans hs h2, hBlb, h.dbl, fun k hk => (hv k hk).2.2, h.dvl⟩, h.below.trans (hb.mono hs), h.im.mv (hb.block _ hml), h.mbl, ⟨?_, ?_, ?_, m1, fun e => ?_, m2⟩, ⟨cs, (hb.block _ hgl).trans hg⟩, ⟨?_, ?_, ?_, ty_ne hg h.disk.1 (by decide), fun e => ?_, fun e => ?_⟩⟩, hb⟩
  · show mb ≠ xb; omega
  · show mb ≠ nb; omega
  · show mb ≠ lb; omega
  · have := (hv mb e).1; omega
  · show g ≠ xb; omega
  · show g ≠ nb; omega
  · show g ≠ lb; omega
  · have := (hv g e).2.1; omega
  · obtain ⟨cur, fz, hk⟩ := h.disk.2.1.typ g e
    exact ty_ne hg hk (by decide) rfl
end
end Go.Proofs.YtflkdgghpmhbgaaGreat
