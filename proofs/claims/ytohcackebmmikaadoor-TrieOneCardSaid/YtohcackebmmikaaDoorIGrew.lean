/- Appending to a slice of the call's own, and where the new slice lies; pairs in slices. -/
import Derived.Test.YtohcackebmmikaaDoorIMake2
import Derived.Deep.RegionLaw
namespace Go.Proofs.YtohcackebmmikaaDoor
open Go.RowKit

/-- From w to w' the block of v alone has turned, beside new blocks; v' lies in v's block or in a new one. -/
structure Grew (w : World) (v : Value) (w' : World) (v' : Value) : Prop where
  grow : w.grownBy w' v.ownBlock
  loc : ∀ k, v'.ownBlock = some k → v.ownBlock = some k ∨ w.heap.size ≤ k
theorem Grew.refl (w : World) (v : Value) : Grew w v w v := ⟨⟨rfl, rfl, rfl, Nat.le_refl _, fun _ _ _ => rfl⟩, fun _ h => .inl h⟩
theorem Grew.trans {w1 w2 w3 : World} {v1 v2 v3 : Value} (h : Grew w1 v1 w2 v2) (k : Grew w2 v2 w3 v3) : Grew w1 v1 w3 v3 := by
  refine ⟨⟨k.grow.os.trans h.grow.os, k.grow.tape.trans h.grow.tape, k.grow.output.trans h.grow.output, Nat.le_trans h.grow.size k.grow.size, fun b hb hne => ?_⟩, fun b hb => ?_⟩
  · refine (k.grow.block b (Nat.lt_of_lt_of_le hb h.grow.size) (fun e => ?_)).trans (h.grow.block b hb hne)
    rcases h.loc b e.symm with h1 | h1
    · exact hne h1.symm
    · omega
  · rcases k.loc b hb with h1 | h1
    · exact h.loc b h1
    · exact .inr (Nat.le_trans h.grow.size h1)
theorem Grew.alloc (w : World) (o : Obj) (v : Value) : Grew w v (w.alloc o) v := ⟨World.grownBy_alloc w o _, fun _ h => .inl h⟩
theorem Grew.drew (w : World) (v : Value) : Grew w v w.drew v := ⟨⟨rfl, rfl, rfl, Nat.le_refl _, fun _ _ _ => rfl⟩, fun _ h => .inl h⟩
theorem Grew.drewN (w : World) (v : Value) (n : Nat) : Grew w v (w.drewN n) v := ⟨⟨rfl, rfl, rfl, Nat.le_refl _, fun _ _ _ => rfl⟩, fun _ h => .inl h⟩
theorem Grew.ofBelow {w w' : World} (v : Value) (h : Below w.heap.size w w') : Grew w v w' v := ⟨⟨h.os, h.tape, h.output, h.size, fun k hk _ => h.block k hk⟩, fun _ h => .inl h⟩
theorem Grew.size {w w' : World} {v v' : Value} (h : Grew w v w' v') : w.heap.size ≤ w'.heap.size := h.grow.size
theorem Grew.block {w w' : World} {v v' : Value} (h : Grew w v w' v') {b : Nat} (hb : b < w.heap.size) (hne : v.ownBlock ≠ some b) : w'.heap[b]? = w.heap[b]? := h.grow.block b hb (Ne.symm hne)
theorem Grew.cell {w w' : World} {v v' : Value} (h : Grew w v w' v') {b o : Nat} {x : Value} (hc : w.cell? ⟨b, o, none⟩ = some x) (hne : v.ownBlock ≠ some b) : w'.cell? ⟨b, o, none⟩ = some x := by
  have hlt := World.block_lt_of_cell? w _ hc
  rw [← hc]; exact World.cell?_of_block (w := w) (h.block hlt hne)
theorem Grew.below {w w' : World} {v v' : Value} {B : Nat} (h : Grew w v w' v') (hB : B ≤ w.heap.size) (hv : ∀ k, v.ownBlock = some k → B ≤ k) : Below B w w' :=
  ⟨h.grow.os, h.grow.tape, h.grow.output, h.grow.size, fun k hk => h.grow.block k (by omega) (fun e => by have := hv k e.symm; omega)⟩

/-- What a slice type's tables say. -/
structure SlN (P : Program) (t e : TypeId) (z : Value) (size bytes : Nat) : Prop where
  und : P.underlying t = some (.slice e)
  info : (P.info? e).map (fun i => (i.zero, i.size, i.bytes)) = some (some z, size, bytes)
  zc : z.cells.size = size
  pos : 0 < size

theorem ownN_low {w : World} {B : Nat} {e : TypeId} {size n : Nat} {v : Value} {xs : List Value} (h : w.ownsRow B e size v n xs) : ∀ k, v.ownBlock = some k → B ≤ k := fun k hk => (World.ownsRow.lt h k hk).1
theorem ownN_ne {w : World} {B : Nat} {e : TypeId} {size n : Nat} {v : Value} {xs : List Value} (h : w.ownsRow B e size v n xs) {b : Nat} (hb : w.heap.size ≤ b) : v.ownBlock ≠ some b := fun hk => by have := (World.ownsRow.lt h b hk).2; omega

section
variable {P : Program} {w : World} {t e : TypeId} {z : Value} {size bytes : Nat}

/-- append at a plain region's list: what is appended lies in a block that is known whole. -/
theorem list_appN {ops : Array Oper} {rest : List Oper} {o : Oper} {a : Act} {Q : Exit → Act → World → Prop} (S : SlN P t e z size bytes) (hgd : o.guard = none) (s x : Operand)
    (ho : o.op = .call { callee := .builtin .append, args := #[s, x], argTypes := #[t, t] })
    (B : Nat) (v : Value) (n : Nat) (xs : List Value) (hs : a.eval s = v) (hown : w.ownsRow B e size v n xs)
    (g0 m c : Nat) (news : List Value) (hx : a.eval x = .slice (some ⟨g0, 0, none⟩) m c) (hblk : w.heap[g0]? = some (.cells news.toArray e (0, 0))) (hl : news.length = m * size) (h1 : ∀ u ∈ news, u.oneCell' = true)
    (hm : 0 < m) (h63 : n + m ≤ maxLen) (hbytes : (n + m) * bytes ≤ 140737488355328) (hbase : B ≤ w.heap.size)
    (h : ∀ g cap w', w'.ownsRow B e size (.slice (some ⟨g, 0, none⟩) (n + m) cap) (n + m) (xs ++ news) → Grew w v w' (.slice (some ⟨g, 0, none⟩) (n + m) cap) → wpList P ops Q rest (a.put o.dst (.slice (some ⟨g, 0, none⟩) (n + m) cap)) w') :
    wpList P ops Q (o :: rest) a w := by
  obtain ⟨i, hi, hz, hsz, hby⟩ := info_parts S.info
  refine wpList_append_lies w hgd s x t ho B e i z size bytes S.und hi hz hsz hby S.zc S.pos v n xs hs hown ⟨g0, 0, none⟩ m c news hx hl
    (by simpa using World.news_of_block hblk) h1 hm h63 hbytes hbase _ rfl ?_
  intro g cap w' h2 h3 h4 _
  refine h g cap w' h2 ⟨h3, fun k hk => ?_⟩
  have : g = k := by simpa [Value.ownBlock] using hk
  subst this
  rcases h4 with h4 | h4
  · exact .inl h4
  · exact .inr (by omega)
/-- .. at a step of a region that draws. -/
theorem step_appN {ops : Array Oper} {o : Oper} {a : Act} {K : Act → World → Prop} {Q : Exit → Act → World → Prop} {E : Prop} (S : SlN P t e z size bytes) (hgd : o.guard = none) (s x : Operand)
    (ho : o.op = .call { callee := .builtin .append, args := #[s, x], argTypes := #[t, t] })
    (B : Nat) (v : Value) (n : Nat) (xs : List Value) (hs : a.eval s = v) (hown : w.ownsRow B e size v n xs)
    (g0 m c : Nat) (news : List Value) (hx : a.eval x = .slice (some ⟨g0, 0, none⟩) m c) (hblk : w.heap[g0]? = some (.cells news.toArray e (0, 0))) (hl : news.length = m * size) (h1 : ∀ u ∈ news, u.oneCell' = true)
    (hm : 0 < m) (h63 : n + m ≤ maxLen) (hbytes : (n + m) * bytes ≤ 140737488355328) (hbase : B ≤ w.heap.size)
    (h : ∀ g cap w', w'.ownsRow B e size (.slice (some ⟨g, 0, none⟩) (n + m) cap) (n + m) (xs ++ news) → Grew w v w' (.slice (some ⟨g, 0, none⟩) (n + m) cap) → K (a.put o.dst (.slice (some ⟨g, 0, none⟩) (n + m) cap)) w') :
    if Region.wanted o (yielded ops a.tmps) = true then Oper.wp P o a w K Q else E := by
  obtain ⟨i, hi, hz, hsz, hby⟩ := info_parts S.info
  refine step_append_lies w hgd s x t ho B e i z size bytes S.und hi hz hsz hby S.zc S.pos v n xs hs hown ⟨g0, 0, none⟩ m c news hx hl
    (by simpa using World.news_of_block hblk) h1 hm h63 hbytes hbase _ rfl ?_
  intro g cap w' h2 h3 h4 _
  refine h g cap w' h2 ⟨h3, fun k hk => ?_⟩
  have : g = k := by simpa [Value.ownBlock] using hk
  subst this
  rcases h4 with h4 | h4
  · exact .inl h4
  · exact .inr (by omega)
end
theorem ownN_mv {w w' : World} {B : Nat} {e : TypeId} {size n : Nat} {v : Value} {xs : List Value} (h : w.ownsRow B e size v n xs) (hb : ∀ k, v.ownBlock = some k → w'.heap[k]? = w.heap[k]?) : w'.ownsRow B e size v n xs := by
  refine ⟨h.1, ?_⟩
  rcases h.2 with h0 | ⟨g, cap, cur, hv, hB, hg, rest⟩
  · exact .inl h0
  · exact .inr ⟨g, cap, cur, hv, hB, by rw [hb g (by rw [hv]; rfl)]; exact hg, rest⟩
theorem ownN_base {w : World} {B B' : Nat} {e : TypeId} {size n : Nat} {v : Value} {xs : List Value} (h : w.ownsRow B e size v n xs) (hb : ∀ k, v.ownBlock = some k → B' ≤ k) : w.ownsRow B' e size v n xs := by
  refine ⟨h.1, ?_⟩
  rcases h.2 with h0 | ⟨g, cap, cur, hv, hB, hg, rest⟩
  · exact .inl h0
  · exact .inr ⟨g, cap, cur, hv, hb g (by rw [hv]; rfl), hg, rest⟩


theorem Tryd.pairSl : SlN Tryd.prog 26 63 (.agg #[.string ⟨#[]⟩, .string ⟨#[]⟩]) 2 32 := ⟨Tryd.underlying26, by kernel_rfl, rfl, by decide⟩
theorem Tryd.strSl : SlN Tryd.prog 40 9 (.string ⟨#[]⟩) 1 16 := ⟨Tryd.underlying40, by kernel_rfl, rfl, by decide⟩

/-- The cells of pairs. -/
def pairC (l : List Pr) : List Value := l.flatMap fun x => [.string x.1, .string x.2]
theorem pairC_append (a b : List Pr) : pairC (a ++ b) = pairC a ++ pairC b := List.flatMap_append ..
theorem pairC_length (l : List Pr) : (pairC l).length = l.length * 2 := by
  induction l with
  | nil => rfl
  | cons x l ih => simp only [pairC, List.flatMap_cons, List.length_append, List.length_cons, List.length_nil] at ih ⊢; omega
theorem pairC_get : ∀ (l : List Pr) (i : Nat) (x : Pr), l[i]? = some x → (pairC l)[i * 2]? = some (.string x.1) ∧ (pairC l)[i * 2 + 1]? = some (.string x.2)
  | [], _, _, h => by cases h
  | y :: l, 0, x, h => by
    obtain rfl : y = x := by simpa using h
    exact ⟨rfl, rfl⟩
  | y :: l, i + 1, x, h => by
    have := pairC_get l i x (by simpa using h)
    have e : (pairC (y :: l)) = .string y.1 :: .string y.2 :: pairC l := rfl
    rw [e, show (i + 1) * 2 = i * 2 + 1 + 1 by omega]
    exact this
theorem pairC_one (l : List Pr) : ∀ u ∈ pairC l, u.oneCell' = true := by
  intro u hu
  simp only [pairC, List.mem_flatMap, List.mem_cons, List.not_mem_nil, or_false] at hu
  obtain ⟨x, _, rfl | rfl⟩ := hu <;> rfl

/-- The slice value v owns these pairs; no block below B is its own. -/
def POwn (w : World) (B : Nat) (v : Value) (l : List Pr) : Prop := w.ownsRow B 63 2 v l.length (pairC l)
theorem POwn.nil (w : World) (B : Nat) : POwn w B (.slice none 0 0) [] := World.ownsRow_nil _ _ _ _
theorem POwn.alloc {w : World} {B : Nat} {v : Value} {l : List Pr} (h : POwn w B v l) (o : Obj) : POwn (w.alloc o) B v l := World.ownsRow.alloc h o
theorem POwn.drewN {w : World} {B : Nat} {v : Value} {l : List Pr} (h : POwn w B v l) (n : Nat) : POwn (w.drewN n) B v l := h
theorem POwn.low {w : World} {B : Nat} {v : Value} {l : List Pr} (h : POwn w B v l) : ∀ k, v.ownBlock = some k → B ≤ k := ownN_low h
theorem POwn.later {w w' : World} {B : Nat} {v : Value} {l : List Pr} (h : POwn w B v l) (hb : Below w.heap.size w w') : POwn w' B v l := ownN_mv h (fun k hk => hb.block k (World.ownsRow.lt h k hk).2)
theorem POwn.shape {w : World} {B : Nat} {v : Value} {l : List Pr} (h : POwn w B v l) : ∃ a c, v = .slice a l.length c ∧ l.length ≤ c := by
  rcases h.2 with ⟨h1, h2⟩ | ⟨g, cap, cur, hv, _, _, hn, _⟩
  · exact ⟨none, 0, by rw [h1, h2], by omega⟩
  · exact ⟨_, _, hv, hn⟩

/-- The slice's elements are these pairs. -/
def PSl (w : World) (v : Value) (l : List Pr) : Prop := ∃ a c, v = .slice a l.length c ∧ l.length ≤ c ∧ (l ≠ [] → ∃ g o, a = some ⟨g, o, none⟩ ∧ g < w.heap.size ∧
  ∀ i x, l[i]? = some x → w.cell? ⟨g, o + i * 2, none⟩ = some (.string x.1) ∧ w.cell? ⟨g, o + i * 2 + 1, none⟩ = some (.string x.2))
theorem PSl.later {w w' : World} {v : Value} {l : List Pr} (h : PSl w v l) (hb : Below w.heap.size w w') : PSl w' v l := by
  obtain ⟨a, c, h1, h2, h3⟩ := h
  refine ⟨a, c, h1, h2, fun hne => ?_⟩
  obtain ⟨g, o, ha, hg, hc⟩ := h3 hne
  refine ⟨g, o, ha, Nat.lt_of_lt_of_le hg hb.size, fun i x hx => ?_⟩
  have := hc i x hx
  exact ⟨cellB hb this.1, cellB hb this.2⟩
theorem PSl.drewN {w : World} {v : Value} {l : List Pr} (h : PSl w v l) (n : Nat) : PSl (w.drewN n) v l := h
theorem POwn.sl {w : World} {B : Nat} {v : Value} {l : List Pr} (h : POwn w B v l) : PSl w v l := by
  obtain ⟨a, c, hv, hc⟩ := POwn.shape h
  refine ⟨a, c, hv, hc, fun hne => ?_⟩
  rcases h.2 with ⟨h1, h2⟩ | ⟨g, cap, cur, he, hB, hg, hn, hm, hs, ht⟩
  · exact absurd (List.eq_nil_of_length_eq_zero h2) hne
  · rw [hv] at he
    injection he with h5 h6 h7
    refine ⟨g, 0, h5, block_lt hg, fun i x hx => ?_⟩
    have hcell : ∀ (j : Nat) (u : Value), (pairC l)[j]? = some u → w.cell? ⟨g, 0 + j, none⟩ = some u := fun j u hu => by
      have hj : j < (pairC l).length := (List.getElem?_eq_some_iff.1 hu).1
      rw [← ht, List.getElem?_take] at hu
      split at hu
      · unfold World.cell?
        rw [hg]
        simpa using hu
      · cases hu
    obtain ⟨g1, g2⟩ := pairC_get l i x hx
    exact ⟨hcell _ _ g1, hcell _ _ g2⟩
theorem POwn.base {w : World} {B B' : Nat} {v : Value} {l : List Pr} (h : POwn w B v l) (hB : B' ≤ B) : POwn w B' v l := ownN_base h (fun k hk => Nat.le_trans hB (POwn.low h k hk))

/-- append of one pair, in a plain region. -/
theorem list_app1 {ops : Array Oper} {rest : List Oper} {o : Oper} {a : Act} {w : World} {Q : Exit → Act → World → Prop} (hgd : o.guard = none) (s x : Operand)
    (ho : o.op = .call { callee := .builtin .append, args := #[s, x], argTypes := #[26, 26] })
    (B : Nat) (v : Value) (l : List Pr) (hs : a.eval s = v) (hown : POwn w B v l)
    (g0 c : Nat) (p : Pr) (hx : a.eval x = .slice (some ⟨g0, 0, none⟩) 1 c) (hblk : w.heap[g0]? = some (.cells #[.string p.1, .string p.2] 63 (0, 0)))
    (hl : l.length + 1 ≤ 100000) (hbase : B ≤ w.heap.size)
    (h : ∀ v' w', POwn w' B v' (l ++ [p]) → Grew w v w' v' → wpList Tryd.prog ops Q rest (a.put o.dst v') w') :
    wpList Tryd.prog ops Q (o :: rest) a w := by
  refine list_appN Tryd.pairSl hgd s x ho B v l.length (pairC l) hs hown g0 1 c [.string p.1, .string p.2] hx hblk rfl (by simp [Value.oneCell']) (by omega) (by unfold maxLen; omega) (by omega) hbase ?_
  intro g cap w' h1 h2
  refine h _ w' ?_ h2
  unfold POwn
  rw [List.length_append, pairC_append]
  exact h1
theorem step_app1 {ops : Array Oper} {o : Oper} {a : Act} {w : World} {K : Act → World → Prop} {Q : Exit → Act → World → Prop} {E : Prop} (hgd : o.guard = none) (s x : Operand)
    (ho : o.op = .call { callee := .builtin .append, args := #[s, x], argTypes := #[26, 26] })
    (B : Nat) (v : Value) (l : List Pr) (hs : a.eval s = v) (hown : POwn w B v l)
    (g0 c : Nat) (p : Pr) (hx : a.eval x = .slice (some ⟨g0, 0, none⟩) 1 c) (hblk : w.heap[g0]? = some (.cells #[.string p.1, .string p.2] 63 (0, 0)))
    (hl : l.length + 1 ≤ 100000) (hbase : B ≤ w.heap.size)
    (h : ∀ v' w', POwn w' B v' (l ++ [p]) → Grew w v w' v' → K (a.put o.dst v') w') :
    if Region.wanted o (yielded ops a.tmps) = true then Oper.wp Tryd.prog o a w K Q else E := by
  refine step_appN Tryd.pairSl hgd s x ho B v l.length (pairC l) hs hown g0 1 c [.string p.1, .string p.2] hx hblk rfl (by simp [Value.oneCell']) (by omega) (by unfold maxLen; omega) (by omega) hbase ?_
  intro g cap w' h1 h2
  refine h _ w' ?_ h2
  unfold POwn
  rw [List.length_append, pairC_append]
  exact h1
end Go.Proofs.YtohcackebmmikaaDoor
