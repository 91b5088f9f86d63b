/- log: slices of entries: what a slice holds, append, cutting, clearing. -/
import Derived.Test.YtfocljmjejniiaaGMath
import Derived.Test.YtfocljmjejniiaaDDisk2
import Derived.Laws.AppendOwnNone
import Derived.Laws.IdiomCopy
import Derived.Deep.AppendLies
namespace Go.Proofs.Ytfocljmjejniiaa
open Go.RowKit

theorem block_lt {w : World} {g : Nat} {o : Obj} (h : w.heap[g]? = some o) : g < w.heap.size := (Array.getElem?_eq_some_iff.1 h).1
theorem cellB {w w' : World} {b o : Nat} {v : Value} (hb : Below w.heap.size w w') (hc : w.cell? ⟨b, o, none⟩ = some v) : w'.cell? ⟨b, o, none⟩ = some v := by
  rw [hb.cell (p := ⟨b, o, none⟩) (World.block_lt_of_cell? w _ hc)]; exact hc

/-- From w to w' the block of v alone has turned, beside new blocks; v' lies in v's block or in a new one. -/
structure Grew (w : World) (v : Value) (w' : World) (v' : Value) : Prop where
  grow : w.grownBy w' v.ownBlock
  loc : ∀ k, v'.ownBlock = some k → v.ownBlock = some k ∨ w.heap.size ≤ k
theorem Grew.refl (w : World) (v : Value) : Grew w v w v := ⟨⟨rfl, rfl, rfl, Nat.le_refl _, fun _ _ _ => rfl⟩, fun _ h => .inl h⟩
theorem Grew.trans {w1 w2 w3 : World} {v1 v2 v3 : Value} (h : Grew w1 v1 w2 v2) (k : Grew w2 v2 w3 v3) : Grew w1 v1 w3 v3 := by
  refine ⟨⟨k.grow.os.trans h.grow.os, k.grow.tape.trans h.grow.tape, k.grow.output.trans h.grow.output, Nat.le_trans h.grow.size k.grow.size, fun b hb hne => ?_⟩, fun b hb => ?_⟩
  · refine (k.grow.block b (Nat.lt_of_lt_of_le hb h.grow.size) (fun e => ?_)).trans (h.grow.block b hb hne)
    rcases h.loc b e.symm with h1 | h1
    · exact hne h1.symm
    · omega
  · rcases k.loc b hb with h1 | h1
    · exact h.loc b h1
    · exact .inr (Nat.le_trans h.grow.size h1)
theorem Grew.alloc (w : World) (o : Obj) (v : Value) : Grew w v (w.alloc o) v := ⟨World.grownBy_alloc w o _, fun _ h => .inl h⟩
theorem Grew.drew (w : World) (v : Value) : Grew w v w.drew v := ⟨⟨rfl, rfl, rfl, Nat.le_refl _, fun _ _ _ => rfl⟩, fun _ h => .inl h⟩
theorem Grew.drewN (w : World) (v : Value) (n : Nat) : Grew w v (w.drewN n) v := ⟨⟨rfl, rfl, rfl, Nat.le_refl _, fun _ _ _ => rfl⟩, fun _ h => .inl h⟩
theorem Grew.ofBelow {w w' : World} (v : Value) (h : Below w.heap.size w w') : Grew w v w' v := ⟨⟨h.os, h.tape, h.output, h.size, fun k hk _ => h.block k hk⟩, fun _ h => .inl h⟩
theorem Grew.size {w w' : World} {v v' : Value} (h : Grew w v w' v') : w.heap.size ≤ w'.heap.size := h.grow.size
theorem Grew.block {w w' : World} {v v' : Value} (h : Grew w v w' v') {b : Nat} (hb : b < w.heap.size) (hne : v.ownBlock ≠ some b) : w'.heap[b]? = w.heap[b]? := h.grow.block b hb (Ne.symm hne)
theorem Grew.cell {w w' : World} {v v' : Value} (h : Grew w v w' v') {b o : Nat} {x : Value} (hc : w.cell? ⟨b, o, none⟩ = some x) (hne : v.ownBlock ≠ some b) : w'.cell? ⟨b, o, none⟩ = some x := by
  have hlt := World.block_lt_of_cell? w _ hc
  rw [← hc]; exact World.cell?_of_block (w := w) (h.block hlt hne)
theorem Grew.below {w w' : World} {v v' : Value} {B : Nat} (h : Grew w v w' v') (hB : B ≤ w.heap.size) (hv : ∀ k, v.ownBlock = some k → B ≤ k) : Below B w w' :=
  ⟨h.grow.os, h.grow.tape, h.grow.output, h.grow.size, fun k hk => h.grow.block k (by omega) (fun e => by have := hv k e.symm; omega)⟩

/-- What a slice type's tables say. -/
structure SlN (P : Program) (t e : TypeId) (z : Value) (size bytes : Nat) : Prop where
  und : P.underlying t = some (.slice e)
  info : (P.info? e).map (fun i => (i.zero, i.size, i.bytes)) = some (some z, size, bytes)
  zc : z.cells.size = size
  pos : 0 < size

theorem ownN_low {w : World} {B : Nat} {e : TypeId} {size n : Nat} {v : Value} {xs : List Value} (h : w.ownsRow B e size v n xs) : ∀ k, v.ownBlock = some k → B ≤ k := fun k hk => (World.ownsRow.lt h k hk).1
theorem ownN_ne {w : World} {B : Nat} {e : TypeId} {size n : Nat} {v : Value} {xs : List Value} (h : w.ownsRow B e size v n xs) {b : Nat} (hb : w.heap.size ≤ b) : v.ownBlock ≠ some b := fun hk => by have := (World.ownsRow.lt h b hk).2; omega

section
variable {P : Program} {w : World} {t e : TypeId} {z : Value} {size bytes : Nat}

/-- append at a plain region's list: what is appended lies in a block that is known whole. -/
theorem list_appN {ops : Array Oper} {rest : List Oper} {o : Oper} {a : Act} {Q : Exit → Act → World → Prop} (S : SlN P t e z size bytes) (hgd : o.guard = none) (s x : Operand)
    (ho : o.op = .call { callee := .builtin .append, args := #[s, x], argTypes := #[t, t] })
    (B : Nat) (v : Value) (n : Nat) (xs : List Value) (hs : a.eval s = v) (hown : w.ownsRow B e size v n xs)
    (g0 m c : Nat) (news : List Value) (hx : a.eval x = .slice (some ⟨g0, 0, none⟩) m c) (hblk : w.heap[g0]? = some (.cells news.toArray e (0, 0))) (hl : news.length = m * size) (h1 : ∀ u ∈ news, u.oneCell' = true)
    (hm : 0 < m) (h63 : n + m ≤ maxLen) (hbytes : (n + m) * bytes ≤ 140737488355328) (hbase : B ≤ w.heap.size)
    (h : ∀ g cap w', w'.ownsRow B e size (.slice (some ⟨g, 0, none⟩) (n + m) cap) (n + m) (xs ++ news) → Grew w v w' (.slice (some ⟨g, 0, none⟩) (n + m) cap) → wpList P ops Q rest (a.put o.dst (.slice (some ⟨g, 0, none⟩) (n + m) cap)) w') :
    wpList P ops Q (o :: rest) a w := by
  obtain ⟨i, hi, hz, hsz, hby⟩ := info_parts S.info
  refine wpList_append_lies w hgd s x t ho B e i z size bytes S.und hi hz hsz hby S.zc S.pos v n xs hs hown ⟨g0, 0, none⟩ m c news hx hl
    (by simpa using World.news_of_block hblk) h1 hm h63 hbytes hbase _ rfl ?_
  intro g cap w' h2 h3 h4 _
  refine h g cap w' h2 ⟨h3, fun k hk => ?_⟩
  have : g = k := by simpa [Value.ownBlock] using hk
  subst this
  rcases h4 with h4 | h4
  · exact .inl h4
  · exact .inr (by omega)
/-- .. at a step of a region that draws. -/
theorem step_appN {ops : Array Oper} {o : Oper} {a : Act} {K : Act → World → Prop} {Q : Exit → Act → World → Prop} {E : Prop} (S : SlN P t e z size bytes) (hgd : o.guard = none) (s x : Operand)
    (ho : o.op = .call { callee := .builtin .append, args := #[s, x], argTypes := #[t, t] })
    (B : Nat) (v : Value) (n : Nat) (xs : List Value) (hs : a.eval s = v) (hown : w.ownsRow B e size v n xs)
    (g0 m c : Nat) (news : List Value) (hx : a.eval x = .slice (some ⟨g0, 0, none⟩) m c) (hblk : w.heap[g0]? = some (.cells news.toArray e (0, 0))) (hl : news.length = m * size) (h1 : ∀ u ∈ news, u.oneCell' = true)
    (hm : 0 < m) (h63 : n + m ≤ maxLen) (hbytes : (n + m) * bytes ≤ 140737488355328) (hbase : B ≤ w.heap.size)
    (h : ∀ g cap w', w'.ownsRow B e size (.slice (some ⟨g, 0, none⟩) (n + m) cap) (n + m) (xs ++ news) → Grew w v w' (.slice (some ⟨g, 0, none⟩) (n + m) cap) → K (a.put o.dst (.slice (some ⟨g, 0, none⟩) (n + m) cap)) w') :
    if Region.wanted o (yielded ops a.tmps) = true then Oper.wp P o a w K Q else E := by
  obtain ⟨i, hi, hz, hsz, hby⟩ := info_parts S.info
  refine step_append_lies w hgd s x t ho B e i z size bytes S.und hi hz hsz hby S.zc S.pos v n xs hs hown ⟨g0, 0, none⟩ m c news hx hl
    (by simpa using World.news_of_block hblk) h1 hm h63 hbytes hbase _ rfl ?_
  intro g cap w' h2 h3 h4 _
  refine h g cap w' h2 ⟨h3, fun k hk => ?_⟩
  have : g = k := by simpa [Value.ownBlock] using hk
  subst this
  rcases h4 with h4 | h4
  · exact .inl h4
  · exact .inr (by omega)
end
theorem ownN_mv {w w' : World} {B : Nat} {e : TypeId} {size n : Nat} {v : Value} {xs : List Value} (h : w.ownsRow B e size v n xs) (hb : ∀ k, v.ownBlock = some k → w'.heap[k]? = w.heap[k]?) : w'.ownsRow B e size v n xs := by
  refine ⟨h.1, ?_⟩
  rcases h.2 with h0 | ⟨g, cap, cur, hv, hB, hg, rest⟩
  · exact .inl h0
  · exact .inr ⟨g, cap, cur, hv, hB, by rw [hb g (by rw [hv]; rfl)]; exact hg, rest⟩
theorem ownN_base {w : World} {B B' : Nat} {e : TypeId} {size n : Nat} {v : Value} {xs : List Value} (h : w.ownsRow B e size v n xs) (hb : ∀ k, v.ownBlock = some k → B' ≤ k) : w.ownsRow B' e size v n xs := by
  refine ⟨h.1, ?_⟩
  rcases h.2 with h0 | ⟨g, cap, cur, hv, hB, hg, rest⟩
  · exact .inl h0
  · exact .inr ⟨g, cap, cur, hv, hb g (by rw [hv]; rfl), hg, rest⟩


theorem run_append_empty {P : Program} {w : World} (base : Nat) (t ty e : TypeId) (i : TypeInfo) (size : Nat) (ht : P.underlying t = some (.slice e)) (hi : P.info? e = some i)
    (v : Value) (n : Nat) (xs : List Value) (hown : w.ownsRow base e size v n xs) (a : Option Addr) (c : Nat) :
    (Builtin.append_ #[t, t] ty #[v, .slice a 0 c]).run P w = .ok v w := by
  rcases hown.2 with ⟨rfl, rfl⟩ | ⟨g, cap, cur, rfl, _, _, hnc, _⟩
  · cases a <;> simp [Builtin.append_, run_underlying ht, sizeOf, typeInfo, hi, Builtin.lenOf, Builtin.firstCells, loadCells, loadCellsFrom]
  · cases a <;> simp [Builtin.append_, run_underlying ht, sizeOf, typeInfo, hi, Builtin.lenOf, Builtin.firstCells, hnc, storeCells, loadCells, loadCellsFrom]

theorem list_appN2 {P : Program} {w : World} {t e : TypeId} {z : Value} {size bytes : Nat} {ops : Array Oper} {rest : List Oper} {o : Oper} {a : Act} {Q : Exit → Act → World → Prop} (S : SlN P t e z size bytes) (hgd : o.guard = none) (s x : Operand)
    (ho : o.op = .call { callee := .builtin .append, args := #[s, x], argTypes := #[t, t] })
    (B : Nat) (v : Value) (n : Nat) (xs : List Value) (hs : a.eval s = v) (hown : w.ownsRow B e size v n xs)
    (ad : Option Addr) (m c : Nat) (news : List Value) (hx : a.eval x = .slice ad m c) (hl : news.length = m * size) (hnews : 0 < m → ∃ g o, ad = some ⟨g, o, none⟩ ∧ ∀ j u, news[j]? = some u → w.cell? ⟨g, o + j, none⟩ = some u) (h1 : ∀ u ∈ news, u.oneCell' = true)
    (h63 : n + m ≤ maxLen) (hbytes : (n + m) * bytes ≤ 140737488355328) (hbase : B ≤ w.heap.size)
    (h : ∀ v' w', w'.ownsRow B e size v' (n + m) (xs ++ news) → Grew w v w' v' → wpList P ops Q rest (a.put o.dst v') w') :
    wpList P ops Q (o :: rest) a w := by
  obtain ⟨i, hi, hz, hsz, hby⟩ := info_parts S.info
  by_cases hm : 0 < m
  · obtain ⟨g0, o0, rfl, hc⟩ := hnews hm
    refine wpList_append_lies w hgd s x t ho B e i z size bytes S.und hi hz hsz hby S.zc S.pos v n xs hs hown ⟨g0, o0, none⟩ m c news hx hl
      (fun j u hu => by
        have := hc j u hu
        unfold Addr.add
        split
        · rename_i h0; subst h0; simpa using this
        · exact this) h1 hm h63 hbytes hbase _ rfl ?_
    intro g cap w' h2 h3 h4 _
    refine h _ w' h2 ⟨h3, fun k hk => ?_⟩
    have : g = k := by simpa [Value.ownBlock] using hk
    subst this
    rcases h4 with h4 | h4
    · exact .inl h4
    · exact .inr (by omega)
  · obtain rfl : m = 0 := by omega
    obtain rfl : news = [] := List.eq_nil_of_length_eq_zero (by simpa using hl)
    refine wpList_plain hgd fun K hK => ?_
    have hrun := run_append_empty (P := P) (w := w) B t o.type e i size S.und hi v n xs hown ad c
    unfold Oper.wp
    simp only [execOp, ho, resolve, invoke, builtin, Sem.run_bind, Sem.run_pure, Result.andThen_ok, List.map_toArray, List.map_cons, List.map_nil, hs, hx, hrun]
    exact hK _ _ (h v w (by simpa using hown) (Grew.refl w v))


theorem Try.entSl : SlN Try.prog 22 37 (.agg #[.int .u64 0, .string ⟨#[]⟩]) 2 24 := ⟨Try.underlying22, by kernel_rfl, rfl, by decide⟩

/-- The cells of entries. -/
def entC (l : List Ent) : List Value := l.flatMap fun x => [.int .u64 (x.1 : Int), .string x.2]
theorem entC_append (a b : List Ent) : entC (a ++ b) = entC a ++ entC b := List.flatMap_append ..
theorem entC_length (l : List Ent) : (entC l).length = l.length * 2 := by
  induction l with
  | nil => rfl
  | cons x l ih => simp only [entC, List.flatMap_cons, List.length_append, List.length_cons, List.length_nil] at ih ⊢; omega
theorem entC_get : ∀ (l : List Ent) (i : Nat) (x : Ent), l[i]? = some x → (entC l)[i * 2]? = some (.int .u64 (x.1 : Int)) ∧ (entC l)[i * 2 + 1]? = some (.string x.2)
  | [], _, _, h => by cases h
  | y :: l, 0, x, h => by
    obtain rfl : y = x := by simpa using h
    exact ⟨rfl, rfl⟩
  | y :: l, i + 1, x, h => by
    have := entC_get l i x (by simpa using h)
    have e : (entC (y :: l)) = .int .u64 (y.1 : Int) :: .string y.2 :: entC l := rfl
    rw [e, show (i + 1) * 2 = i * 2 + 1 + 1 by omega]
    exact this
theorem entC_one (l : List Ent) : ∀ u ∈ entC l, u.oneCell' = true := by
  intro u hu
  simp only [entC, List.mem_flatMap, List.mem_cons, List.not_mem_nil, or_false] at hu
  obtain ⟨x, _, rfl | rfl⟩ := hu <;> rfl
theorem entC_take : ∀ (l : List Ent) (k : Nat), entC (l.take k) = (entC l).take (k * 2)
  | [], k => by simp [entC]
  | x :: l, 0 => by simp [entC]
  | x :: l, k + 1 => by
    have e : (entC (x :: l)) = .int .u64 (x.1 : Int) :: .string x.2 :: entC l := rfl
    have e2 : (entC (x :: l.take k)) = .int .u64 (x.1 : Int) :: .string x.2 :: entC (l.take k) := rfl
    rw [List.take_succ_cons, e2, e, show (k + 1) * 2 = k * 2 + 1 + 1 by omega, List.take_succ_cons, List.take_succ_cons, entC_take l k]

/-- The slice value v owns these entries; no block below B is its own. -/
def EOwn (w : World) (B : Nat) (v : Value) (l : List Ent) : Prop := w.ownsRow B 37 2 v l.length (entC l)
theorem EOwn.nil (w : World) (B : Nat) : EOwn w B (.slice none 0 0) [] := World.ownsRow_nil _ _ _ _
theorem EOwn.low {w : World} {B : Nat} {v : Value} {l : List Ent} (h : EOwn w B v l) : ∀ k, v.ownBlock = some k → B ≤ k := ownN_low h
theorem EOwn.lt {w : World} {B : Nat} {v : Value} {l : List Ent} (h : EOwn w B v l) : ∀ k, v.ownBlock = some k → k < w.heap.size := fun k hk => (World.ownsRow.lt h k hk).2
theorem EOwn.mv {w w' : World} {B : Nat} {v : Value} {l : List Ent} (h : EOwn w B v l) (hb : ∀ k, v.ownBlock = some k → w'.heap[k]? = w.heap[k]?) : EOwn w' B v l := ownN_mv h hb
theorem EOwn.later {w w' : World} {B : Nat} {v : Value} {l : List Ent} (h : EOwn w B v l) (hb : Below w.heap.size w w') : EOwn w' B v l := h.mv (fun k hk => hb.block k (EOwn.lt h k hk))
theorem EOwn.base {w : World} {B B' : Nat} {v : Value} {l : List Ent} (h : EOwn w B v l) (hB : ∀ k, v.ownBlock = some k → B' ≤ k) : EOwn w B' v l := ownN_base h hB
theorem EOwn.shape {w : World} {B : Nat} {v : Value} {l : List Ent} (h : EOwn w B v l) : ∃ a c, v = .slice a l.length c ∧ l.length ≤ c ∧ c ≤ maxLen ∧ ∀ x, a = some x → x = ⟨x.block, 0, none⟩ := by
  rcases h.2 with ⟨h1, h2⟩ | ⟨g, cap, cur, hv, _, _, hn, hm, _⟩
  · exact ⟨none, 0, by rw [h1, h2], by omega, by decide, fun _ h => by cases h⟩
  · exact ⟨_, _, hv, hn, hm, fun x h => by injection h with h; rw [← h]⟩

/-- The slice's elements are these entries. -/
def ESl (w : World) (v : Value) (l : List Ent) : Prop := ∃ a c, v = .slice a l.length c ∧ l.length ≤ c ∧ (l ≠ [] → ∃ g o, a = some ⟨g, o, none⟩ ∧ g < w.heap.size ∧
  ∀ i x, l[i]? = some x → w.cell? ⟨g, o + i * 2, none⟩ = some (.int .u64 (x.1 : Int)) ∧ w.cell? ⟨g, o + i * 2 + 1, none⟩ = some (.string x.2))
theorem ESl.later {w w' : World} {v : Value} {l : List Ent} (h : ESl w v l) (hb : Below w.heap.size w w') : ESl w' v l := by
  obtain ⟨a, c, h1, h2, h3⟩ := h
  refine ⟨a, c, h1, h2, fun hne => ?_⟩
  obtain ⟨g, o, ha, hg, hc⟩ := h3 hne
  refine ⟨g, o, ha, Nat.lt_of_lt_of_le hg hb.size, fun i x hx => ?_⟩
  have := hc i x hx
  exact ⟨cellB hb this.1, cellB hb this.2⟩
theorem ESl.mv {w w' : World} {v : Value} {l : List Ent} (h : ESl w v l) (hs : w.heap.size ≤ w'.heap.size) (hb : ∀ k, v.ownBlock = some k → w'.heap[k]? = w.heap[k]?) : ESl w' v l := by
  obtain ⟨a, c, h1, h2, h3⟩ := h
  refine ⟨a, c, h1, h2, fun hne => ?_⟩
  obtain ⟨g, o, ha, hg, hc⟩ := h3 hne
  have e := hb g (by rw [h1, ha]; rfl)
  refine ⟨g, o, ha, Nat.lt_of_lt_of_le hg hs, fun i x hx => ?_⟩
  have := hc i x hx
  exact ⟨by rw [World.cell?_of_block (w := w) (a := ⟨g, o + i * 2, none⟩) e]; exact this.1, by rw [World.cell?_of_block (w := w) (a := ⟨g, o + i * 2 + 1, none⟩) e]; exact this.2⟩
theorem EOwn.sl {w : World} {B : Nat} {v : Value} {l : List Ent} (h : EOwn w B v l) : ESl w v l := by
  obtain ⟨a, c, hv, hc, _⟩ := EOwn.shape h
  refine ⟨a, c, hv, hc, fun hne => ?_⟩
  rcases h.2 with ⟨h1, h2⟩ | ⟨g, cap, cur, he, hB, hg, hn, hm, hs, ht⟩
  · exact absurd (List.eq_nil_of_length_eq_zero h2) hne
  · rw [hv] at he
    injection he with h5 h6 h7
    refine ⟨g, 0, h5, block_lt hg, fun i x hx => ?_⟩
    have hcell : ∀ (j : Nat) (u : Value), (entC l)[j]? = some u → w.cell? ⟨g, 0 + j, none⟩ = some u := fun j u hu => by
      have hj : j < (entC l).length := (List.getElem?_eq_some_iff.1 hu).1
      rw [← ht, List.getElem?_take] at hu
      split at hu
      · unfold World.cell?
        rw [hg]
        simpa using hu
      · cases hu
    obtain ⟨g1, g2⟩ := entC_get l i x hx
    exact ⟨hcell _ _ g1, hcell _ _ g2⟩
/-- The cells one by one. -/
theorem ESl.news {w : World} {g o : Nat} {l : List Ent} (hc : ∀ i x, l[i]? = some x → w.cell? ⟨g, o + i * 2, none⟩ = some (.int .u64 (x.1 : Int)) ∧ w.cell? ⟨g, o + i * 2 + 1, none⟩ = some (.string x.2)) :
    ∀ j u, (entC l)[j]? = some u → w.cell? ⟨g, o + j, none⟩ = some u := fun j u hu => by
  have hj := (List.getElem?_eq_some_iff.1 hu).1
  rw [entC_length] at hj
  have hi : j / 2 < l.length := by omega
  obtain ⟨x, hx⟩ : ∃ x, l[j / 2]? = some x := ⟨_, List.getElem?_eq_getElem hi⟩
  obtain ⟨q1, q2⟩ := hc _ x hx
  obtain ⟨e1, e2⟩ := entC_get l _ x hx
  rcases (by omega : j = j / 2 * 2 ∨ j = j / 2 * 2 + 1) with h | h
  · rw [h] at hu ⊢
    rw [e1] at hu
    injection hu with hu
    rw [← hu]; exact q1
  · rw [h] at hu ⊢
    rw [e2] at hu
    injection hu with hu
    rw [← hu]; exact q2

/-- append of a slice of entries. -/
theorem list_appE {ops : Array Oper} {rest : List Oper} {o : Oper} {a : Act} {w : World} {Q : Exit → Act → World → Prop} (hgd : o.guard = none) (s x : Operand)
    (ho : o.op = .call { callee := .builtin .append, args := #[s, x], argTypes := #[22, 22] })
    (B : Nat) (v : Value) (l : List Ent) (hs : a.eval s = v) (hown : EOwn w B v l)
    (xv : Value) (m : List Ent) (hx : a.eval x = xv) (hsl : ESl w xv m)
    (hl : l.length + m.length ≤ 100000) (hbase : B ≤ w.heap.size)
    (h : ∀ v' w', EOwn w' B v' (l ++ m) → Grew w v w' v' → wpList Try.prog ops Q rest (a.put o.dst v') w') :
    wpList Try.prog ops Q (o :: rest) a w := by
  obtain ⟨ad, c, rfl, _, hcells⟩ := hsl
  refine list_appN2 Try.entSl hgd s x ho B v l.length (entC l) hs hown ad m.length c (entC m) hx (entC_length m) (fun hm => ?_) (entC_one m) (by unfold maxLen; omega) (by omega) hbase ?_
  · obtain ⟨g, o', rfl, _, hc⟩ := hcells (fun e => by rw [e] at hm; simp at hm)
    exact ⟨g, o', rfl, ESl.news hc⟩
  · intro v' w' h1 h2
    refine h v' w' ?_ h2
    unfold EOwn
    rw [List.length_append, entC_append]
    exact h1
/-- append of one entry that was laid just now. -/
theorem list_appE1 {ops : Array Oper} {rest : List Oper} {o : Oper} {a : Act} {w : World} {Q : Exit → Act → World → Prop} (hgd : o.guard = none) (s x : Operand)
    (ho : o.op = .call { callee := .builtin .append, args := #[s, x], argTypes := #[22, 22] })
    (B : Nat) (v : Value) (l : List Ent) (hs : a.eval s = v) (hown : EOwn w B v l)
    (g0 c : Nat) (p : Ent) (hx : a.eval x = .slice (some ⟨g0, 0, none⟩) 1 c) (hblk : w.heap[g0]? = some (.cells #[.int .u64 (p.1 : Int), .string p.2] 37 (0, 0)))
    (hl : l.length + 1 ≤ 100000) (hbase : B ≤ w.heap.size)
    (h : ∀ v' w', EOwn w' B v' (l ++ [p]) → Grew w v w' v' → wpList Try.prog ops Q rest (a.put o.dst v') w') :
    wpList Try.prog ops Q (o :: rest) a w := by
  refine list_appN Try.entSl hgd s x ho B v l.length (entC l) hs hown g0 1 c [.int .u64 (p.1 : Int), .string p.2] hx hblk rfl (by simp [Value.oneCell']) (by omega) (by unfold maxLen; omega) (by omega) hbase ?_
  intro g cap w' h1 h2
  refine h _ w' ?_ h2
  unfold EOwn
  rw [List.length_append, entC_append]
  exact h1
/-- v[:k]. -/
theorem EOwn.cut {w : World} {B : Nat} {a : Option Addr} {cap : Nat} {l : List Ent} (h : EOwn w B (.slice a l.length cap) l) (k : Nat) (hk : k ≤ l.length) : EOwn w B (.slice a k cap) (l.take k) := by
  have hlen : (l.take k).length = k := by rw [List.length_take]; omega
  refine ⟨by rw [entC_length], ?_⟩
  rcases h.2 with ⟨h1, h2⟩ | ⟨g, cap', cur, he, hB, hg, hn, hm, hs, ht⟩
  · injection h1 with h3 h4 h5
    subst h3 h5
    have : k = 0 := by omega
    subst this
    exact .inl ⟨rfl, hlen⟩
  · injection he with h5 h6 h7
    subst h5 h7
    refine .inr ⟨g, cap, cur, by rw [hlen], hB, hg, by omega, hm, hs, ?_⟩
    rw [hlen, entC_take, ← ht, List.take_take]
    congr 1; omega
theorem EOwn.zero {w : World} (B : Nat) {a : Option Addr} {cap : Nat} {l : List Ent} (h : EOwn w B (.slice a l.length cap) l) : (∃ g, a = some ⟨g, 0, none⟩) ∨ (a = none ∧ cap = 0 ∧ l = []) := by
  rcases h.2 with ⟨h1, h2⟩ | ⟨g, cap', cur, he, _⟩
  · injection h1 with h3 h4 h5
    exact .inr ⟨h3, h5, List.eq_nil_of_length_eq_zero h2⟩
  · injection he with h5 h6 h7
    exact .inl ⟨g, h5⟩

theorem zero_cells (n : Nat) : (Builtin.zeroCells (Value.agg #[.int .u64 0, .string ⟨#[]⟩]).cells n).toList.length = n * 2 ∧ ∀ v ∈ (Builtin.zeroCells (Value.agg #[.int .u64 0, .string ⟨#[]⟩]).cells n).toList, v.oneCell' = true := by
  have e : (Value.agg #[.int .u64 0, .string ⟨#[]⟩]).cells = #[.int .u64 0, .string ⟨#[]⟩] := rfl
  rw [e]
  refine ⟨by simp [Builtin.zeroCells], fun v hv => ?_⟩
  simp only [Builtin.zeroCells, Array.toList_map, List.mem_map] at hv
  obtain ⟨i, _, rfl⟩ := hv
  have h2 : (#[Value.int IntKind.u64 0, Value.string ⟨#[]⟩] : Array Value).size = 2 := rfl
  rw [h2]
  rcases (by omega : i % 2 = 0 ∨ i % 2 = 1) with h | h <;> rw [h] <;> rfl

/-- clear(s[k:]) behind what is owned: that stays. -/
theorem clear_behind {w : World} {B g n cap k ty : Nat} {l : List Ent} (h : EOwn w B (.slice (some ⟨g, 0, none⟩) k cap) l) (hl : l.length = k) (hn : k < n) (hnc : n ≤ cap) :
    ∃ w', (Builtin.clear_ #[22] ty #[.slice (some ⟨g, k * 2, none⟩) (n - k) (cap - k)]).run Try.prog w = .ok (.tuple #[]) w' ∧ EOwn w' B (.slice (some ⟨g, 0, none⟩) k cap) l ∧ Only g w w' := by
  rcases h.2 with ⟨h1, _⟩ | ⟨g', cap', cur, he, hB, hg, hn', hm, hs, ht⟩
  · cases h1
  · injection he with h5 h6 h7
    injection h5 with h5
    obtain rfl : g = g' := by simpa using h5
    subst h7
    obtain ⟨zl, z1⟩ := zero_cells (n - k)
    obtain ⟨vs, hvs⟩ : ∃ vs, vs = (Builtin.zeroCells (Value.agg #[.int .u64 0, .string ⟨#[]⟩]).cells (n - k)).toList := ⟨_, rfl⟩
    rw [← hvs] at zl z1
    have hfit : k * 2 + vs.length ≤ cur.size := by rw [zl, hs]; omega
    have hst := run_storeCells_cells (P := Try.prog) g (k * 2) vs 0 w (fun j hj => by
      have : k * 2 + j < cur.size := by omega
      simp [World.cell?, hg, this]) (fun j _ => by simp [World.frozen?, hg]) z1
    simp only [Nat.add_zero] at hst
    obtain ⟨q1, q2⟩ := setCells_heap vs w g (k * 2) cur 37 hg hfit
    refine ⟨_, ?_, ⟨h.1, .inr ⟨g, cap, _, by rw [hl], hB, q1, by omega, hm, ?_, ?_⟩⟩, q2⟩
    · have hz : ∀ w, (zeroValue 37).run Try.prog w = .ok (.agg #[.int .u64 0, .string ⟨#[]⟩]) w := fun w => by
        obtain ⟨i, hi, hz, _, _⟩ := info_parts Try.entSl.info
        simp [zeroValue, typeInfo, hi, hz]
      obtain ⟨m, hm'⟩ : ∃ m, n - k = m + 1 := ⟨n - k - 1, by omega⟩
      have hst' := hst
      rw [hvs, hm'] at hst'
      simp only [hm', Builtin.clear_, List.getElem?_toArray, List.getElem?_cons_zero, Sem.run_bind, Sem.run_pure, Result.andThen_ok, run_underlying Try.underlying22, hz, hst', hvs]
    · simp only [List.size_toArray, List.length_append, List.length_take, List.length_drop, Array.length_toList]
      omega
    · rw [hl] at ht ⊢
      rw [List.append_assoc, List.take_append_of_le_length (by rw [List.length_take, Array.length_toList]; omega), List.take_take, Nat.min_self]
      exact ht
end Go.Proofs.Ytfocljmjejniiaa
