/- net: entries in slices, messages. -/
import Derived.Test.YtgdlnjhbencjkaaCOwn
import Derived.Test.YtgdlnjhbencjkaaCRk
import Derived.Test.YtgdlnjhbencjkaaCWr
import Derived.Laws.AppendOwnNone
import Derived.Laws.IdiomCopy
import Derived.Deep.AppendLies
import Derived.Lib.SliceRun
import Derived.ArgAppend
namespace Go.Proofs.Ytgdlnjhbencjkaa
open Go.RowKit

abbrev Ent := Nat × ByteArray
theorem block_lt {w : World} {g : Nat} {o : Obj} (h : w.heap[g]? = some o) : g < w.heap.size := (Array.getElem?_eq_some_iff.1 h).1
theorem cellB {w w' : World} {b o : Nat} {v : Value} (hb : Below w.heap.size w w') (hc : w.cell? ⟨b, o, none⟩ = some v) : w'.cell? ⟨b, o, none⟩ = some v := by
  rw [hb.cell (p := ⟨b, o, none⟩) (World.block_lt_of_cell? w _ hc)]; exact hc

theorem run_append_empty {P : Program} {w : World} (base : Nat) (t ty e : TypeId) (i : TypeInfo) (size : Nat) (ht : P.underlying t = some (.slice e)) (hi : P.info? e = some i)
    (v : Value) (n : Nat) (xs : List Value) (hown : w.ownsRow base e size v n xs) (a : Option Addr) (c : Nat) :
    (Builtin.append_ #[t, t] ty #[v, .slice a 0 c]).run P w = .ok v w := by
  rcases hown.2 with ⟨rfl, rfl⟩ | ⟨g, cap, cur, rfl, _, _, hnc, _⟩
  · cases a <;> simp [Builtin.append_, run_underlying ht, sizeOf, typeInfo, hi, Builtin.lenOf, Builtin.firstCells, loadCells, loadCellsFrom]
  · cases a <;> simp [Builtin.append_, run_underlying ht, sizeOf, typeInfo, hi, Builtin.lenOf, Builtin.firstCells, hnc, storeCells, loadCells, loadCellsFrom]

theorem list_appN2 {P : Program} {w : World} {t e : TypeId} {z : Value} {size bytes : Nat} {ops : Array Oper} {rest : List Oper} {o : Oper} {a : Act} {Q : Exit → Act → World → Prop} (S : SlN P t e z size bytes) (hgd : o.guard = none) (s x : Operand)
    (ho : o.op = .call { callee := .builtin .append, args := #[s, x], argTypes := #[t, t] })
    (B : Nat) (v : Value) (n : Nat) (xs : List Value) (hs : a.eval s = v) (hown : w.ownsRow B e size v n xs)
    (ad : Option Addr) (m c : Nat) (news : List Value) (hx : a.eval x = .slice ad m c) (hl : news.length = m * size) (hnews : 0 < m → ∃ g o, ad = some ⟨g, o, none⟩ ∧ ∀ j u, news[j]? = some u → w.cell? ⟨g, o + j, none⟩ = some u) (h1 : ∀ u ∈ news, u.oneCell' = true)
    (h63 : n + m ≤ maxLen) (hbytes : (n + m) * bytes ≤ 140737488355328) (hbase : B ≤ w.heap.size)
    (h : ∀ v' w', w'.ownsRow B e size v' (n + m) (xs ++ news) → Grew w v w' v' → wpList P ops Q rest (a.put o.dst v') w') :
    wpList P ops Q (o :: rest) a w := by
  obtain ⟨i, hi, hz, hsz, hby⟩ := info_parts S.info
  by_cases hm : 0 < m
  · obtain ⟨g0, o0, rfl, hc⟩ := hnews hm
    refine wpList_append_lies w hgd s x t ho B e i z size bytes S.und hi hz hsz hby S.zc S.pos v n xs hs hown ⟨g0, o0, none⟩ m c news hx hl
      (fun j u hu => by
        have := hc j u hu
        unfold Addr.add
        split
        · rename_i h0; subst h0; simpa using this
        · exact this) h1 hm h63 hbytes hbase _ rfl ?_
    intro g cap w' h2 h3 h4 _
    refine h _ w' h2 ⟨h3, fun k hk => ?_⟩
    have : g = k := by simpa [Value.ownBlock] using hk
    subst this
    rcases h4 with h4 | h4
    · exact .inl h4
    · exact .inr (by omega)
  · obtain rfl : m = 0 := by omega
    obtain rfl : news = [] := List.eq_nil_of_length_eq_zero (by simpa using hl)
    refine wpList_plain hgd fun K hK => ?_
    have hrun := run_append_empty (P := P) (w := w) B t o.type e i size S.und hi v n xs hown ad c
    unfold Oper.wp
    simp only [execOp, ho, resolve, invoke, builtin, Sem.run_bind, Sem.run_pure, Result.andThen_ok, List.map_toArray, List.map_cons, List.map_nil, hs, hx, hrun]
    exact hK _ _ (h v w (by simpa using hown) (Grew.refl w v))


theorem Try.entSl : SlN Try.prog 30 60 (.agg #[.int .u64 0, .string ⟨#[]⟩]) 2 24 := ⟨Try.underlying30, by kernel_rfl, rfl, by decide⟩

/-- The cells of entries. -/
def entC (l : List Ent) : List Value := l.flatMap fun x => [.int .u64 (x.1 : Int), .string x.2]
theorem entC_append (a b : List Ent) : entC (a ++ b) = entC a ++ entC b := List.flatMap_append ..
theorem entC_length (l : List Ent) : (entC l).length = l.length * 2 := by
  induction l with
  | nil => rfl
  | cons x l ih => simp only [entC, List.flatMap_cons, List.length_append, List.length_cons, List.length_nil] at ih ⊢; omega
theorem entC_get : ∀ (l : List Ent) (i : Nat) (x : Ent), l[i]? = some x → (entC l)[i * 2]? = some (.int .u64 (x.1 : Int)) ∧ (entC l)[i * 2 + 1]? = some (.string x.2)
  | [], _, _, h => by cases h
  | y :: l, 0, x, h => by
    obtain rfl : y = x := by simpa using h
    exact ⟨rfl, rfl⟩
  | y :: l, i + 1, x, h => by
    have := entC_get l i x (by simpa using h)
    have e : (entC (y :: l)) = .int .u64 (y.1 : Int) :: .string y.2 :: entC l := rfl
    rw [e, show (i + 1) * 2 = i * 2 + 1 + 1 by omega]
    exact this
theorem entC_one (l : List Ent) : ∀ u ∈ entC l, u.oneCell' = true := by
  intro u hu
  simp only [entC, List.mem_flatMap, List.mem_cons, List.not_mem_nil, or_false] at hu
  obtain ⟨x, _, rfl | rfl⟩ := hu <;> rfl
theorem entC_take : ∀ (l : List Ent) (k : Nat), entC (l.take k) = (entC l).take (k * 2)
  | [], k => by simp [entC]
  | x :: l, 0 => by simp [entC]
  | x :: l, k + 1 => by
    have e : (entC (x :: l)) = .int .u64 (x.1 : Int) :: .string x.2 :: entC l := rfl
    have e2 : (entC (x :: l.take k)) = .int .u64 (x.1 : Int) :: .string x.2 :: entC (l.take k) := rfl
    rw [List.take_succ_cons, e2, e, show (k + 1) * 2 = k * 2 + 1 + 1 by omega, List.take_succ_cons, List.take_succ_cons, entC_take l k]

/-- The slice value v owns these entries; no block below B is its own. -/
def EOwn (w : World) (B : Nat) (v : Value) (l : List Ent) : Prop := w.ownsRow B 60 2 v l.length (entC l)
theorem EOwn.nil (w : World) (B : Nat) : EOwn w B (.slice none 0 0) [] := World.ownsRow_nil _ _ _ _
theorem EOwn.low {w : World} {B : Nat} {v : Value} {l : List Ent} (h : EOwn w B v l) : ∀ k, v.ownBlock = some k → B ≤ k := ownN_low h
theorem EOwn.lt {w : World} {B : Nat} {v : Value} {l : List Ent} (h : EOwn w B v l) : ∀ k, v.ownBlock = some k → k < w.heap.size := fun k hk => (World.ownsRow.lt h k hk).2
theorem EOwn.mv {w w' : World} {B : Nat} {v : Value} {l : List Ent} (h : EOwn w B v l) (hb : ∀ k, v.ownBlock = some k → w'.heap[k]? = w.heap[k]?) : EOwn w' B v l := ownN_mv h hb
theorem EOwn.later {w w' : World} {B : Nat} {v : Value} {l : List Ent} (h : EOwn w B v l) (hb : Below w.heap.size w w') : EOwn w' B v l := h.mv (fun k hk => hb.block k (EOwn.lt h k hk))
theorem EOwn.base {w : World} {B B' : Nat} {v : Value} {l : List Ent} (h : EOwn w B v l) (hB : ∀ k, v.ownBlock = some k → B' ≤ k) : EOwn w B' v l := ownN_base h hB
theorem EOwn.shape {w : World} {B : Nat} {v : Value} {l : List Ent} (h : EOwn w B v l) : ∃ a c, v = .slice a l.length c ∧ l.length ≤ c ∧ c ≤ maxLen ∧ ∀ x, a = some x → x = ⟨x.block, 0, none⟩ := by
  rcases h.2 with ⟨h1, h2⟩ | ⟨g, cap, cur, hv, _, _, hn, hm, _⟩
  · exact ⟨none, 0, by rw [h1, h2], by omega, by decide, fun _ h => by cases h⟩
  · exact ⟨_, _, hv, hn, hm, fun x h => by injection h with h; rw [← h]⟩

/-- The slice's elements are these entries. -/
def ESl (w : World) (v : Value) (l : List Ent) : Prop := ∃ a c, v = .slice a l.length c ∧ l.length ≤ c ∧ (l ≠ [] → ∃ g o, a = some ⟨g, o, none⟩ ∧ g < w.heap.size ∧
  ∀ i x, l[i]? = some x → w.cell? ⟨g, o + i * 2, none⟩ = some (.int .u64 (x.1 : Int)) ∧ w.cell? ⟨g, o + i * 2 + 1, none⟩ = some (.string x.2))
theorem ESl.later {w w' : World} {v : Value} {l : List Ent} (h : ESl w v l) (hb : Below w.heap.size w w') : ESl w' v l := by
  obtain ⟨a, c, h1, h2, h3⟩ := h
  refine ⟨a, c, h1, h2, fun hne => ?_⟩
  obtain ⟨g, o, ha, hg, hc⟩ := h3 hne
  refine ⟨g, o, ha, Nat.lt_of_lt_of_le hg hb.size, fun i x hx => ?_⟩
  have := hc i x hx
  exact ⟨cellB hb this.1, cellB hb this.2⟩
theorem ESl.mv {w w' : World} {v : Value} {l : List Ent} (h : ESl w v l) (hs : w.heap.size ≤ w'.heap.size) (hb : ∀ k, v.ownBlock = some k → w'.heap[k]? = w.heap[k]?) : ESl w' v l := by
  obtain ⟨a, c, h1, h2, h3⟩ := h
  refine ⟨a, c, h1, h2, fun hne => ?_⟩
  obtain ⟨g, o, ha, hg, hc⟩ := h3 hne
  have e := hb g (by rw [h1, ha]; rfl)
  refine ⟨g, o, ha, Nat.lt_of_lt_of_le hg hs, fun i x hx => ?_⟩
  have := hc i x hx
  exact ⟨by rw [World.cell?_of_block (w := w) (a := ⟨g, o + i * 2, none⟩) e]; exact this.1, by rw [World.cell?_of_block (w := w) (a := ⟨g, o + i * 2 + 1, none⟩) e]; exact this.2⟩
theorem EOwn.sl {w : World} {B : Nat} {v : Value} {l : List Ent} (h : EOwn w B v l) : ESl w v l := by
  obtain ⟨a, c, hv, hc, _⟩ := EOwn.shape h
  refine ⟨a, c, hv, hc, fun hne => ?_⟩
  rcases h.2 with ⟨h1, h2⟩ | ⟨g, cap, cur, he, hB, hg, hn, hm, hs, ht⟩
  · exact absurd (List.eq_nil_of_length_eq_zero h2) hne
  · rw [hv] at he
    injection he with h5 h6 h7
    refine ⟨g, 0, h5, block_lt hg, fun i x hx => ?_⟩
    have hcell : ∀ (j : Nat) (u : Value), (entC l)[j]? = some u → w.cell? ⟨g, 0 + j, none⟩ = some u := fun j u hu => by
      have hj : j < (entC l).length := (List.getElem?_eq_some_iff.1 hu).1
      rw [← ht, List.getElem?_take] at hu
      split at hu
      · unfold World.cell?
        rw [hg]
        simpa using hu
      · cases hu
    obtain ⟨g1, g2⟩ := entC_get l i x hx
    exact ⟨hcell _ _ g1, hcell _ _ g2⟩
/-- The cells one by one. -/
theorem ESl.news {w : World} {g o : Nat} {l : List Ent} (hc : ∀ i x, l[i]? = some x → w.cell? ⟨g, o + i * 2, none⟩ = some (.int .u64 (x.1 : Int)) ∧ w.cell? ⟨g, o + i * 2 + 1, none⟩ = some (.string x.2)) :
    ∀ j u, (entC l)[j]? = some u → w.cell? ⟨g, o + j, none⟩ = some u := fun j u hu => by
  have hj := (List.getElem?_eq_some_iff.1 hu).1
  rw [entC_length] at hj
  have hi : j / 2 < l.length := by omega
  obtain ⟨x, hx⟩ : ∃ x, l[j / 2]? = some x := ⟨_, List.getElem?_eq_getElem hi⟩
  obtain ⟨q1, q2⟩ := hc _ x hx
  obtain ⟨e1, e2⟩ := entC_get l _ x hx
  rcases (by omega : j = j / 2 * 2 ∨ j = j / 2 * 2 + 1) with h | h
  · rw [h] at hu ⊢
    rw [e1] at hu
    injection hu with hu
    rw [← hu]; exact q1
  · rw [h] at hu ⊢
    rw [e2] at hu
    injection hu with hu
    rw [← hu]; exact q2

/-- append of a slice of entries. -/
theorem list_appE {ops : Array Oper} {rest : List Oper} {o : Oper} {a : Act} {w : World} {Q : Exit → Act → World → Prop} (hgd : o.guard = none) (s x : Operand)
    (ho : o.op = .call { callee := .builtin .append, args := #[s, x], argTypes := #[30, 30] })
    (B : Nat) (v : Value) (l : List Ent) (hs : a.eval s = v) (hown : EOwn w B v l)
    (xv : Value) (m : List Ent) (hx : a.eval x = xv) (hsl : ESl w xv m)
    (hl : l.length + m.length ≤ 1000000000) (hbase : B ≤ w.heap.size)
    (h : ∀ v' w', EOwn w' B v' (l ++ m) → Grew w v w' v' → wpList Try.prog ops Q rest (a.put o.dst v') w') :
    wpList Try.prog ops Q (o :: rest) a w := by
  obtain ⟨ad, c, rfl, _, hcells⟩ := hsl
  refine list_appN2 Try.entSl hgd s x ho B v l.length (entC l) hs hown ad m.length c (entC m) hx (entC_length m) (fun hm => ?_) (entC_one m) (by unfold maxLen; omega) (by omega) hbase ?_
  · obtain ⟨g, o', rfl, _, hc⟩ := hcells (fun e => by rw [e] at hm; simp at hm)
    exact ⟨g, o', rfl, ESl.news hc⟩
  · intro v' w' h1 h2
    refine h v' w' ?_ h2
    unfold EOwn
    rw [List.length_append, entC_append]
    exact h1
/-- append of one entry that was laid just now. -/
theorem list_appE1 {ops : Array Oper} {rest : List Oper} {o : Oper} {a : Act} {w : World} {Q : Exit → Act → World → Prop} (hgd : o.guard = none) (s x : Operand)
    (ho : o.op = .call { callee := .builtin .append, args := #[s, x], argTypes := #[30, 30] })
    (B : Nat) (v : Value) (l : List Ent) (hs : a.eval s = v) (hown : EOwn w B v l)
    (g0 c : Nat) (p : Ent) (hx : a.eval x = .slice (some ⟨g0, 0, none⟩) 1 c) (hblk : w.heap[g0]? = some (.cells #[.int .u64 (p.1 : Int), .string p.2] 60 (0, 0)))
    (hl : l.length + 1 ≤ 1000000000) (hbase : B ≤ w.heap.size)
    (h : ∀ v' w', EOwn w' B v' (l ++ [p]) → Grew w v w' v' → wpList Try.prog ops Q rest (a.put o.dst v') w') :
    wpList Try.prog ops Q (o :: rest) a w := by
  refine list_appN Try.entSl hgd s x ho B v l.length (entC l) hs hown g0 1 c [.int .u64 (p.1 : Int), .string p.2] hx hblk rfl (by simp [Value.oneCell']) (by omega) (by unfold maxLen; omega) (by omega) hbase ?_
  intro g cap w' h1 h2
  refine h _ w' ?_ h2
  unfold EOwn
  rw [List.length_append, entC_append]
  exact h1
theorem EOwn.made (w : World) (o : Array Value) (ho : o.size = 0) : EOwn (w.alloc (.cells o 60)) w.heap.size (.slice (some ⟨w.heap.size, 0, none⟩) 0 0) [] :=
  World.ownsRow_made w o 0 (Nat.le_refl _) (Nat.zero_le _) (by rw [ho])

set_option maxHeartbeats 1000000 in
set_option maxRecDepth 100000 in
theorem eclone_prog (sv : Value) (l : List Ent) (w : World) (h : ESl w sv l) (hl : l.length ≤ 1000000000) :
    Calls Try.prog 42 #[sv] w fun e w' => ∃ v', e = .returned v' ∧ EOwn w' w.heap.size v' l ∧ Below w.heap.size w w' := by
  have q : ∀ (w : World) (a : Option Addr) (n c n' c' : Nat), (binOp .eql 30 (.slice a n c) (.slice none n' c')).run Try.prog w = .ok (.bool a.isNone) w := fun w a n c n' c' => Lib.run_eql_slice_nil w _ _ a n c n' c' Try.underlying30
  obtain ⟨a, c, rfl, hc, hcells⟩ := id h
  cases a with
  | none =>
    have hnil : l = [] := by
      by_cases e : l = []
      · exact e
      · obtain ⟨_, _, e2, _⟩ := hcells e
        cases e2
    subst hnil
    clear h hcells hl hc
    go_enter Try.func42, Try.ntmps42
    go_wp2_with fail
    go_ret
    exact ⟨_, rfl, EOwn.nil _ _, Below.refl _ _⟩
  | some a =>
    have H := Lib.hid (h.later ((Below.refl w.heap.size w).alloc (Nat.le_refl _) (.cells #[] 60)))
    have HM := Lib.hid (EOwn.made w #[] rfl)
    have HL := Lib.hid hl
    have HB := Lib.hid ((Below.refl w.heap.size w).alloc (Nat.le_refl _) (.cells #[] 60))
    clear h hcells hl hc
    go_enter Try.func42, Try.ntmps42
    go_wp2_with (first | (at_builtin; refine list_appE rfl _ _ rfl w.heap.size _ _ rfl HM.out _ _ rfl H.out (by simpa using HL.out) (by simp) ?_))
    intro v' w' ho hg
    have HO := Lib.hid ho
    have HG := Lib.hid (hg.below (B := w.heap.size) (by simp) (fun k hk => by simp [Value.ownBlock] at hk; omega))
    clear ho hg
    go_wp2_with fail
    go_ret
    exact ⟨v', rfl, HO.out, HB.out.trans HG.out⟩

/-- A message. -/
structure Mg where
  kind : Int
  src : Int
  dst : Int
  term : Nat
  index : Nat
  lterm : Nat
  commit : Nat
  ok : Bool
  ents : List Ent
  state : ByteArray
def mgL (m : Mg) (v : Value) : List Value := [.int .i64 m.kind, .int .i64 m.src, .int .i64 m.dst, .int .u64 (m.term : Int), .int .u64 (m.index : Int), .int .u64 (m.lterm : Int), .int .u64 (m.commit : Int), .bool m.ok, v, .string m.state]
theorem cellO {w : World} {b o g i : Nat} {v u : Value} (h : w.cell? ⟨b, o, none⟩ = some u) (hne : b ≠ g) : (w.setCell ⟨g, i, none⟩ v).cell? ⟨b, o, none⟩ = some u := by
  rw [World.cell?_of_block (w := w) (a := ⟨b, o, none⟩) (heap_setCell_other w ⟨g, i, none⟩ b v hne)]; exact h
theorem cells10 {w : World} {G : Nat} {a0 a1 a2 a3 a4 a5 a6 a7 a8 a9 : Value} {ty : TypeId} (h : w.heap[G]? = some (.cells #[a0, a1, a2, a3, a4, a5, a6, a7, a8, a9] ty (0, 0))) :
    w.cell? ⟨G, 0, none⟩ = some a0 ∧ w.cell? ⟨G, 1, none⟩ = some a1 ∧ w.cell? ⟨G, 2, none⟩ = some a2 ∧ w.cell? ⟨G, 3, none⟩ = some a3 ∧ w.cell? ⟨G, 4, none⟩ = some a4 ∧
    w.cell? ⟨G, 5, none⟩ = some a5 ∧ w.cell? ⟨G, 6, none⟩ = some a6 ∧ w.cell? ⟨G, 7, none⟩ = some a7 ∧ w.cell? ⟨G, 8, none⟩ = some a8 ∧ w.cell? ⟨G, 9, none⟩ = some a9 := by
  simp [World.cell?, h]
theorem free10 {w : World} {G : Nat} {cs : Array Value} {ty : TypeId} (h : w.heap[G]? = some (.cells cs ty (0, 0))) :
    w.frozen? ⟨G, 0, none⟩ = false ∧ w.frozen? ⟨G, 1, none⟩ = false ∧ w.frozen? ⟨G, 2, none⟩ = false ∧ w.frozen? ⟨G, 3, none⟩ = false ∧ w.frozen? ⟨G, 4, none⟩ = false ∧
    w.frozen? ⟨G, 5, none⟩ = false ∧ w.frozen? ⟨G, 6, none⟩ = false ∧ w.frozen? ⟨G, 7, none⟩ = false ∧ w.frozen? ⟨G, 8, none⟩ = false ∧ w.frozen? ⟨G, 9, none⟩ = false := by
  simp [World.frozen?, h]
theorem ESl.nil (w : World) : ESl w (.slice none 0 0) [] := ⟨none, 0, rfl, Nat.le_refl _, fun h => absurd rfl h⟩
end Go.Proofs.Ytgdlnjhbencjkaa
