/- Slices of signed headers. -/
import Derived.Test.YtpkkdjmcabefbaaDoorELib
import Derived.Laws.AppendOwnNone
import Derived.Laws.IdiomCopy
import Derived.Deep.AppendLies
import Derived.Lib.SliceRun
import Derived.ArgAppend
namespace Go.Proofs.YtpkkdjmcabefbaaDoor
open Go.RowKit
open Cod (SlN Grew ownN_low ownN_mv ownN_base)
theorem run_append_empty {P : Program} {w : World} (base : Nat) (t ty e : TypeId) (i : TypeInfo) (size : Nat) (ht : P.underlying t = some (.slice e)) (hi : P.info? e = some i)
    (v : Value) (n : Nat) (xs : List Value) (hown : w.ownsRow base e size v n xs) (a : Option Addr) (c : Nat) :
    (Builtin.append_ #[t, t] ty #[v, .slice a 0 c]).run P w = .ok v w := by
  rcases hown.2 with ⟨rfl, rfl⟩ | ⟨g, cap, cur, rfl, _, _, hnc, _⟩
  · cases a <;> simp [Builtin.append_, run_underlying ht, sizeOf, typeInfo, hi, Builtin.lenOf, Builtin.firstCells, loadCells, loadCellsFrom]
  · cases a <;> simp [Builtin.append_, run_underlying ht, sizeOf, typeInfo, hi, Builtin.lenOf, Builtin.firstCells, hnc, storeCells, loadCells, loadCellsFrom]

theorem list_appN2 {P : Program} {w : World} {t e : TypeId} {z : Value} {size bytes : Nat} {ops : Array Oper} {rest : List Oper} {o : Oper} {a : Act} {Q : Exit → Act → World → Prop} (S : SlN P t e z size bytes) (hgd : o.guard = none) (s x : Operand)
    (ho : o.op = .call { callee := .builtin .append, args := #[s, x], argTypes := #[t, t] })
    (B : Nat) (v : Value) (n : Nat) (xs : List Value) (hs : a.eval s = v) (hown : w.ownsRow B e size v n xs)
    (ad : Option Addr) (m c : Nat) (news : List Value) (hx : a.eval x = .slice ad m c) (hl : news.length = m * size) (hnews : 0 < m → ∃ g o, ad = some ⟨g, o, none⟩ ∧ ∀ j u, news[j]? = some u → w.cell? ⟨g, o + j, none⟩ = some u) (h1 : ∀ u ∈ news, u.oneCell' = true)
    (h63 : n + m ≤ maxLen) (hbytes : (n + m) * bytes ≤ 140737488355328) (hbase : B ≤ w.heap.size)
    (h : ∀ v' w', w'.ownsRow B e size v' (n + m) (xs ++ news) → Grew w v w' v' → wpList P ops Q rest (a.put o.dst v') w') :
    wpList P ops Q (o :: rest) a w := by
  obtain ⟨i, hi, hz, hsz, hby⟩ := info_parts S.info
  by_cases hm : 0 < m
  · obtain ⟨g0, o0, rfl, hc⟩ := hnews hm
    refine wpList_append_lies w hgd s x t ho B e i z size bytes S.und hi hz hsz hby S.zc S.pos v n xs hs hown ⟨g0, o0, none⟩ m c news hx hl
      (fun j u hu => by
        have := hc j u hu
        unfold Addr.add
        split
        · rename_i h0; subst h0; simpa using this
        · exact this) h1 hm h63 hbytes hbase _ rfl ?_
    intro g cap w' h2 h3 h4 _
    refine h _ w' h2 ⟨h3, fun k hk => ?_⟩
    have : g = k := by simpa [Value.ownBlock] using hk
    subst this
    rcases h4 with h4 | h4
    · exact .inl h4
    · exact .inr (by omega)
  · obtain rfl : m = 0 := by omega
    obtain rfl : news = [] := List.eq_nil_of_length_eq_zero (by simpa using hl)
    refine wpList_plain hgd fun K hK => ?_
    have hrun := run_append_empty (P := P) (w := w) B t o.type e i size S.und hi v n xs hown ad c
    unfold Oper.wp
    simp only [execOp, ho, resolve, invoke, builtin, Sem.run_bind, Sem.run_pure, Result.andThen_ok, List.map_toArray, List.map_cons, List.map_nil, hs, hx, hrun]
    exact hK _ _ (h v w (by simpa using hown) (Grew.refl w v))



theorem Tryd.sgSl : SlN Tryd.prog 24 35 (.agg #[.int .u64 0, .int .u64 0, .string ⟨#[]⟩, .string ⟨#[]⟩, .int .u64 0, .int .u64 0, .string ⟨#[]⟩]) 7 80 := ⟨Tryd.underlying24, by kernel_rfl, rfl, by decide⟩
def sgL (s : Sg) : List Value := [.int .u64 s.h.shard, .int .u64 s.h.seq, .string s.h.prev, .string s.h.root, .int .u64 s.h.who, .int .u64 s.h.stamp, .string s.mac]
/-- The cells of signed headers. -/
def sgsC (l : List Sg) : List Value := l.flatMap sgL
theorem sgsC_append (a b : List Sg) : sgsC (a ++ b) = sgsC a ++ sgsC b := List.flatMap_append ..
theorem sgsC_length (l : List Sg) : (sgsC l).length = l.length * 7 := by
  induction l with
  | nil => rfl
  | cons x l ih => simp only [sgsC, sgL, List.flatMap_cons, List.length_append, List.length_cons, List.length_nil] at ih ⊢; omega
theorem sgsC_get : ∀ (q : List Sg) (i : Nat) (y : Sg), q[i]? = some y → ∀ j u, (sgL y)[j]? = some u → (sgsC q)[i * 7 + j]? = some u
  | [], i, y, h, _, _, _ => by simp at h
  | x :: q, 0, y, h, j, u, hu => by
    obtain rfl : x = y := by simpa using h
    have e : sgsC (x :: q) = sgL x ++ sgsC q := rfl
    have hl := (List.getElem?_eq_some_iff.1 hu).1
    rw [e, Nat.zero_mul, Nat.zero_add, List.getElem?_append_left hl]
    exact hu
  | x :: q, i + 1, y, h, j, u, hu => by
    have e : sgsC (x :: q) = sgL x ++ sgsC q := rfl
    have hl : (sgL x).length = 7 := rfl
    rw [e, show (i + 1) * 7 + j = 7 + (i * 7 + j) by omega, List.getElem?_append_right (by rw [hl]; omega), hl, Nat.add_sub_cancel_left]
    exact sgsC_get q i y (by simpa using h) j u hu
theorem sgL_one (s : Sg) : ∀ u ∈ sgL s, u.oneCell' = true := by
  intro u hu
  simp only [sgL, List.mem_cons, List.not_mem_nil, or_false] at hu
  rcases hu with rfl | rfl | rfl | rfl | rfl | rfl | rfl <;> rfl
theorem sgsC_one (l : List Sg) : ∀ u ∈ sgsC l, u.oneCell' = true := by
  intro u hu
  obtain ⟨x, _, hx⟩ := List.mem_flatMap.1 hu
  exact sgL_one x u hx
/-- Seven cells from a place on. -/
structure SCl (w : World) (g o : Nat) (s : Sg) : Prop where
  c0 : w.cell? ⟨g, o, none⟩ = some (.int .u64 s.h.shard)
  c1 : w.cell? ⟨g, o + 1, none⟩ = some (.int .u64 s.h.seq)
  c2 : w.cell? ⟨g, o + 2, none⟩ = some (.string s.h.prev)
  c3 : w.cell? ⟨g, o + 3, none⟩ = some (.string s.h.root)
  c4 : w.cell? ⟨g, o + 4, none⟩ = some (.int .u64 s.h.who)
  c5 : w.cell? ⟨g, o + 5, none⟩ = some (.int .u64 s.h.stamp)
  c6 : w.cell? ⟨g, o + 6, none⟩ = some (.string s.mac)
theorem cellE {w w' : World} {b o : Nat} {v : Value} (hb : Below w.heap.size w w') (hc : w.cell? ⟨b, o, none⟩ = some v) : w'.cell? ⟨b, o, none⟩ = some v := by
  rw [hb.cell (p := ⟨b, o, none⟩) (World.block_lt_of_cell? w _ hc)]; exact hc
theorem SCl.later {w w' : World} {g o : Nat} {s : Sg} (h : SCl w g o s) (hb : Below w.heap.size w w') : SCl w' g o s :=
  ⟨cellE hb h.c0, cellE hb h.c1, cellE hb h.c2, cellE hb h.c3, cellE hb h.c4, cellE hb h.c5, cellE hb h.c6⟩
theorem SCl.mv {w w' : World} {g o : Nat} {s : Sg} (h : SCl w g o s) (e : w'.heap[g]? = w.heap[g]?) : SCl w' g o s := by
  have f : ∀ k, w'.cell? ⟨g, k, none⟩ = w.cell? ⟨g, k, none⟩ := fun k => World.cell?_of_block (a := ⟨g, k, none⟩) e
  exact ⟨by rw [f]; exact h.c0, by rw [f]; exact h.c1, by rw [f]; exact h.c2, by rw [f]; exact h.c3, by rw [f]; exact h.c4, by rw [f]; exact h.c5, by rw [f]; exact h.c6⟩
/-- The slice's elements are these signed headers. -/
def SSl (w : World) (v : Value) (l : List Sg) : Prop := ∃ a c, v = .slice a l.length c ∧ l.length ≤ c ∧ (l ≠ [] → ∃ g o, a = some ⟨g, o, none⟩ ∧ g < w.heap.size ∧ ∀ i s, l[i]? = some s → SCl w g (o + i * 7) s)
theorem SSl.later {w w' : World} {v : Value} {l : List Sg} (h : SSl w v l) (hb : Below w.heap.size w w') : SSl w' v l := by
  obtain ⟨a, c, h1, h2, h3⟩ := h
  refine ⟨a, c, h1, h2, fun hne => ?_⟩
  obtain ⟨g, o, ha, hg, hc⟩ := h3 hne
  exact ⟨g, o, ha, Nat.lt_of_lt_of_le hg hb.size, fun i x hx => (hc i x hx).later hb⟩
theorem SSl.shape {w : World} {v : Value} {l : List Sg} (h : SSl w v l) : ∃ a c, v = .slice a l.length c := by
  obtain ⟨a, c, h1, _⟩ := h; exact ⟨a, c, h1⟩
theorem SSl.nil (w : World) : SSl w (.slice none 0 0) [] := ⟨none, 0, rfl, Nat.le_refl _, fun h => absurd rfl h⟩
theorem SSl.get {w : World} {v : Value} {l : List Sg} (h : SSl w v l) {i : Nat} {s : Sg} (hi : l[i]? = some s) : ∃ g o c, v = .slice (some ⟨g, o, none⟩) l.length c ∧ SCl w g (o + i * 7) s := by
  obtain ⟨a, c, h1, h2, h3⟩ := h
  obtain ⟨g, o, ha, _, hc⟩ := h3 (fun e => by rw [e] at hi; cases hi)
  exact ⟨g, o, c, by rw [h1, ha], hc i s hi⟩
/-- The slice value owns these signed headers; no block below B is its own. -/
def SOw (w : World) (B : Nat) (v : Value) (l : List Sg) : Prop := w.ownsRow B 35 7 v l.length (sgsC l)
theorem SOw.nil (w : World) (B : Nat) : SOw w B (.slice none 0 0) [] := World.ownsRow_nil _ _ _ _
theorem SOw.own {w : World} {B : Nat} {v : Value} {l : List Sg} (h : SOw w B v l) : ∀ k, v.ownBlock = some k → B ≤ k ∧ k < w.heap.size := fun k hk => World.ownsRow.lt h k hk
theorem SOw.mv {w w' : World} {B : Nat} {v : Value} {l : List Sg} (h : SOw w B v l) (hb : ∀ k, v.ownBlock = some k → w'.heap[k]? = w.heap[k]?) : SOw w' B v l := ownN_mv h hb
theorem SOw.later {w w' : World} {B : Nat} {v : Value} {l : List Sg} (h : SOw w B v l) (hb : Below w.heap.size w w') : SOw w' B v l := h.mv (fun k hk => hb.block k (h.own k hk).2)
theorem SOw.base {w : World} {B B' : Nat} {v : Value} {l : List Sg} (h : SOw w B v l) (hB : B' ≤ B) : SOw w B' v l := ownN_base h fun k hk => Nat.le_trans hB (ownN_low h k hk)
theorem SOw.shape {w : World} {B : Nat} {v : Value} {l : List Sg} (h : SOw w B v l) : ∃ a c, v = .slice a l.length c := by
  rcases h.2 with ⟨h1, h2⟩ | ⟨g, cap, cur, hv, _⟩
  · exact ⟨none, 0, by rw [h1, h2]⟩
  · exact ⟨_, _, hv⟩
theorem SOw.sl {w : World} {B : Nat} {v : Value} {l : List Sg} (h : SOw w B v l) : SSl w v l := by
  rcases h.2 with ⟨h1, h2⟩ | ⟨g, cap, cur, he, hB, hg, hn, hm, hs, ht⟩
  · obtain rfl := List.eq_nil_of_length_eq_zero h2
    rw [h1]; exact SSl.nil w
  · refine ⟨_, cap, he, hn, fun _ => ⟨g, 0, rfl, block_lt hg, fun i x hx => ?_⟩⟩
    have hcell : ∀ (j : Nat) (u : Value), (sgL x)[j]? = some u → w.cell? ⟨g, 0 + i * 7 + j, none⟩ = some u := fun j u hu => by
      have hu := sgsC_get l i x hx j u hu
      have hj : i * 7 + j < (sgsC l).length := (List.getElem?_eq_some_iff.1 hu).1
      rw [← ht, List.getElem?_take] at hu
      split at hu
      · unfold World.cell?
        rw [hg]
        simpa using hu
      · cases hu
    exact ⟨hcell 0 _ rfl, hcell 1 _ rfl, hcell 2 _ rfl, hcell 3 _ rfl, hcell 4 _ rfl, hcell 5 _ rfl, hcell 6 _ rfl⟩
/-- append(out, s): the block of the one new element is cells of its own. -/
theorem list_app1 {ops : Array Oper} {rest : List Oper} {o : Oper} {a : Act} {w : World} {Q : Exit → Act → World → Prop} (hgd : o.guard = none) (s x : Operand)
    (ho : o.op = .call { callee := .builtin .append, args := #[s, x], argTypes := #[24, 24] })
    (B : Nat) (v : Value) (l : List Sg) (hs : a.eval s = v) (hown : SOw w B v l) (ad : Option Addr) (c : Nat) (k : List Sg) (hx : a.eval x = .slice ad k.length c) (hk : SSl w (.slice ad k.length c) k) (hl : l.length + k.length ≤ 1000000) (hbase : B ≤ w.heap.size)
    (h : ∀ v' w', SOw w' B v' (l ++ k) → Grew w v w' v' → wpList Tryd.prog ops Q rest (a.put o.dst v') w') :
    wpList Tryd.prog ops Q (o :: rest) a w := by
  refine list_appN2 Tryd.sgSl hgd s x ho B v l.length (sgsC l) hs hown ad k.length c (sgsC k) hx (sgsC_length k) (fun hm => ?_) (sgsC_one k) (by unfold maxLen; omega) (by omega) hbase ?_
  · obtain ⟨a', c', e, _, h3⟩ := hk
    obtain ⟨g, o', ha, _, hc⟩ := h3 (fun e => by rw [e] at hm; simp at hm)
    injection e with e
    refine ⟨g, o', by rw [e, ha], fun j u hu => ?_⟩
    have hj : j < k.length * 7 := by rw [← sgsC_length]; exact (List.getElem?_eq_some_iff.1 hu).1
    obtain ⟨y, hy⟩ : ∃ y, k[j / 7]? = some y := ⟨k[j / 7]'(by omega), List.getElem?_eq_getElem _⟩
    obtain ⟨u', hu'⟩ : ∃ u', (sgL y)[j % 7]? = some u' := ⟨(sgL y)[j % 7]'(by show j % 7 < 7; omega), List.getElem?_eq_getElem _⟩
    have e2 := sgsC_get k _ y hy _ u' hu'
    rw [show j / 7 * 7 + j % 7 = j by omega, hu] at e2
    injection e2 with e2
    subst e2
    have cc := hc _ y hy
    have hq : j = j / 7 * 7 + j % 7 := by omega
    have hm7 : j % 7 < 7 := Nat.mod_lt _ (by decide)
    rw [hq, ← Nat.add_assoc]
    generalize j % 7 = q at hu' hm7 ⊢
    match q, hm7 with
    | 0, _ => obtain rfl : _ = u := by simpa [sgL] using hu'
              exact cc.c0
    | 1, _ => obtain rfl : _ = u := by simpa [sgL] using hu'
              exact cc.c1
    | 2, _ => obtain rfl : _ = u := by simpa [sgL] using hu'
              exact cc.c2
    | 3, _ => obtain rfl : _ = u := by simpa [sgL] using hu'
              exact cc.c3
    | 4, _ => obtain rfl : _ = u := by simpa [sgL] using hu'
              exact cc.c4
    | 5, _ => obtain rfl : _ = u := by simpa [sgL] using hu'
              exact cc.c5
    | 6, _ => obtain rfl : _ = u := by simpa [sgL] using hu'
              exact cc.c6
  · intro v' w' g1 g2
    refine h v' w' ?_ g2
    unfold SOw
    rw [List.length_append, sgsC_append]
    exact g1
theorem SSl.one {w : World} {g c : Nat} {s : Sg} {ty : TypeId} (h : w.heap[g]? = some (.cells #[.int .u64 s.h.shard, .int .u64 s.h.seq, .string s.h.prev, .string s.h.root, .int .u64 s.h.who, .int .u64 s.h.stamp, .string s.mac] ty (0, 0))) (hc : 1 ≤ c) : SSl w (.slice (some ⟨g, 0, none⟩) 1 c) [s] := by
  refine ⟨_, c, rfl, hc, fun _ => ⟨g, 0, rfl, block_lt h, fun i x hx => ?_⟩⟩
  obtain ⟨c0, c1, c2, c3, c4, c5, c6⟩ := cells7 h
  cases i with
  | zero => obtain rfl : s = x := by simpa using hx
            exact ⟨c0, c1, c2, c3, c4, c5, c6⟩
  | succ i => simp at hx
end Go.Proofs.YtpkkdjmcabefbaaDoor
