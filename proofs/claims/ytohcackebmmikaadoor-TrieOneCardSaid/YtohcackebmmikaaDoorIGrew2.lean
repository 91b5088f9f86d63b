/- Appending a slice of pairs, or of texts, that may be empty. -/
import Derived.Test.YtohcackebmmikaaDoorISame
import Derived.Laws.AppendOwnNone
namespace Go.Proofs.YtohcackebmmikaaDoor
open Go.RowKit

theorem run_append_empty {P : Program} {w : World} (base : Nat) (t ty e : TypeId) (i : TypeInfo) (size : Nat) (ht : P.underlying t = some (.slice e)) (hi : P.info? e = some i)
    (v : Value) (n : Nat) (xs : List Value) (hown : w.ownsRow base e size v n xs) (a : Option Addr) (c : Nat) :
    (Builtin.append_ #[t, t] ty #[v, .slice a 0 c]).run P w = .ok v w := by
  rcases hown.2 with ⟨rfl, rfl⟩ | ⟨g, cap, cur, rfl, _, _, hnc, _⟩
  · cases a <;> simp [Builtin.append_, run_underlying ht, sizeOf, typeInfo, hi, Builtin.lenOf, Builtin.firstCells, loadCells, loadCellsFrom]
  · cases a <;> simp [Builtin.append_, run_underlying ht, sizeOf, typeInfo, hi, Builtin.lenOf, Builtin.firstCells, hnc, storeCells, loadCells, loadCellsFrom]

theorem list_appN2 {P : Program} {w : World} {t e : TypeId} {z : Value} {size bytes : Nat} {ops : Array Oper} {rest : List Oper} {o : Oper} {a : Act} {Q : Exit → Act → World → Prop} (S : SlN P t e z size bytes) (hgd : o.guard = none) (s x : Operand)
    (ho : o.op = .call { callee := .builtin .append, args := #[s, x], argTypes := #[t, t] })
    (B : Nat) (v : Value) (n : Nat) (xs : List Value) (hs : a.eval s = v) (hown : w.ownsRow B e size v n xs)
    (ad : Option Addr) (m c : Nat) (news : List Value) (hx : a.eval x = .slice ad m c) (hl : news.length = m * size) (hnews : 0 < m → ∃ g o, ad = some ⟨g, o, none⟩ ∧ ∀ j u, news[j]? = some u → w.cell? ⟨g, o + j, none⟩ = some u) (h1 : ∀ u ∈ news, u.oneCell' = true)
    (h63 : n + m ≤ maxLen) (hbytes : (n + m) * bytes ≤ 140737488355328) (hbase : B ≤ w.heap.size)
    (h : ∀ v' w', w'.ownsRow B e size v' (n + m) (xs ++ news) → Grew w v w' v' → wpList P ops Q rest (a.put o.dst v') w') :
    wpList P ops Q (o :: rest) a w := by
  obtain ⟨i, hi, hz, hsz, hby⟩ := info_parts S.info
  by_cases hm : 0 < m
  · obtain ⟨g0, o0, rfl, hc⟩ := hnews hm
    refine wpList_append_lies w hgd s x t ho B e i z size bytes S.und hi hz hsz hby S.zc S.pos v n xs hs hown ⟨g0, o0, none⟩ m c news hx hl
      (fun j u hu => by
        have := hc j u hu
        unfold Addr.add
        split
        · rename_i h0; subst h0; simpa using this
        · exact this) h1 hm h63 hbytes hbase _ rfl ?_
    intro g cap w' h2 h3 h4 _
    refine h _ w' h2 ⟨h3, fun k hk => ?_⟩
    have : g = k := by simpa [Value.ownBlock] using hk
    subst this
    rcases h4 with h4 | h4
    · exact .inl h4
    · exact .inr (by omega)
  · obtain rfl : m = 0 := by omega
    obtain rfl : news = [] := List.eq_nil_of_length_eq_zero (by simpa using hl)
    refine wpList_plain hgd fun K hK => ?_
    have hrun := run_append_empty (P := P) (w := w) B t o.type e i size S.und hi v n xs hown ad c
    unfold Oper.wp
    simp only [execOp, ho, resolve, invoke, builtin, Sem.run_bind, Sem.run_pure, Result.andThen_ok, List.map_toArray, List.map_cons, List.map_nil, hs, hx, hrun]
    exact hK _ _ (h v w (by simpa using hown) (Grew.refl w v))

/-- append of a slice of pairs. -/
theorem list_appP {ops : Array Oper} {rest : List Oper} {o : Oper} {a : Act} {w : World} {Q : Exit → Act → World → Prop} (hgd : o.guard = none) (s x : Operand)
    (ho : o.op = .call { callee := .builtin .append, args := #[s, x], argTypes := #[26, 26] })
    (B : Nat) (v : Value) (l : List Pr) (hs : a.eval s = v) (hown : POwn w B v l)
    (xv : Value) (m : List Pr) (hx : a.eval x = xv) (hsl : PSl w xv m)
    (hl : l.length + m.length ≤ 100000) (hbase : B ≤ w.heap.size)
    (h : ∀ v' w', POwn w' B v' (l ++ m) → Grew w v w' v' → wpList Tryd.prog ops Q rest (a.put o.dst v') w') :
    wpList Tryd.prog ops Q (o :: rest) a w := by
  obtain ⟨ad, c, rfl, _, hcells⟩ := hsl
  refine list_appN2 Tryd.pairSl hgd s x ho B v l.length (pairC l) hs hown ad m.length c (pairC m) hx (pairC_length m) (fun hm => ?_) (pairC_one m) (by unfold maxLen; omega) (by omega) hbase ?_
  · obtain ⟨g, o', rfl, _, hc⟩ := hcells (fun e => by rw [e] at hm; simp at hm)
    refine ⟨g, o', rfl, fun j u hu => ?_⟩
    have hj := (List.getElem?_eq_some_iff.1 hu).1
    rw [pairC_length] at hj
    obtain ⟨i, hi⟩ : ∃ i, i = j / 2 := ⟨_, rfl⟩
    have hil : i < m.length := by omega
    have hx2 := hc i m[i] (List.getElem?_eq_getElem hil)
    obtain ⟨g1, g2⟩ := pairC_get m i m[i] (List.getElem?_eq_getElem hil)
    by_cases he : j = i * 2
    · subst he; rw [hu] at g1; injection g1 with g1; rw [g1]; exact hx2.1
    · have he2 : j = i * 2 + 1 := by omega
      subst he2; rw [hu] at g2; injection g2 with g2; rw [g2, ← Nat.add_assoc]; exact hx2.2
  · intro v' w' h1 h2
    refine h v' w' ?_ h2
    unfold POwn
    rw [List.length_append, pairC_append]
    exact h1
end Go.Proofs.YtohcackebmmikaaDoor
