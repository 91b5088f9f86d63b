/- Maps whose keys are places of lists: a pointer and a count. -/
import Derived.Test.YtaojcbdljgcfgaaCMem
import Derived.MapKept
import Derived.LaidEql
import Derived.Laws.StructEq
import Derived.WideLaws
namespace Go.Proofs.Ytaojcbdljgcfgaa
open Go.RowKit

def keyV (p : Addr) (c : Nat) : Value := .agg #[.pointer (some p), .int .i64 c]

theorem part_ptr (xs : Array Value) (off : Nat) (v : Value) (W : World) (h : xs[off]? = some v) : (part 45 xs off).run Try.prog W = .ok v W := by
  simp [part, isAgg, run_underlying Try.underlying45, h]
theorem part_int (xs : Array Value) (off : Nat) (v : Value) (W : World) (h : xs[off]? = some v) : (part 3 xs off).run Try.prog W = .ok v W := by
  simp [part, isAgg, run_underlying Try.underlying3, h]

theorem eq_ptr (d : Nat) (W : World) (p q : Addr) (hp : Unf W p.block) (hq : Unf W q.block) : (Op.equalIn (d + 1) 45 (.pointer (some p)) (.pointer (some q))).run Try.prog W = .ok (decide (p = q)) W := by
  have hz : (sizeOf 27).run Try.prog W = .ok 4 W := by kernel_rfl
  by_cases h : p = q
  · subst h
    simp [Op.equalIn, run_underlying Try.underlying45, hz, run_sameAddr_same]
  · obtain ⟨ca, ta, ha⟩ := hp
    obtain ⟨cb, tb, hb⟩ := hq
    simp [Op.equalIn, run_underlying Try.underlying45, hz, run_sameAddr_other W h ha hb, h]

theorem eq_key (d : Nat) (W : World) (p q : Addr) (c e : Nat) (hp : Unf W p.block) (hq : Unf W q.block) : (Op.equalIn (d + 2) 68 (keyV p c) (keyV q e)).run Try.prog W = .ok (decide (p = q ∧ c = e)) W := by
  unfold keyV
  rw [run_equalIn_struct W (d + 1) 68 _ _ (by kernel_rfl) (by kernel_rfl)]
  have hf : ∃ n1 n2, (Try.prog.fieldsOf 68).toList = [n1, n2] ∧ n1.name ≠ "_" ∧ n2.name ≠ "_" ∧ n1.type = 45 ∧ n2.type = 3 ∧ n1.offset = 0 ∧ n2.offset = 1 := ⟨(Try.prog.fieldsOf 68)[0]!, (Try.prog.fieldsOf 68)[1]!, by kernel_rfl, of_decide_eq_true (by kernel_rfl), of_decide_eq_true (by kernel_rfl), by kernel_rfl, by kernel_rfl, by kernel_rfl, by kernel_rfl⟩
  obtain ⟨n1, n2, hf, h1, h2, t1, t2, o1, o2⟩ := hf
  rw [hf]
  have e1 := eq_ptr d W p q hp hq
  have e2 := run_equalIn_int W d 3 .i64 .i64 (c : Int) (e : Int) Try.underlying3
  simp only [Op.eqFields, h1, h2, t1, t2, o1, o2, ne_eq, not_false_eq_true, if_true]
  have q1 : ∀ (v w : Value), (part 45 #[v, w] 0).run Try.prog W = .ok v W := fun v w => part_ptr _ _ _ _ rfl
  have q2 : ∀ (v w : Value), (part 3 #[v, w] 1).run Try.prog W = .ok w W := fun v w => part_int _ _ _ _ rfl
  by_cases h : p = q
  · subst h
    have e1' : (Op.equalIn (d + 1) 45 (.pointer (some p)) (.pointer (some p))).run Try.prog W = .ok true W := by simpa using e1
    by_cases h' : c = e
    · subst h'
      have e2' : (Op.equalIn (d + 1) 3 (.int .i64 (c : Int)) (.int .i64 (c : Int))).run Try.prog W = .ok true W := by simpa using e2
      simp [q1, q2, e1', e2', Sem.run_ite]
    · have hb : ((c : Int) == (e : Int)) = false := by simp; omega
      rw [hb] at e2
      simp [q1, q2, e1', e2, h', Sem.run_ite]
  · have e1' : (Op.equalIn (d + 1) 45 (.pointer (some p)) (.pointer (some q))).run Try.prog W = .ok false W := by simpa [h] using e1
    simp [q1, e1', h]

theorem check_key (em : Bool) (n : Nat) (W : World) (p : Addr) (c : Nat) : (Instr.checkKey em (n + 2) 68 (keyV p c)).run Try.prog W = .ok () W := by
  unfold keyV Instr.checkKey
  have hu : Try.prog.underlying 68 = some (.struct (Try.prog.fieldsOf 68)) := by kernel_rfl
  have hf : ∃ n1 n2, (Try.prog.fieldsOf 68).toList = [n1, n2] ∧ n1.name ≠ "_" ∧ n2.name ≠ "_" ∧ n1.type = 45 ∧ n2.type = 3 ∧ n1.offset = 0 ∧ n2.offset = 1 := ⟨(Try.prog.fieldsOf 68)[0]!, (Try.prog.fieldsOf 68)[1]!, by kernel_rfl, of_decide_eq_true (by kernel_rfl), of_decide_eq_true (by kernel_rfl), by kernel_rfl, by kernel_rfl, by kernel_rfl, by kernel_rfl⟩
  obtain ⟨n1, n2, hf, h1, h2, t1, t2, o1, o2⟩ := hf
  simp only [Sem.run_bind, run_underlying hu, Result.andThen_ok]
  rw [← Array.forIn_toList, hf]
  have q1 : ∀ (v w : Value), (part 45 #[v, w] 0).run Try.prog W = .ok v W := fun v w => part_ptr _ _ _ _ rfl
  have q2 : ∀ (v w : Value), (part 3 #[v, w] 1).run Try.prog W = .ok w W := fun v w => part_int _ _ _ _ rfl
  have k1 : (Instr.checkKey em (n + 1) 45 (.pointer (some p))).run Try.prog W = .ok () W := by simp [Instr.checkKey, run_underlying Try.underlying45]
  have k2 : (Instr.checkKey em (n + 1) 3 (.int .i64 c)).run Try.prog W = .ok () W := by simp [Instr.checkKey, run_underlying Try.underlying3]
  simp [h1, h2, t1, t2, o1, o2, q1, q2, k1, k2]

/-- What a map of lists' levels holds: place, count, level. -/
def Ents (w : World) : List MapEntry → List (Addr × Nat × Int) → Prop
  | [], M => M = []
  | e :: es, M => ∃ p c l M', M = (p, c, l) :: M' ∧ e.key = keyV p c ∧ e.val = .int .i64 l ∧ Unf w p.block ∧ Ents w es M'

theorem find_asking (W : World) (p : Addr) (c : Nat) (hp : Unf W p.block) : ∀ (es : List MapEntry) (M : List (Addr × Nat × Int)) (i : Nat), Ents W es M →
    ((Instr.findAsking 68 (keyV p c) es i).run Try.prog W = .ok none W ∧ ∀ l, (p, c, l) ∉ M) ∨
    ∃ j l, (Instr.findAsking 68 (keyV p c) es i).run Try.prog W = .ok (some (i + j, .int .i64 l)) W ∧ M[j]? = some (p, c, l) ∧ j < es.length
  | [], M, i, h => by
    rw [show M = [] from h]
    exact .inl ⟨by simp [Instr.findAsking], by simp⟩
  | e :: es, M, i, h => by
    obtain ⟨q, d, l, M', rfl, hk, hv, hu, hr⟩ := h
    have he := eq_key 9998 W p q c d hp hu
    have he' : (Op.equal 68 (keyV p c) e.key).run Try.prog W = .ok (decide (p = q ∧ c = d)) W := by rw [hk]; exact he
    by_cases hq : p = q ∧ c = d
    · obtain ⟨rfl, rfl⟩ := hq
      refine .inr ⟨0, l, ?_, rfl, by simp⟩
      simp [Instr.findAsking, he', hv]
    · rcases find_asking W p c hp es M' (i + 1) hr with ⟨h1, h2⟩ | ⟨j, l', h1, h2, h3⟩
      · refine .inl ⟨by simp [Instr.findAsking, he', hq, h1], fun l' hm => ?_⟩
        rcases List.mem_cons.1 hm with hm | hm
        · injection hm with a b; injection b with b _; exact hq ⟨a, b⟩
        · exact h2 l' hm
      · refine .inr ⟨j + 1, l', ?_, by simpa using h2, by simp; omega⟩
        simp [Instr.findAsking, he', hq, h1, Nat.add_assoc, Nat.add_comm 1 j]

theorem find_key (W : World) (p : Addr) (c : Nat) (hp : Unf W p.block) (es : List MapEntry) (M : List (Addr × Nat × Int)) (h : Ents W es M) :
    ((Instr.findKey 68 (keyV p c) es).run Try.prog W = .ok none W ∧ ∀ l, (p, c, l) ∉ M) ∨
    ∃ j l, (Instr.findKey 68 (keyV p c) es).run Try.prog W = .ok (some (j, .int .i64 l)) W ∧ M[j]? = some (p, c, l) ∧ j < es.length := by
  have hu : Try.prog.underlying 68 = some (.struct (Try.prog.fieldsOf 68)) := by kernel_rfl
  have hf : (Instr.findKey 68 (keyV p c) es).run Try.prog W = (Instr.findAsking 68 (keyV p c) es 0).run Try.prog W := by
    cases es with
    | nil => simp [Instr.findKey, run_underlying hu, Instr.findNow, Instr.findAsking]
    | cons e es => simp [Instr.findKey, run_underlying hu, Instr.findNow, Instr.sameNow]
  rw [hf]
  rcases find_asking W p c hp es M 0 h with h | ⟨j, l, h1, h2, h3⟩
  · exact .inl h
  · exact .inr ⟨j, l, by simpa using h1, h2, h3⟩

/-- Block b is a map of levels that holds M. -/
def LvMap (w : World) (b : Nat) (M : List (Addr × Nat × Int)) : Prop := ∃ es clock, w.heap[b]? = some (.map es clock) ∧ Ents w es.toList M

theorem lookup_lv (W : World) (b : Nat) (M : List (Addr × Nat × Int)) (hm : LvMap W b M) (p : Addr) (c : Nat) (hp : Unf W p.block) :
    ∃ l : Int, (Instr.lookup 52 (.map (some b)) (keyV p c) false).run Try.prog W = .ok (.int .i64 l) W ∧ (l = 0 ∨ (p, c, l) ∈ M) := by
  obtain ⟨es, clock, hb, he⟩ := hm
  have hu : Try.prog.underlying 52 = some (.map 68 3) := by kernel_rfl
  have hz : (zeroValue 3).run Try.prog W = .ok (.int .i64 0) W := by kernel_rfl
  have hg := MapKept.run_getObj_map (P := Try.prog) hb
  have hck := check_key es.isEmpty 9998 W p c
  rcases find_key W p c hp es.toList M he with ⟨h1, _⟩ | ⟨j, l, h1, h2, _⟩
  · refine ⟨0, ?_, .inl rfl⟩
    simp [Instr.lookup, run_underlying hu, hg, hck, h1, hz]
  · refine ⟨l, ?_, .inr (List.mem_of_getElem? h2)⟩
    simp [Instr.lookup, run_underlying hu, hg, hck, h1]

theorem Ents.later {w w' : World} : ∀ (es : List MapEntry) (M : List (Addr × Nat × Int)), Ents w es M → (∀ x ∈ M, w'.heap[x.1.block]? = w.heap[x.1.block]?) → Ents w' es M
  | [], _, h, _ => h
  | e :: es, M, h, hw => by
    obtain ⟨p, c, l, M', rfl, hk, hv, hu, hr⟩ := h
    exact ⟨p, c, l, M', rfl, hk, hv, hu.of (hw (p, c, l) (by simp)), Ents.later es M' hr (fun x hx => hw x (by simp [hx]))⟩
theorem Ents.snoc {w : World} {e : MapEntry} {p : Addr} {c : Nat} {l : Int} (hk : e.key = keyV p c) (hv : e.val = .int .i64 l) (hu : Unf w p.block) : ∀ (es : List MapEntry) (M : List (Addr × Nat × Int)), Ents w es M → Ents w (es ++ [e]) (M ++ [(p, c, l)])
  | [], M, h => by rw [show M = [] from h]; exact ⟨p, c, l, [], rfl, hk, hv, hu, rfl⟩
  | x :: es, M, h => by
    obtain ⟨p', c', l', M', rfl, a, b, d, hr⟩ := h
    exact ⟨p', c', l', _, rfl, a, b, d, Ents.snoc hk hv hu es M' hr⟩
theorem Ents.put {w : World} {f : MapEntry → MapEntry} {p : Addr} {c : Nat} {l : Int} (hk : ∀ e, (f e).key = keyV p c) (hv : ∀ e, (f e).val = .int .i64 l) (hu : Unf w p.block) : ∀ (j : Nat) (es : List MapEntry) (M : List (Addr × Nat × Int)), Ents w es M → Ents w (es.modify j f) (M.modify j (fun _ => (p, c, l)))
  | _, [], M, h => by rw [show M = [] from h]; simp [Ents]
  | 0, x :: es, M, h => by
    obtain ⟨p', c', l', M', rfl, a, b, d, hr⟩ := h
    simp only [List.modify_zero_cons]
    exact ⟨p, c, l, M', rfl, hk x, hv x, hu, hr⟩
  | j + 1, x :: es, M, h => by
    obtain ⟨p', c', l', M', rfl, a, b, d, hr⟩ := h
    simp only [List.modify_succ_cons]
    exact ⟨p', c', l', _, rfl, a, b, d, Ents.put hk hv hu j es M' hr⟩

theorem sameBits_key (n : Nat) (p : Addr) (c : Nat) : Instr.sameBits (n + 2) (keyV p c) (keyV p c) = true := by
  simp [keyV, Instr.sameBits]

theorem update_lv (W : World) (b : Nat) (M : List (Addr × Nat × Int)) (hm : LvMap W b M) (p : Addr) (c : Nat) (hp : Unf W p.block) (l : Int) :
    ∃ W' M', (Instr.mapUpdate 52 (.map (some b)) (keyV p c) (.int .i64 l)).run Try.prog W = .ok () W' ∧ LvMap W' b M' ∧ (∀ x ∈ M', x ∈ M ∨ x = (p, c, l)) ∧ W.grownBy W' (some b) := by
  obtain ⟨es, clock, hb, he⟩ := hm
  have hu : Try.prog.underlying 52 = some (.map 68 3) := by kernel_rfl
  have hg := MapKept.run_getObj_map (P := Try.prog) hb
  have hck := check_key false 9998 W p c
  have hgr : ∀ o, W.grownBy { W with heap := W.heap.setIfInBounds b o } (some b) := fun o => ⟨rfl, rfl, rfl, by simp, fun k hk hne => by
    have : k ≠ b := fun e => hne (by rw [e])
    simp [Ne.symm this]⟩
  have hent : ∀ o (es' : List MapEntry) (M' : List (Addr × Nat × Int)), Ents W es' M' → (∀ x ∈ M', Unf W x.1.block) → Ents { W with heap := W.heap.setIfInBounds b o } es' M' := fun o es' M' h hx => by
    refine Ents.later es' M' h (fun x hxm => ?_)
    obtain ⟨cc, tt, hc⟩ := hx x hxm
    have : x.1.block ≠ b := fun e => by rw [e, hb] at hc; cases hc
    simp [Ne.symm this]
  have hunf : ∀ (es' : List MapEntry) (M' : List (Addr × Nat × Int)), Ents W es' M' → ∀ x ∈ M', Unf W x.1.block := by
    intro es'
    induction es' with
    | nil => intro M' h x hx; rw [show M' = [] from h] at hx; cases hx
    | cons e es' ih =>
      intro M' h x hx
      obtain ⟨p', c', l', M2, rfl, a, b2, d, hr⟩ := h
      rcases List.mem_cons.1 hx with rfl | hx
      · exact d
      · exact ih M2 hr x hx
  rcases find_key W p c hp es.toList M he with ⟨h1, h2⟩ | ⟨j, l', h1, h2, h3⟩
  · have hs := MapKept.run_setObj_map (P := Try.prog) (.map (es.push { key := keyV p c, val := .int .i64 l, born := clock }) (clock + 1)) hb
    have hsn : Ents W (es.push { key := keyV p c, val := .int .i64 l, born := clock }).toList (M ++ [(p, c, l)]) := by
      rw [Array.toList_push]; exact Ents.snoc rfl rfl hp _ _ he
    refine ⟨{ W with heap := W.heap.setIfInBounds b (.map (es.push { key := keyV p c, val := .int .i64 l, born := clock }) (clock + 1)) }, M ++ [(p, c, l)], ?_, ⟨_, _, (MapKept.heap_set hb).1, hent _ _ _ hsn (hunf _ _ hsn)⟩, fun x hx => by simpa using hx, hgr _⟩
    simp [Instr.mapUpdate, run_underlying hu, hg, hck, h1, hs]
  · have hold : ((es[j]?).map (·.key)).getD (keyV p c) = keyV p c := by
      have hj : j < es.toList.length := h3
      have H : ∀ (l : List MapEntry) (M : List (Addr × Nat × Int)) (j : Nat), Ents W l M → M[j]? = some (p, c, l') → ((l[j]?).map (·.key)).getD (keyV p c) = keyV p c := by
        intro l
        induction l with
        | nil => intro M j h _; simp
        | cons e l ih =>
          intro M j h hM
          obtain ⟨p', c', l2, M2, rfl, a, b2, d, hr⟩ := h
          cases j with
          | zero => simp at hM; obtain ⟨rfl, rfl, rfl⟩ := hM; simp [a]
          | succ j => simpa using ih M2 j hr (by simpa using hM)
      have := H es.toList M j he h2
      simpa using this
    have hst : (Instr.keyThatStays (keyV p c) (keyV p c)).run Try.prog W = .ok (keyV p c) W := by simp [Instr.keyThatStays, sameBits_key 9998]
    have hs := MapKept.run_setObj_map (P := Try.prog) (.map (es.modify j fun e => { e with key := keyV p c, val := .int .i64 l }) clock) hb
    have hsn : Ents W (es.modify j fun e => { e with key := keyV p c, val := .int .i64 l }).toList (M.modify j (fun _ => (p, c, l))) := by
      rw [Array.toList_modify]; exact Ents.put (fun _ => rfl) (fun _ => rfl) hp j _ _ he
    refine ⟨{ W with heap := W.heap.setIfInBounds b (.map (es.modify j fun e => { e with key := keyV p c, val := .int .i64 l }) clock) }, M.modify j (fun _ => (p, c, l)), ?_, ⟨_, _, (MapKept.heap_set hb).1, hent _ _ _ hsn (hunf _ _ hsn)⟩, fun x hx => ?_, hgr _⟩
    · simp [Instr.mapUpdate, run_underlying hu, hg, hck, h1, hold, hst, hs]
    · obtain ⟨i, hi⟩ := List.mem_iff_getElem?.1 hx
      rw [List.getElem?_modify] at hi
      split at hi
      · cases hq : M[i]? with
        | none => rw [hq] at hi; simp at hi
        | some y => rw [hq] at hi; simp at hi; exact .inr hi.symm
      · exact .inl (List.mem_of_getElem? (by simpa using hi))
end Go.Proofs.Ytaojcbdljgcfgaa
