/- Maps whose keys are pairs of places of lists. -/
import Derived.Test.YtaojcbdljgcfgaaCMap
import Derived.ChangeKeysEq
namespace Go.Proofs.Ytaojcbdljgcfgaa
open Go.RowKit

def key2 (p : Addr) (c : Nat) (q : Addr) (d : Nat) : Value := .agg #[.pointer (some p), .int .i64 c, .pointer (some q), .int .i64 d]
theorem part_list (W : World) (a b c d : Value) : (part 68 #[a, b, c, d] 0).run Try.prog W = .ok (.agg #[a, b]) W ∧ (part 68 #[a, b, c, d] 2).run Try.prog W = .ok (.agg #[c, d]) W := by
  have hu : Try.prog.underlying 68 = some (.struct (Try.prog.fieldsOf 68)) := by kernel_rfl
  constructor <;> simp [part, isAgg, run_underlying hu] <;> rfl

theorem eq_key2 (n : Nat) (W : World) (p q p' q' : Addr) (c d c' d' : Nat) (hp : Unf W p.block) (hq : Unf W q.block) (hp' : Unf W p'.block) (hq' : Unf W q'.block) :
    (Op.equalIn (n + 3) 73 (key2 p c q d) (key2 p' c' q' d')).run Try.prog W = .ok (decide (p = p' ∧ c = c' ∧ q = q' ∧ d = d')) W := by
  unfold key2
  obtain ⟨i, hi⟩ : ∃ i, Try.prog.info? 68 = some i := info_of_underlying (by kernel_rfl : Try.prog.underlying 68 = some (.struct (Try.prog.fieldsOf 68)))
  rw [run_equalIn_array (w := W) (n + 2) _ _ (by kernel_rfl : Try.prog.underlying 73 = some (.array 2 68)) hi]
  have hc : Try.prog.cellsOf 68 = 2 := by kernel_rfl
  rw [hc]
  have p1 := fun a b c d => (part_list W a b c d).1
  have p2 := fun a b c d => (part_list W a b c d).2
  have e1 := eq_key n W p p' c c' hp hp'
  have e2 := eq_key n W q q' d d' hq hq'
  unfold keyV at e1 e2
  by_cases h1 : p = p' ∧ c = c'
  · rw [decide_eq_true h1] at e1
    by_cases h2 : q = q' ∧ d = d'
    · rw [decide_eq_true h2] at e2
      have h3 : p = p' ∧ c = c' ∧ q = q' ∧ d = d' := ⟨h1.1, h1.2, h2.1, h2.2⟩
      rw [decide_eq_true h3]
      simp [List.range, List.range.loop, Op.eqItems, p1, p2, e1, e2]
    · rw [decide_eq_false h2] at e2
      have h3 : ¬ (p = p' ∧ c = c' ∧ q = q' ∧ d = d') := fun h => h2 ⟨h.2.2.1, h.2.2.2⟩
      rw [decide_eq_false h3]
      simp [List.range, List.range.loop, Op.eqItems, p1, p2, e1, e2]
  · rw [decide_eq_false h1] at e1
    have h3 : ¬ (p = p' ∧ c = c' ∧ q = q' ∧ d = d') := fun h => h1 ⟨h.1, h.2.1⟩
    rw [decide_eq_false h3]
    simp [List.range, List.range.loop, Op.eqItems, p1, e1]

theorem check_key2 (em : Bool) (n : Nat) (W : World) (p q : Addr) (c d : Nat) : (Instr.checkKey em (n + 3) 73 (key2 p c q d)).run Try.prog W = .ok () W := by
  unfold key2
  rw [Instr.checkKey]
  have hu : Try.prog.underlying 73 = some (.array 2 68) := by kernel_rfl
  have hz : (sizeOf 68).run Try.prog W = .ok 2 W := by kernel_rfl
  have p1 := fun a b c d => (part_list W a b c d).1
  have p2 := fun a b c d => (part_list W a b c d).2
  have k1 := check_key em n W p c
  have k2 := check_key em n W q d
  unfold keyV at k1 k2
  simp only [Sem.run_bind, run_underlying hu, Result.andThen_ok]
  simp [Std.Legacy.Range.forIn_eq_forIn_range', Std.Legacy.Range.size, List.range', hz, p1, p2, k1, k2]

/-- What a map of pairs holds. -/
def Ents2 (w : World) : List MapEntry → List (Addr × Nat × Addr × Nat) → Prop
  | [], M => M = []
  | e :: es, M => ∃ p c q d M', M = (p, c, q, d) :: M' ∧ e.key = key2 p c q d ∧ e.val = .agg #[] ∧ Unf w p.block ∧ Unf w q.block ∧ Ents2 w es M'

theorem find_asking2 (W : World) (p q : Addr) (c d : Nat) (hp : Unf W p.block) (hq : Unf W q.block) : ∀ (es : List MapEntry) (M : List (Addr × Nat × Addr × Nat)) (i : Nat), Ents2 W es M →
    ((Instr.findAsking 73 (key2 p c q d) es i).run Try.prog W = .ok none W) ∨
    ∃ j, (Instr.findAsking 73 (key2 p c q d) es i).run Try.prog W = .ok (some (i + j, .agg #[])) W ∧ M[j]? = some (p, c, q, d) ∧ j < es.length
  | [], M, i, h => by
    exact .inl (by simp [Instr.findAsking])
  | e :: es, M, i, h => by
    obtain ⟨p', c', q', d', M', rfl, hk, hv, hu, hu', hr⟩ := h
    have he := eq_key2 9997 W p q p' q' c d c' d' hp hq hu hu'
    have he' : (Op.equal 73 (key2 p c q d) e.key).run Try.prog W = .ok (decide (p = p' ∧ c = c' ∧ q = q' ∧ d = d')) W := by rw [hk]; exact he
    by_cases hq2 : p = p' ∧ c = c' ∧ q = q' ∧ d = d'
    · obtain ⟨rfl, rfl, rfl, rfl⟩ := hq2
      refine .inr ⟨0, ?_, rfl, by simp⟩
      simp [Instr.findAsking, he', hv]
    · rcases find_asking2 W p q c d hp hq es M' (i + 1) hr with h1 | ⟨j, h1, h2, h3⟩
      · exact .inl (by simp [Instr.findAsking, he', hq2, h1])
      · refine .inr ⟨j + 1, ?_, by simpa using h2, by simp; omega⟩
        simp [Instr.findAsking, he', hq2, h1, Nat.add_assoc, Nat.add_comm 1 j]

theorem find_key2 (W : World) (p q : Addr) (c d : Nat) (hp : Unf W p.block) (hq : Unf W q.block) (es : List MapEntry) (M : List (Addr × Nat × Addr × Nat)) (h : Ents2 W es M) :
    ((Instr.findKey 73 (key2 p c q d) es).run Try.prog W = .ok none W) ∨
    ∃ j, (Instr.findKey 73 (key2 p c q d) es).run Try.prog W = .ok (some (j, .agg #[])) W ∧ M[j]? = some (p, c, q, d) ∧ j < es.length := by
  have hu : Try.prog.underlying 73 = some (.array 2 68) := by kernel_rfl
  have hf : (Instr.findKey 73 (key2 p c q d) es).run Try.prog W = (Instr.findAsking 73 (key2 p c q d) es 0).run Try.prog W := by
    cases es with
    | nil => simp [Instr.findKey, run_underlying hu, Instr.findNow, Instr.findAsking]
    | cons e es => simp [Instr.findKey, run_underlying hu, Instr.findNow, Instr.sameNow]
  rw [hf]
  rcases find_asking2 W p q c d hp hq es M 0 h with h | ⟨j, h1, h2, h3⟩
  · exact .inl h
  · exact .inr ⟨j, by simpa using h1, h2, h3⟩

/-- Block b is a map of pairs that holds M. -/
def PrMap (w : World) (b : Nat) (M : List (Addr × Nat × Addr × Nat)) : Prop := ∃ es clock, w.heap[b]? = some (.map es clock) ∧ Ents2 w es.toList M

theorem lookup_pr (W : World) (b : Nat) (M : List (Addr × Nat × Addr × Nat)) (hm : PrMap W b M) (p q : Addr) (c d : Nat) (hp : Unf W p.block) (hq : Unf W q.block) :
    ∃ r : Bool, (Instr.lookup 58 (.map (some b)) (key2 p c q d) true).run Try.prog W = .ok (.tuple #[.agg #[], .bool r]) W ∧ (r = true → (p, c, q, d) ∈ M) := by
  obtain ⟨es, clock, hb, he⟩ := hm
  have hu : Try.prog.underlying 58 = some (.map 73 74) := by kernel_rfl
  have hz : (zeroValue 74).run Try.prog W = .ok (.agg #[]) W := by kernel_rfl
  have hg := MapKept.run_getObj_map (P := Try.prog) hb
  have hck := check_key2 es.isEmpty 9997 W p q c d
  rcases find_key2 W p q c d hp hq es.toList M he with h1 | ⟨j, h1, h2, _⟩
  · refine ⟨false, ?_, fun h => by cases h⟩
    simp [Instr.lookup, run_underlying hu, hg, hck, h1, hz]
  · refine ⟨true, ?_, fun _ => List.mem_of_getElem? h2⟩
    simp [Instr.lookup, run_underlying hu, hg, hck, h1]

theorem Ents2.later {w w' : World} : ∀ (es : List MapEntry) (M : List (Addr × Nat × Addr × Nat)), Ents2 w es M → (∀ x ∈ M, w'.heap[x.1.block]? = w.heap[x.1.block]? ∧ w'.heap[x.2.2.1.block]? = w.heap[x.2.2.1.block]?) → Ents2 w' es M
  | [], _, h, _ => h
  | e :: es, M, h, hw => by
    obtain ⟨p, c, q, d, M', rfl, hk, hv, hu, hu', hr⟩ := h
    exact ⟨p, c, q, d, M', rfl, hk, hv, hu.of (hw (p, c, q, d) (by simp)).1, hu'.of (hw (p, c, q, d) (by simp)).2, Ents2.later es M' hr (fun x hx => hw x (by simp [hx]))⟩
theorem Ents2.unf {w : World} : ∀ (es : List MapEntry) (M : List (Addr × Nat × Addr × Nat)), Ents2 w es M → ∀ x ∈ M, Unf w x.1.block ∧ Unf w x.2.2.1.block
  | [], M, h, x, hx => by rw [show M = [] from h] at hx; cases hx
  | e :: es, M, h, x, hx => by
    obtain ⟨p, c, q, d, M', rfl, hk, hv, hu, hu', hr⟩ := h
    rcases List.mem_cons.1 hx with rfl | hx
    · exact ⟨hu, hu'⟩
    · exact Ents2.unf es M' hr x hx
theorem Ents2.snoc {w : World} {e : MapEntry} {p q : Addr} {c d : Nat} (hk : e.key = key2 p c q d) (hv : e.val = .agg #[]) (hu : Unf w p.block) (hu' : Unf w q.block) : ∀ (es : List MapEntry) (M : List (Addr × Nat × Addr × Nat)), Ents2 w es M → Ents2 w (es ++ [e]) (M ++ [(p, c, q, d)])
  | [], M, h => by rw [show M = [] from h]; exact ⟨p, c, q, d, [], rfl, hk, hv, hu, hu', rfl⟩
  | x :: es, M, h => by
    obtain ⟨p', c', q', d', M', rfl, a, b, u, u', hr⟩ := h
    exact ⟨p', c', q', d', _, rfl, a, b, u, u', Ents2.snoc hk hv hu hu' es M' hr⟩
theorem Ents2.put {w : World} {f : MapEntry → MapEntry} {p q : Addr} {c d : Nat} (hk : ∀ e, (f e).key = key2 p c q d) (hv : ∀ e, (f e).val = .agg #[]) (hu : Unf w p.block) (hu' : Unf w q.block) : ∀ (j : Nat) (es : List MapEntry) (M : List (Addr × Nat × Addr × Nat)), Ents2 w es M → Ents2 w (es.modify j f) (M.modify j (fun _ => (p, c, q, d)))
  | _, [], M, h => by rw [show M = [] from h]; simp [Ents2]
  | 0, x :: es, M, h => by
    obtain ⟨p', c', q', d', M', rfl, a, b, u, u', hr⟩ := h
    simp only [List.modify_zero_cons]
    exact ⟨p, c, q, d, M', rfl, hk x, hv x, hu, hu', hr⟩
  | j + 1, x :: es, M, h => by
    obtain ⟨p', c', q', d', M', rfl, a, b, u, u', hr⟩ := h
    simp only [List.modify_succ_cons]
    exact ⟨p', c', q', d', _, rfl, a, b, u, u', Ents2.put hk hv hu hu' j es M' hr⟩
theorem sameBits_key2 (n : Nat) (p q : Addr) (c d : Nat) : Instr.sameBits (n + 2) (key2 p c q d) (key2 p c q d) = true := by
  simp [key2, Instr.sameBits]

theorem update_pr (W : World) (b : Nat) (M : List (Addr × Nat × Addr × Nat)) (hm : PrMap W b M) (p q : Addr) (c d : Nat) (hp : Unf W p.block) (hq : Unf W q.block) :
    ∃ W' M', (Instr.mapUpdate 58 (.map (some b)) (key2 p c q d) (.agg #[])).run Try.prog W = .ok () W' ∧ PrMap W' b M' ∧ (∀ x ∈ M', x ∈ M ∨ x = (p, c, q, d)) ∧ W.grownBy W' (some b) := by
  obtain ⟨es, clock, hb, he⟩ := hm
  have hu : Try.prog.underlying 58 = some (.map 73 74) := by kernel_rfl
  have hg := MapKept.run_getObj_map (P := Try.prog) hb
  have hck := check_key2 false 9997 W p q c d
  have hgr : ∀ o, W.grownBy { W with heap := W.heap.setIfInBounds b o } (some b) := fun o => ⟨rfl, rfl, rfl, by simp, fun k hk hne => by
    have : k ≠ b := fun e => hne (by rw [e])
    simp [Ne.symm this]⟩
  have hent : ∀ o (es' : List MapEntry) (M' : List (Addr × Nat × Addr × Nat)), Ents2 W es' M' → Ents2 { W with heap := W.heap.setIfInBounds b o } es' M' := fun o es' M' h => by
    refine Ents2.later es' M' h (fun x hxm => ?_)
    obtain ⟨⟨c1, t1, h1⟩, ⟨c2, t2, h2⟩⟩ := Ents2.unf es' M' h x hxm
    have n1 : x.1.block ≠ b := fun e => by rw [e, hb] at h1; cases h1
    have n2 : x.2.2.1.block ≠ b := fun e => by rw [e, hb] at h2; cases h2
    simp [Ne.symm n1, Ne.symm n2]
  rcases find_key2 W p q c d hp hq es.toList M he with h1 | ⟨j, h1, h2, h3⟩
  · have hs := MapKept.run_setObj_map (P := Try.prog) (.map (es.push { key := key2 p c q d, val := .agg #[], born := clock }) (clock + 1)) hb
    have hsn : Ents2 W (es.push { key := key2 p c q d, val := .agg #[], born := clock }).toList (M ++ [(p, c, q, d)]) := by
      rw [Array.toList_push]; exact Ents2.snoc rfl rfl hp hq _ _ he
    refine ⟨{ W with heap := W.heap.setIfInBounds b (.map (es.push { key := key2 p c q d, val := .agg #[], born := clock }) (clock + 1)) }, M ++ [(p, c, q, d)], ?_, ⟨_, _, (MapKept.heap_set hb).1, hent _ _ _ hsn⟩, fun x hx => by simpa using hx, hgr _⟩
    simp [Instr.mapUpdate, run_underlying hu, hg, hck, h1, hs]
  · have hold : ((es[j]?).map (·.key)).getD (key2 p c q d) = key2 p c q d := by
      have H : ∀ (l : List MapEntry) (M : List (Addr × Nat × Addr × Nat)) (j : Nat), Ents2 W l M → M[j]? = some (p, c, q, d) → ((l[j]?).map (·.key)).getD (key2 p c q d) = key2 p c q d := by
        intro l
        induction l with
        | nil => intro M j h _; simp
        | cons e l ih =>
          intro M j h hM
          obtain ⟨p', c', q', d', M2, rfl, a, b2, u, u', hr⟩ := h
          cases j with
          | zero => simp at hM; obtain ⟨rfl, rfl, rfl, rfl⟩ := hM; simp [a]
          | succ j => simpa using ih M2 j hr (by simpa using hM)
      have := H es.toList M j he h2
      simpa using this
    have hst : (Instr.keyThatStays (key2 p c q d) (key2 p c q d)).run Try.prog W = .ok (key2 p c q d) W := by simp [Instr.keyThatStays, sameBits_key2 9998]
    have hs := MapKept.run_setObj_map (P := Try.prog) (.map (es.modify j fun e => { e with key := key2 p c q d, val := .agg #[] }) clock) hb
    have hsn : Ents2 W (es.modify j fun e => { e with key := key2 p c q d, val := .agg #[] }).toList (M.modify j (fun _ => (p, c, q, d))) := by
      rw [Array.toList_modify]; exact Ents2.put (fun _ => rfl) (fun _ => rfl) hp hq j _ _ he
    refine ⟨{ W with heap := W.heap.setIfInBounds b (.map (es.modify j fun e => { e with key := key2 p c q d, val := .agg #[] }) clock) }, M.modify j (fun _ => (p, c, q, d)), ?_, ⟨_, _, (MapKept.heap_set hb).1, hent _ _ _ hsn⟩, fun x hx => ?_, hgr _⟩
    · simp [Instr.mapUpdate, run_underlying hu, hg, hck, h1, hold, hst, hs]
    · obtain ⟨i, hi⟩ := List.mem_iff_getElem?.1 hx
      rw [List.getElem?_modify] at hi
      split at hi
      · cases hq2 : M[i]? with
        | none => rw [hq2] at hi; simp at hi
        | some y => rw [hq2] at hi; simp at hi; exact .inr hi.symm
      · exact .inl (List.mem_of_getElem? (by simpa using hi))
end Go.Proofs.Ytaojcbdljgcfgaa
