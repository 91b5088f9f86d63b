/- Maps whose keys are places of lists: a pointer and a count. Maps whose keys are pairs of places of lists. vidimusref03.Same. codec.place, levels.right, Right. pairs.same, codec.Same. -/
import Derived.Test.YtpkkdjmcabefbaaDoorDCod
import Derived.MapKept
import Derived.LaidEql
import Derived.Laws.StructEq
import Derived.WideLaws
import Derived.ChangeKeysEq
import Derived.Test.YtpkkdjmcabefbaaDoorDCodR
import Derived.Deep.RegionHeld3
import Derived.Carry
import Derived.Test.YtpkkdjmcabefbaaDoorDLib
import Derived.Deep.DeepCutAuto
import Derived.BigRegion
namespace Go.Proofs.YtpkkdjmcabefbaaDoor.Cod
open Go.RowKit

def keyV (p : Addr) (c : Nat) : Value := .agg #[.pointer (some p), .int .i64 c]

theorem part_ptr (xs : Array Value) (off : Nat) (v : Value) (W : World) (h : xs[off]? = some v) : (part 106 xs off).run Tryd.prog W = .ok v W := by
  simp [part, isAgg, run_underlying Tryd.underlying106, h]
theorem part_int (xs : Array Value) (off : Nat) (v : Value) (W : World) (h : xs[off]? = some v) : (part 3 xs off).run Tryd.prog W = .ok v W := by
  simp [part, isAgg, run_underlying Tryd.underlying3, h]

theorem eq_ptr (d : Nat) (W : World) (p q : Addr) (hp : Unf W p.block) (hq : Unf W q.block) : (Op.equalIn (d + 1) 106 (.pointer (some p)) (.pointer (some q))).run Tryd.prog W = .ok (decide (p = q)) W := by
  have hz : (sizeOf 46).run Tryd.prog W = .ok 4 W := by kernel_rfl
  by_cases h : p = q
  · subst h
    simp [Op.equalIn, run_underlying Tryd.underlying106, hz, run_sameAddr_same]
  · obtain ⟨ca, ta, ha⟩ := hp
    obtain ⟨cb, tb, hb⟩ := hq
    simp [Op.equalIn, run_underlying Tryd.underlying106, hz, run_sameAddr_other W h ha hb, h]

theorem eq_key (d : Nat) (W : World) (p q : Addr) (c e : Nat) (hp : Unf W p.block) (hq : Unf W q.block) : (Op.equalIn (d + 2) 108 (keyV p c) (keyV q e)).run Tryd.prog W = .ok (decide (p = q ∧ c = e)) W := by
  unfold keyV
  rw [run_equalIn_struct W (d + 1) 108 _ _ (by kernel_rfl) (by kernel_rfl)]
  have hf : ∃ n1 n2, (Tryd.prog.fieldsOf 108).toList = [n1, n2] ∧ n1.name ≠ "_" ∧ n2.name ≠ "_" ∧ n1.type = 106 ∧ n2.type = 3 ∧ n1.offset = 0 ∧ n2.offset = 1 := ⟨(Tryd.prog.fieldsOf 108)[0]!, (Tryd.prog.fieldsOf 108)[1]!, by kernel_rfl, of_decide_eq_true (by kernel_rfl), of_decide_eq_true (by kernel_rfl), by kernel_rfl, by kernel_rfl, by kernel_rfl, by kernel_rfl⟩
  obtain ⟨n1, n2, hf, h1, h2, t1, t2, o1, o2⟩ := hf
  rw [hf]
  have e1 := eq_ptr d W p q hp hq
  have e2 := run_equalIn_int W d 3 .i64 .i64 (c : Int) (e : Int) Tryd.underlying3
  simp only [Op.eqFields, h1, h2, t1, t2, o1, o2, ne_eq, not_false_eq_true, if_true]
  have q1 : ∀ (v w : Value), (part 106 #[v, w] 0).run Tryd.prog W = .ok v W := fun v w => part_ptr _ _ _ _ rfl
  have q2 : ∀ (v w : Value), (part 3 #[v, w] 1).run Tryd.prog W = .ok w W := fun v w => part_int _ _ _ _ rfl
  by_cases h : p = q
  · subst h
    have e1' : (Op.equalIn (d + 1) 106 (.pointer (some p)) (.pointer (some p))).run Tryd.prog W = .ok true W := by simpa using e1
    by_cases h' : c = e
    · subst h'
      have e2' : (Op.equalIn (d + 1) 3 (.int .i64 (c : Int)) (.int .i64 (c : Int))).run Tryd.prog W = .ok true W := by simpa using e2
      simp [q1, q2, e1', e2', Sem.run_ite]
    · have hb : ((c : Int) == (e : Int)) = false := by simp; omega
      rw [hb] at e2
      simp [q1, q2, e1', e2, h', Sem.run_ite]
  · have e1' : (Op.equalIn (d + 1) 106 (.pointer (some p)) (.pointer (some q))).run Tryd.prog W = .ok false W := by simpa [h] using e1
    simp [q1, e1', h]

theorem check_key (em : Bool) (n : Nat) (W : World) (p : Addr) (c : Nat) : (Instr.checkKey em (n + 2) 108 (keyV p c)).run Tryd.prog W = .ok () W := by
  unfold keyV Instr.checkKey
  have hu : Tryd.prog.underlying 108 = some (.struct (Tryd.prog.fieldsOf 108)) := by kernel_rfl
  have hf : ∃ n1 n2, (Tryd.prog.fieldsOf 108).toList = [n1, n2] ∧ n1.name ≠ "_" ∧ n2.name ≠ "_" ∧ n1.type = 106 ∧ n2.type = 3 ∧ n1.offset = 0 ∧ n2.offset = 1 := ⟨(Tryd.prog.fieldsOf 108)[0]!, (Tryd.prog.fieldsOf 108)[1]!, by kernel_rfl, of_decide_eq_true (by kernel_rfl), of_decide_eq_true (by kernel_rfl), by kernel_rfl, by kernel_rfl, by kernel_rfl, by kernel_rfl⟩
  obtain ⟨n1, n2, hf, h1, h2, t1, t2, o1, o2⟩ := hf
  simp only [Sem.run_bind, run_underlying hu, Result.andThen_ok]
  rw [← Array.forIn_toList, hf]
  have q1 : ∀ (v w : Value), (part 106 #[v, w] 0).run Tryd.prog W = .ok v W := fun v w => part_ptr _ _ _ _ rfl
  have q2 : ∀ (v w : Value), (part 3 #[v, w] 1).run Tryd.prog W = .ok w W := fun v w => part_int _ _ _ _ rfl
  have k1 : (Instr.checkKey em (n + 1) 106 (.pointer (some p))).run Tryd.prog W = .ok () W := by simp [Instr.checkKey, run_underlying Tryd.underlying106]
  have k2 : (Instr.checkKey em (n + 1) 3 (.int .i64 c)).run Tryd.prog W = .ok () W := by simp [Instr.checkKey, run_underlying Tryd.underlying3]
  simp [h1, h2, t1, t2, o1, o2, q1, q2, k1, k2]

/-- What a map of lists' levels holds: place, count, level. -/
def Ents (w : World) : List MapEntry → List (Addr × Nat × Int) → Prop
  | [], M => M = []
  | e :: es, M => ∃ p c l M', M = (p, c, l) :: M' ∧ e.key = keyV p c ∧ e.val = .int .i64 l ∧ Unf w p.block ∧ Ents w es M'

theorem find_asking (W : World) (p : Addr) (c : Nat) (hp : Unf W p.block) : ∀ (es : List MapEntry) (M : List (Addr × Nat × Int)) (i : Nat), Ents W es M →
    ((Instr.findAsking 108 (keyV p c) es i).run Tryd.prog W = .ok none W ∧ ∀ l, (p, c, l) ∉ M) ∨
    ∃ j l, (Instr.findAsking 108 (keyV p c) es i).run Tryd.prog W = .ok (some (i + j, .int .i64 l)) W ∧ M[j]? = some (p, c, l) ∧ j < es.length
  | [], M, i, h => by
    rw [show M = [] from h]
    exact .inl ⟨by simp [Instr.findAsking], by simp⟩
  | e :: es, M, i, h => by
    obtain ⟨q, d, l, M', rfl, hk, hv, hu, hr⟩ := h
    have he := eq_key 9998 W p q c d hp hu
    have he' : (Op.equal 108 (keyV p c) e.key).run Tryd.prog W = .ok (decide (p = q ∧ c = d)) W := by rw [hk]; exact he
    by_cases hq : p = q ∧ c = d
    · obtain ⟨rfl, rfl⟩ := hq
      refine .inr ⟨0, l, ?_, rfl, by simp⟩
      simp [Instr.findAsking, he', hv]
    · rcases find_asking W p c hp es M' (i + 1) hr with ⟨h1, h2⟩ | ⟨j, l', h1, h2, h3⟩
      · refine .inl ⟨by simp [Instr.findAsking, he', hq, h1], fun l' hm => ?_⟩
        rcases List.mem_cons.1 hm with hm | hm
        · injection hm with a b; injection b with b _; exact hq ⟨a, b⟩
        · exact h2 l' hm
      · refine .inr ⟨j + 1, l', ?_, by simpa using h2, by simp; omega⟩
        simp [Instr.findAsking, he', hq, h1, Nat.add_assoc, Nat.add_comm 1 j]

theorem find_key (W : World) (p : Addr) (c : Nat) (hp : Unf W p.block) (es : List MapEntry) (M : List (Addr × Nat × Int)) (h : Ents W es M) :
    ((Instr.findKey 108 (keyV p c) es).run Tryd.prog W = .ok none W ∧ ∀ l, (p, c, l) ∉ M) ∨
    ∃ j l, (Instr.findKey 108 (keyV p c) es).run Tryd.prog W = .ok (some (j, .int .i64 l)) W ∧ M[j]? = some (p, c, l) ∧ j < es.length := by
  have hu : Tryd.prog.underlying 108 = some (.struct (Tryd.prog.fieldsOf 108)) := by kernel_rfl
  have hf : (Instr.findKey 108 (keyV p c) es).run Tryd.prog W = (Instr.findAsking 108 (keyV p c) es 0).run Tryd.prog W := by
    cases es with
    | nil => simp [Instr.findKey, run_underlying hu, Instr.findNow, Instr.findAsking]
    | cons e es => simp [Instr.findKey, run_underlying hu, Instr.findNow, Instr.sameNow]
  rw [hf]
  rcases find_asking W p c hp es M 0 h with h | ⟨j, l, h1, h2, h3⟩
  · exact .inl h
  · exact .inr ⟨j, l, by simpa using h1, h2, h3⟩


end Go.Proofs.YtpkkdjmcabefbaaDoor.Cod
namespace Go.Proofs.YtpkkdjmcabefbaaDoor.Cod
open Go.RowKit

def key2 (p : Addr) (c : Nat) (q : Addr) (d : Nat) : Value := .agg #[.pointer (some p), .int .i64 c, .pointer (some q), .int .i64 d]
theorem part_list (W : World) (a b c d : Value) : (part 108 #[a, b, c, d] 0).run Tryd.prog W = .ok (.agg #[a, b]) W ∧ (part 108 #[a, b, c, d] 2).run Tryd.prog W = .ok (.agg #[c, d]) W := by
  have hu : Tryd.prog.underlying 108 = some (.struct (Tryd.prog.fieldsOf 108)) := by kernel_rfl
  constructor <;> simp [part, isAgg, run_underlying hu] <;> rfl

theorem eq_key2 (n : Nat) (W : World) (p q p' q' : Addr) (c d c' d' : Nat) (hp : Unf W p.block) (hq : Unf W q.block) (hp' : Unf W p'.block) (hq' : Unf W q'.block) :
    (Op.equalIn (n + 3) 110 (key2 p c q d) (key2 p' c' q' d')).run Tryd.prog W = .ok (decide (p = p' ∧ c = c' ∧ q = q' ∧ d = d')) W := by
  unfold key2
  obtain ⟨i, hi⟩ : ∃ i, Tryd.prog.info? 108 = some i := info_of_underlying (by kernel_rfl : Tryd.prog.underlying 108 = some (.struct (Tryd.prog.fieldsOf 108)))
  rw [run_equalIn_array (w := W) (n + 2) _ _ (by kernel_rfl : Tryd.prog.underlying 110 = some (.array 2 108)) hi]
  have hc : Tryd.prog.cellsOf 108 = 2 := by kernel_rfl
  rw [hc]
  have p1 := fun a b c d => (part_list W a b c d).1
  have p2 := fun a b c d => (part_list W a b c d).2
  have e1 := eq_key n W p p' c c' hp hp'
  have e2 := eq_key n W q q' d d' hq hq'
  unfold keyV at e1 e2
  by_cases h1 : p = p' ∧ c = c'
  · rw [decide_eq_true h1] at e1
    by_cases h2 : q = q' ∧ d = d'
    · rw [decide_eq_true h2] at e2
      have h3 : p = p' ∧ c = c' ∧ q = q' ∧ d = d' := ⟨h1.1, h1.2, h2.1, h2.2⟩
      rw [decide_eq_true h3]
      simp [List.range, List.range.loop, Op.eqItems, p1, p2, e1, e2]
    · rw [decide_eq_false h2] at e2
      have h3 : ¬ (p = p' ∧ c = c' ∧ q = q' ∧ d = d') := fun h => h2 ⟨h.2.2.1, h.2.2.2⟩
      rw [decide_eq_false h3]
      simp [List.range, List.range.loop, Op.eqItems, p1, p2, e1, e2]
  · rw [decide_eq_false h1] at e1
    have h3 : ¬ (p = p' ∧ c = c' ∧ q = q' ∧ d = d') := fun h => h1 ⟨h.1, h.2.1⟩
    rw [decide_eq_false h3]
    simp [List.range, List.range.loop, Op.eqItems, p1, e1]

theorem check_key2 (em : Bool) (n : Nat) (W : World) (p q : Addr) (c d : Nat) : (Instr.checkKey em (n + 3) 110 (key2 p c q d)).run Tryd.prog W = .ok () W := by
  unfold key2
  rw [Instr.checkKey]
  have hu : Tryd.prog.underlying 110 = some (.array 2 108) := by kernel_rfl
  have hz : (sizeOf 108).run Tryd.prog W = .ok 2 W := by kernel_rfl
  have p1 := fun a b c d => (part_list W a b c d).1
  have p2 := fun a b c d => (part_list W a b c d).2
  have k1 := check_key em n W p c
  have k2 := check_key em n W q d
  unfold keyV at k1 k2
  simp only [Sem.run_bind, run_underlying hu, Result.andThen_ok]
  simp [Std.Legacy.Range.forIn_eq_forIn_range', Std.Legacy.Range.size, List.range', hz, p1, p2, k1, k2]

/-- What a map of pairs holds. -/
def Ents2 (w : World) : List MapEntry → List (Addr × Nat × Addr × Nat) → Prop
  | [], M => M = []
  | e :: es, M => ∃ p c q d M', M = (p, c, q, d) :: M' ∧ e.key = key2 p c q d ∧ e.val = .agg #[] ∧ Unf w p.block ∧ Unf w q.block ∧ Ents2 w es M'

theorem find_asking2 (W : World) (p q : Addr) (c d : Nat) (hp : Unf W p.block) (hq : Unf W q.block) : ∀ (es : List MapEntry) (M : List (Addr × Nat × Addr × Nat)) (i : Nat), Ents2 W es M →
    ((Instr.findAsking 110 (key2 p c q d) es i).run Tryd.prog W = .ok none W) ∨
    ∃ j, (Instr.findAsking 110 (key2 p c q d) es i).run Tryd.prog W = .ok (some (i + j, .agg #[])) W ∧ M[j]? = some (p, c, q, d) ∧ j < es.length
  | [], M, i, h => by
    exact .inl (by simp [Instr.findAsking])
  | e :: es, M, i, h => by
    obtain ⟨p', c', q', d', M', rfl, hk, hv, hu, hu', hr⟩ := h
    have he := eq_key2 9997 W p q p' q' c d c' d' hp hq hu hu'
    have he' : (Op.equal 110 (key2 p c q d) e.key).run Tryd.prog W = .ok (decide (p = p' ∧ c = c' ∧ q = q' ∧ d = d')) W := by rw [hk]; exact he
    by_cases hq2 : p = p' ∧ c = c' ∧ q = q' ∧ d = d'
    · obtain ⟨rfl, rfl, rfl, rfl⟩ := hq2
      refine .inr ⟨0, ?_, rfl, by simp⟩
      simp [Instr.findAsking, he', hv]
    · rcases find_asking2 W p q c d hp hq es M' (i + 1) hr with h1 | ⟨j, h1, h2, h3⟩
      · exact .inl (by simp [Instr.findAsking, he', hq2, h1])
      · refine .inr ⟨j + 1, ?_, by simpa using h2, by simp; omega⟩
        simp [Instr.findAsking, he', hq2, h1, Nat.add_assoc, Nat.add_comm 1 j]

theorem find_key2 (W : World) (p q : Addr) (c d : Nat) (hp : Unf W p.block) (hq : Unf W q.block) (es : List MapEntry) (M : List (Addr × Nat × Addr × Nat)) (h : Ents2 W es M) :
    ((Instr.findKey 110 (key2 p c q d) es).run Tryd.prog W = .ok none W) ∨
    ∃ j, (Instr.findKey 110 (key2 p c q d) es).run Tryd.prog W = .ok (some (j, .agg #[])) W ∧ M[j]? = some (p, c, q, d) ∧ j < es.length := by
  have hu : Tryd.prog.underlying 110 = some (.array 2 108) := by kernel_rfl
  have hf : (Instr.findKey 110 (key2 p c q d) es).run Tryd.prog W = (Instr.findAsking 110 (key2 p c q d) es 0).run Tryd.prog W := by
    cases es with
    | nil => simp [Instr.findKey, run_underlying hu, Instr.findNow, Instr.findAsking]
    | cons e es => simp [Instr.findKey, run_underlying hu, Instr.findNow, Instr.sameNow]
  rw [hf]
  rcases find_asking2 W p q c d hp hq es M 0 h with h | ⟨j, h1, h2, h3⟩
  · exact .inl h
  · exact .inr ⟨j, by simpa using h1, h2, h3⟩

/-- Block b is a map of pairs that holds M. -/
def PrMap (w : World) (b : Nat) (M : List (Addr × Nat × Addr × Nat)) : Prop := ∃ es clock, w.heap[b]? = some (.map es clock) ∧ Ents2 w es.toList M

theorem lookup_pr (W : World) (b : Nat) (M : List (Addr × Nat × Addr × Nat)) (hm : PrMap W b M) (p q : Addr) (c d : Nat) (hp : Unf W p.block) (hq : Unf W q.block) :
    ∃ r : Bool, (Instr.lookup 89 (.map (some b)) (key2 p c q d) true).run Tryd.prog W = .ok (.tuple #[.agg #[], .bool r]) W ∧ (r = true → (p, c, q, d) ∈ M) := by
  obtain ⟨es, clock, hb, he⟩ := hm
  have hu : Tryd.prog.underlying 89 = some (.map 110 111) := by kernel_rfl
  have hz : (zeroValue 111).run Tryd.prog W = .ok (.agg #[]) W := by kernel_rfl
  have hg := MapKept.run_getObj_map (P := Tryd.prog) hb
  have hck := check_key2 es.isEmpty 9997 W p q c d
  rcases find_key2 W p q c d hp hq es.toList M he with h1 | ⟨j, h1, h2, _⟩
  · refine ⟨false, ?_, fun h => by cases h⟩
    simp [Instr.lookup, run_underlying hu, hg, hck, h1, hz]
  · refine ⟨true, ?_, fun _ => List.mem_of_getElem? h2⟩
    simp [Instr.lookup, run_underlying hu, hg, hck, h1]

theorem Ents2.later {w w' : World} : ∀ (es : List MapEntry) (M : List (Addr × Nat × Addr × Nat)), Ents2 w es M → (∀ x ∈ M, w'.heap[x.1.block]? = w.heap[x.1.block]? ∧ w'.heap[x.2.2.1.block]? = w.heap[x.2.2.1.block]?) → Ents2 w' es M
  | [], _, h, _ => h
  | e :: es, M, h, hw => by
    obtain ⟨p, c, q, d, M', rfl, hk, hv, hu, hu', hr⟩ := h
    exact ⟨p, c, q, d, M', rfl, hk, hv, hu.of (hw (p, c, q, d) (by simp)).1, hu'.of (hw (p, c, q, d) (by simp)).2, Ents2.later es M' hr (fun x hx => hw x (by simp [hx]))⟩
theorem Ents2.unf {w : World} : ∀ (es : List MapEntry) (M : List (Addr × Nat × Addr × Nat)), Ents2 w es M → ∀ x ∈ M, Unf w x.1.block ∧ Unf w x.2.2.1.block
  | [], M, h, x, hx => by rw [show M = [] from h] at hx; cases hx
  | e :: es, M, h, x, hx => by
    obtain ⟨p, c, q, d, M', rfl, hk, hv, hu, hu', hr⟩ := h
    rcases List.mem_cons.1 hx with rfl | hx
    · exact ⟨hu, hu'⟩
    · exact Ents2.unf es M' hr x hx
theorem Ents2.snoc {w : World} {e : MapEntry} {p q : Addr} {c d : Nat} (hk : e.key = key2 p c q d) (hv : e.val = .agg #[]) (hu : Unf w p.block) (hu' : Unf w q.block) : ∀ (es : List MapEntry) (M : List (Addr × Nat × Addr × Nat)), Ents2 w es M → Ents2 w (es ++ [e]) (M ++ [(p, c, q, d)])
  | [], M, h => by rw [show M = [] from h]; exact ⟨p, c, q, d, [], rfl, hk, hv, hu, hu', rfl⟩
  | x :: es, M, h => by
    obtain ⟨p', c', q', d', M', rfl, a, b, u, u', hr⟩ := h
    exact ⟨p', c', q', d', _, rfl, a, b, u, u', Ents2.snoc hk hv hu hu' es M' hr⟩
theorem Ents2.put {w : World} {f : MapEntry → MapEntry} {p q : Addr} {c d : Nat} (hk : ∀ e, (f e).key = key2 p c q d) (hv : ∀ e, (f e).val = .agg #[]) (hu : Unf w p.block) (hu' : Unf w q.block) : ∀ (j : Nat) (es : List MapEntry) (M : List (Addr × Nat × Addr × Nat)), Ents2 w es M → Ents2 w (es.modify j f) (M.modify j (fun _ => (p, c, q, d)))
  | _, [], M, h => by rw [show M = [] from h]; simp [Ents2]
  | 0, x :: es, M, h => by
    obtain ⟨p', c', q', d', M', rfl, a, b, u, u', hr⟩ := h
    simp only [List.modify_zero_cons]
    exact ⟨p, c, q, d, M', rfl, hk x, hv x, hu, hu', hr⟩
  | j + 1, x :: es, M, h => by
    obtain ⟨p', c', q', d', M', rfl, a, b, u, u', hr⟩ := h
    simp only [List.modify_succ_cons]
    exact ⟨p', c', q', d', _, rfl, a, b, u, u', Ents2.put hk hv hu hu' j es M' hr⟩
theorem sameBits_key2 (n : Nat) (p q : Addr) (c d : Nat) : Instr.sameBits (n + 2) (key2 p c q d) (key2 p c q d) = true := by
  simp [key2, Instr.sameBits]

theorem update_pr (W : World) (b : Nat) (M : List (Addr × Nat × Addr × Nat)) (hm : PrMap W b M) (p q : Addr) (c d : Nat) (hp : Unf W p.block) (hq : Unf W q.block) :
    ∃ W' M', (Instr.mapUpdate 89 (.map (some b)) (key2 p c q d) (.agg #[])).run Tryd.prog W = .ok () W' ∧ PrMap W' b M' ∧ (∀ x ∈ M', x ∈ M ∨ x = (p, c, q, d)) ∧ W.grownBy W' (some b) := by
  obtain ⟨es, clock, hb, he⟩ := hm
  have hu : Tryd.prog.underlying 89 = some (.map 110 111) := by kernel_rfl
  have hg := MapKept.run_getObj_map (P := Tryd.prog) hb
  have hck := check_key2 false 9997 W p q c d
  have hgr : ∀ o, W.grownBy { W with heap := W.heap.setIfInBounds b o } (some b) := fun o => ⟨rfl, rfl, rfl, by simp, fun k hk hne => by
    have : k ≠ b := fun e => hne (by rw [e])
    simp [Ne.symm this]⟩
  have hent : ∀ o (es' : List MapEntry) (M' : List (Addr × Nat × Addr × Nat)), Ents2 W es' M' → Ents2 { W with heap := W.heap.setIfInBounds b o } es' M' := fun o es' M' h => by
    refine Ents2.later es' M' h (fun x hxm => ?_)
    obtain ⟨⟨c1, t1, h1⟩, ⟨c2, t2, h2⟩⟩ := Ents2.unf es' M' h x hxm
    have n1 : x.1.block ≠ b := fun e => by rw [e, hb] at h1; cases h1
    have n2 : x.2.2.1.block ≠ b := fun e => by rw [e, hb] at h2; cases h2
    simp [Ne.symm n1, Ne.symm n2]
  rcases find_key2 W p q c d hp hq es.toList M he with h1 | ⟨j, h1, h2, h3⟩
  · have hs := MapKept.run_setObj_map (P := Tryd.prog) (.map (es.push { key := key2 p c q d, val := .agg #[], born := clock }) (clock + 1)) hb
    have hsn : Ents2 W (es.push { key := key2 p c q d, val := .agg #[], born := clock }).toList (M ++ [(p, c, q, d)]) := by
      rw [Array.toList_push]; exact Ents2.snoc rfl rfl hp hq _ _ he
    refine ⟨{ W with heap := W.heap.setIfInBounds b (.map (es.push { key := key2 p c q d, val := .agg #[], born := clock }) (clock + 1)) }, M ++ [(p, c, q, d)], ?_, ⟨_, _, (MapKept.heap_set hb).1, hent _ _ _ hsn⟩, fun x hx => by simpa using hx, hgr _⟩
    simp [Instr.mapUpdate, run_underlying hu, hg, hck, h1, hs]
  · have hold : ((es[j]?).map (·.key)).getD (key2 p c q d) = key2 p c q d := by
      have H : ∀ (l : List MapEntry) (M : List (Addr × Nat × Addr × Nat)) (j : Nat), Ents2 W l M → M[j]? = some (p, c, q, d) → ((l[j]?).map (·.key)).getD (key2 p c q d) = key2 p c q d := by
        intro l
        induction l with
        | nil => intro M j h _; simp
        | cons e l ih =>
          intro M j h hM
          obtain ⟨p', c', q', d', M2, rfl, a, b2, u, u', hr⟩ := h
          cases j with
          | zero => simp at hM; obtain ⟨rfl, rfl, rfl, rfl⟩ := hM; simp [a]
          | succ j => simpa using ih M2 j hr (by simpa using hM)
      have := H es.toList M j he h2
      simpa using this
    have hst : (Instr.keyThatStays (key2 p c q d) (key2 p c q d)).run Tryd.prog W = .ok (key2 p c q d) W := by simp [Instr.keyThatStays, sameBits_key2 9998]
    have hs := MapKept.run_setObj_map (P := Tryd.prog) (.map (es.modify j fun e => { e with key := key2 p c q d, val := .agg #[] }) clock) hb
    have hsn : Ents2 W (es.modify j fun e => { e with key := key2 p c q d, val := .agg #[] }).toList (M.modify j (fun _ => (p, c, q, d))) := by
      rw [Array.toList_modify]; exact Ents2.put (fun _ => rfl) (fun _ => rfl) hp hq j _ _ he
    refine ⟨{ W with heap := W.heap.setIfInBounds b (.map (es.modify j fun e => { e with key := key2 p c q d, val := .agg #[] }) clock) }, M.modify j (fun _ => (p, c, q, d)), ?_, ⟨_, _, (MapKept.heap_set hb).1, hent _ _ _ hsn⟩, fun x hx => ?_, hgr _⟩
    · simp [Instr.mapUpdate, run_underlying hu, hg, hck, h1, hold, hst, hs]
    · obtain ⟨i, hi⟩ := List.mem_iff_getElem?.1 hx
      rw [List.getElem?_modify] at hi
      split at hi
      · cases hq2 : M[i]? with
        | none => rw [hq2] at hi; simp at hi
        | some y => rw [hq2] at hi; simp at hi; exact .inr hi.symm
      · exact .inl (List.mem_of_getElem? (by simpa using hi))
end Go.Proofs.YtpkkdjmcabefbaaDoor.Cod
namespace Go.Proofs.YtpkkdjmcabefbaaDoor.Cod
open Go.RowKit

def F.eqB : F → F → Bool
  | .nil, .nil => true
  | .cons k n s c r, .cons k' n' s' c' r' => k == k' && (n == n' && (decide (s = s') && (c.eqB c' && r.eqB r')))
  | _, _ => false
theorem eqB_iff : ∀ f g : F, f.eqB g = true ↔ f = g
  | .nil, .nil => by simp [F.eqB]
  | .nil, .cons _ _ _ _ _ => by simp [F.eqB]
  | .cons _ _ _ _ _, .nil => by simp [F.eqB]
  | .cons k n s c r, .cons k' n' s' c' r' => by
    simp only [F.eqB, Bool.and_eq_true, beq_iff_eq, decide_eq_true_eq, eqB_iff c c', eqB_iff r r', F.cons.injEq]
theorem eqB_len : ∀ f g : F, f.eqB g = true → f.len = g.len := fun f g h => by rw [(eqB_iff f g).1 h]
def Nd.eqB (x y : Nd) : Bool := x.k == y.k && (x.n == y.n && (decide (x.s = y.s) && x.kids.eqB y.kids))
theorem ndEqB_iff (x y : Nd) : x.eqB y = true ↔ x = y := by
  cases x; cases y
  simp only [Nd.eqB, Bool.and_eq_true, beq_iff_eq, decide_eq_true_eq, eqB_iff, Nd.mk.injEq]

theorem drop_eqB : ∀ (f g : F) (i : Nat), f.len = g.len → i < f.len → ∃ k n s c k' n' s' c', f.drop i = .cons k n s c (f.drop (i + 1)) ∧ g.drop i = .cons k' n' s' c' (g.drop (i + 1)) := fun f g i h hi => by
  obtain ⟨k, n, s, c, h1⟩ := F.drop_at f i hi
  obtain ⟨k', n', s', c', h2⟩ := F.drop_at g i (by omega)
  exact ⟨k, n, s, c, k', n', s', c', h1, h2⟩
def SmRel (c c' : F) (rb : Bool) (B : Nat) (w1 : World) (i : Value) (wr : World) : Prop :=
  ∃ j : Nat, i = .int .i64 j ∧ j ≤ c.len ∧ Hid ((c.drop j).eqB (c'.drop j) = rb) ∧ Below B w1 wr

theorem heap_two (w : World) (o1 o2 : Obj) : ((w.alloc o1).alloc o2).heap[w.heap.size + 1]? = some o2 := by
  have := heap_alloc_new (w.alloc o1) o2
  simpa using this
theorem cellB {W w4 : World} (hb : Below W.drew.heap.size W.drew w4) {g o : Nat} {v : Value} (h : W.cell? ⟨g, o, none⟩ = some v) : w4.cell? ⟨g, o, none⟩ = some v := by
  have hlt := World.block_lt_of_cell? W _ h
  rw [hb.cell (p := ⟨g, o, none⟩) hlt]; exact h


end Go.Proofs.YtpkkdjmcabefbaaDoor.Cod
namespace Go.Proofs.YtpkkdjmcabefbaaDoor.Cod
open Go.RowKit

set_option maxRecDepth 30000 in
theorem place_prog (g o n cap : Nat) (w : World) (h0 : 0 < n) : Calls Tryd.prog 78 #[.slice (some ⟨g, o, none⟩) n cap] w fun e w' => e = .returned (.agg #[.pointer (some ⟨g, o, none⟩), .int .i64 n]) ∧ Below w.heap.size w w' := by
  have h1 : (0 : Int) < (n : Int) := by omega
  go_enter Tryd.func78, Tryd.ntmps78
  go_wp2
  exact bodyPost_ret (v := .agg #[.pointer (some ⟨g, o, none⟩), .int .i64 n]) (by simp [results, Tryd.results78, go_sem]) rfl ⟨rfl, (Below.refl _ _).alloc (Nat.le_refl _) _⟩

theorem right_mono : ∀ (f : F) (d e : Nat), d ≤ e → f.right d = true → f.right e = true := fun f d e h hr => by
  rw [right_iff] at hr ⊢
  simp only [Bool.and_eq_true, decide_eq_true_eq] at hr ⊢
  exact ⟨by omega, hr.2⟩

theorem lies_det {w : World} {S : Nat → Prop} : ∀ (f h : F) (g o : Nat), Lies w S f g o → Lies w S h g o → f.len = h.len → f = h
  | .nil, h, _, _, _, _, e => (F.len_zero e.symm).symm
  | .cons _ _ _ _ _, .nil, _, _, _, _, e => by simp [F.len] at e
  | .cons k n s c r, .cons k' n' s' c' r', g, o, h1, h2, e => by
    obtain ⟨⟨a1, a2, a3, v, a4, a5⟩, a6⟩ := h1
    obtain ⟨⟨b1, b2, b3, u, b4, b5⟩, b6⟩ := h2
    rw [a1] at b1; rw [a2] at b2; rw [a3] at b3; rw [a4] at b4
    injection b1 with b1; injection b1 with _ b1
    injection b2 with b2; injection b2 with _ b2
    injection b3 with b3; injection b3 with b3
    injection b4 with b4
    subst b1 b2 b3 b4
    have hr := lies_det r r' g (o + 4) a6 b6 (by simpa [F.len] using e)
    subst hr
    have hc : c = c' := by
      rcases a5 with ⟨e1, e2⟩ | ⟨g1, o1, cap1, e1, _, _, _, l1⟩
      · rcases b5 with ⟨e3, e4⟩ | ⟨g2, o2, cap2, e3, _, _, _, _⟩
        · rw [F.len_zero e2, F.len_zero e4]
        · rw [e1] at e3; cases e3
      · rcases b5 with ⟨e3, e4⟩ | ⟨g2, o2, cap2, e3, _, _, _, l2⟩
        · rw [e1] at e3; cases e3
        · rw [e1] at e3
          injection e3 with e5 e6 e7
          injection e5 with e5
          injection e5 with e5 e8
          subst e5 e8
          exact lies_det c c' g1 o1 l1 l2 e6
    rw [hc]

theorem block4' {w : World} {g : Nat} {a b c d : Value} {t : TypeId} (h : w.heap[g]? = some (.cells #[a, b, c, d] t (0, 0))) :
    w.cell? ⟨g, 0, none⟩ = some a ∧ w.cell? ⟨g, 1, none⟩ = some b ∧ w.cell? ⟨g, 2, none⟩ = some c ∧ w.cell? ⟨g, 3, none⟩ = some d ∧
    w.frozen? ⟨g, 0, none⟩ = false ∧ w.frozen? ⟨g, 1, none⟩ = false ∧ w.frozen? ⟨g, 2, none⟩ = false ∧ w.frozen? ⟨g, 3, none⟩ = false := by
  simp [World.cell?, World.frozen?, h]
/-- The block g is as it was. -/
theorem blockB {X w2 : World} {g B : Nat} {o : Obj} (hX : X.heap[g]? = some o) (hlt : g < B) (hb : Below B X w2) : w2.heap[g]? = some o := by rw [hb.block g hlt]; exact hX


theorem drop_size : ∀ (f : F) (i : Nat), (f.drop i).size ≤ f.size
  | f, 0 => by simp [F.drop]
  | .nil, i + 1 => by simp [F.drop]
  | .cons _ _ _ _ r, i + 1 => by have := drop_size r i; simp [F.drop, F.size]; omega

theorem grown_refl (w : World) (r : Option Nat) : w.grownBy w r := ⟨rfl, rfl, rfl, Nat.le_refl _, fun _ _ _ => rfl⟩
theorem grown_trans {a b c : World} {r : Option Nat} (h : a.grownBy b r) (k : b.grownBy c r) : a.grownBy c r :=
  ⟨k.os.trans h.os, k.tape.trans h.tape, k.output.trans h.output, Nat.le_trans h.size k.size, fun i hi hne => (k.block i (Nat.lt_of_lt_of_le hi h.size) hne).trans (h.block i hi hne)⟩
theorem grown_below {a b : World} {r : Option Nat} (h : Below a.heap.size a b) : a.grownBy b r := ⟨h.os, h.tape, h.output, h.size, fun k hk _ => h.block k hk⟩

end Go.Proofs.YtpkkdjmcabefbaaDoor.Cod
namespace Go.Proofs.YtpkkdjmcabefbaaDoor.Cod
open Go.RowKit

/-- Two lists that are known to be the same. -/
def GoodS (W0 : World) (B : Nat) (y : Addr × Nat × Addr × Nat) : Prop :=
  y.1.block < B ∧ y.2.2.1.block < B ∧ ∀ f h, Lies W0 (· < B) f y.1.block y.1.off → f.len = y.2.1 → Lies W0 (· < B) h y.2.2.1.block y.2.2.1.off → h.len = y.2.2.2 → f.eqB h = true
/-- .. or of which the first is too great to stand here. -/
def InvS (W0 : World) (B : Nat) (M : List (Addr × Nat × Addr × Nat)) (N : Nat) : Prop := ∀ y ∈ M, GoodS W0 B y ∨ (∀ f, Lies W0 (· < B) f y.1.block y.1.off → f.len = y.2.1 → N < f.size)
def SmRes (W0 : World) (B b : Nat) (M : List (Addr × Nat × Addr × Nat)) (r : Bool) (w : World) (e : Ending) (w' : World) : Prop :=
  e = .returned (.bool r) ∧ w.grownBy w' (some b) ∧ (r = true → ∃ M', PrMap w' b M' ∧ ∀ y ∈ M', y ∈ M ∨ GoodS W0 B y)
def PSameOk (D : Nat) : Prop := ∀ (W0 : World) (B b : Nat) (x y : Nd) (xv yv : Value) (M : List (Addr × Nat × Addr × Nat)) (w : World), x.kids.size < D → (∀ g, g < B → w.heap[g]? = W0.heap[g]?) → B ≤ b → b < w.heap.size →
  x.ok → KidsAt W0 (· < B) x.kids xv → KidsAt W0 (· < B) y.kids yv → PrMap w b M → InvS W0 B M x.kids.size →
  Calls Tryd.prog 64 #[.map (some b), nodeV x.k x.n x.s xv, nodeV y.k y.n y.s yv] w (SmRes W0 B b M (x.eqB y) w)

theorem pr_later {w w' : World} {b : Nat} {M : List (Addr × Nat × Addr × Nat)} (h : PrMap w b M) (hb : Below w.heap.size w w') : PrMap w' b M := by
  obtain ⟨es, clock, e, he⟩ := h
  refine ⟨es, clock, by rw [hb.block b (Array.getElem?_eq_some_iff.1 e).1]; exact e, Ents2.later _ _ he (fun x hx => ?_)⟩
  obtain ⟨⟨c1, t1, h1⟩, ⟨c2, t2, h2⟩⟩ := Ents2.unf _ _ he x hx
  exact ⟨hb.block _ (Array.getElem?_eq_some_iff.1 h1).1, hb.block _ (Array.getElem?_eq_some_iff.1 h2).1⟩
theorem cellG {W w4 : World} {b : Nat} (hg : W.drew.grownBy w4 (some b)) {g o : Nat} {v : Value} (hne : g ≠ b) (h : W.cell? ⟨g, o, none⟩ = some v) : w4.cell? ⟨g, o, none⟩ = some v :=
  hg.cell (w := W.drew) h (fun e => by have h' : g = b := Option.some.inj e; exact hne h')
/-- A whole array into a variable, at one step. -/
theorem wp_store_arr2 {P : Program} {op : Oper} {a : Act} {w : World} {K : Act → World → Prop} {Q : Exit → Act → World → Prop} {ty : TypeId} {n : Nat} (hi : (P.info? ty).map (·.size) = some n)
    (x y : Operand) (ho : op.op = .store ty x y) (g : Nat) (t : TypeId) (f0 f : Nat → Value) (hx : a.eval x = .pointer (some ⟨g, 0, none⟩)) (hy : a.eval y = .agg (arrL n f).toArray)
    (hr : w.rowIs g t n f0) (h1 : ∀ j, (f j).oneCell' = true)
    (h : ∀ w', w'.rowIs g t n f → Only g w w' → K (a.put op.dst undef) w') : op.wp P a w K Q := by
  have hb := rowIs_block hr
  refine wp_store_mid ty x y ho g 0 _ hx hy ?_ (by rw [hi]; simp [arrL]) (all_oneCell_toArray (by
    intro v hv; simp [arrL] at hv; obtain ⟨j, _, rfl⟩ := hv; exact h1 j)) ?_
  · intro j hj
    have hj' : j < n := by simpa [arrL] using hj
    rw [Nat.zero_add]
    exact ⟨by rw [hr.cell hj']; rfl, hr.frozen j⟩
  · obtain ⟨h2, h3⟩ := setCells_heap (arrL n f) w g 0 _ t hb (by simp [arrL])
    refine h _ (rowIs_of_block ?_) (by simpa using h3)
    have : (w.setCells g 0 (arrL n f).toArray.toList) = w.setCells g 0 (arrL n f) := by simp
    rw [this, h2]
    simp [arrL]

/-- A block laid anew, its world under a name. -/
theorem named {X : World} {o : Obj} {M : World → Prop} (h : ∀ W : World, W.heap[X.heap.size]? = some o → Below X.heap.size X W → X.heap.size + 1 ≤ W.heap.size → M W) : M (X.alloc o) :=
  h _ (heap_at_alloc X o) ((Below.refl _ _).alloc (Nat.le_refl _) o) (by simp)

/-- The cells of a pair of places. -/
def keyF (p : Addr) (c : Nat) (q : Addr) : Nat → Value
  | 0 => .pointer (some p)
  | 1 => .int .i64 c
  | 2 => .pointer (some q)
  | _ => .int .i64 c
def key0 : Nat → Value
  | 0 => .pointer none
  | 1 => .int .i64 0
  | 2 => .pointer none
  | _ => .int .i64 0
theorem key_one (p : Addr) (c : Nat) (q : Addr) (j : Nat) : (keyF p c q j).oneCell' = true := by
  unfold keyF; split <;> rfl
theorem accP {a w w' : World} (h : Below a.heap.size a w) (hb : Below w.heap.size w w') : Below a.heap.size a w' := h.trans (hb.mono h.size)
theorem blockP {W w4 : World} (hb : Below W.heap.size W w4) {g : Nat} {o : Obj} (h : W.heap[g]? = some o) : w4.heap[g]? = some o := by
  rw [hb.block g (Array.getElem?_eq_some_iff.1 h).1]; exact h
theorem cell_drew {W : World} {a : Addr} {v : Value} (h : W.cell? a = some v) : W.drew.cell? a = some v := h
theorem cellP {W w4 : World} (hb : Below W.heap.size W w4) {g o : Nat} {v : Value} (h : W.cell? ⟨g, o, none⟩ = some v) : w4.cell? ⟨g, o, none⟩ = some v := by
  have hlt := World.block_lt_of_cell? W _ h
  rw [hb.cell (p := ⟨g, o, none⟩) hlt]; exact h
def SmR (W0 : World) (B b : Nat) (M : List (Addr × Nat × Addr × Nat)) (y0 : Addr × Nat × Addr × Nat) (c c' : F) (rb : Bool) (w : World) (s63 : Value) (wr : World) : Prop :=
  ∃ (i : Nat) (Mi : List (Addr × Nat × Addr × Nat)), s63 = .int .i64 i ∧ i ≤ c.len ∧ Hid ((c.drop i).eqB (c'.drop i) = rb) ∧ Hid (PrMap wr b Mi) ∧ (∀ y ∈ Mi, y ∈ M ∨ y = y0 ∨ GoodS W0 B y) ∧ w.grownBy wr (some b)
def KeyRel (w1 : World) (p q : Addr) (L : Nat) (s7 : Value) (wx : World) : Prop :=
  ∃ g7, s7 = .pointer (some ⟨g7, 0, none⟩) ∧ w1.heap.size ≤ g7 ∧ wx.heap[g7]? = some (.cells #[.pointer (some p), .int .i64 L, .pointer (some q), .int .i64 L] 110 (0, 0)) ∧ Below w1.heap.size w1 wx

set_option maxRecDepth 30000 in
set_option maxHeartbeats 4000000 in
theorem psame_step (D : Nat) (IH : PSameOk D) : PSameOk (D + 1) := by
  rintro W0 B b ⟨k, n, s, c⟩ ⟨k', n', s', c'⟩ xv yv M w hD hag hBb hbw hok hx hy hM hI
  simp only at hD hok hx hy hI ⊢
  have HIH := Lib.hid IH
  have HAG := Lib.hid hag
  have HX := Lib.hid hx
  have HY := Lib.hid hy
  have HOK := Lib.hid hok
  have HM := Lib.hid hM
  have HI := Lib.hid hI
  obtain ⟨xa, xc, rfl⟩ := hx.shape
  obtain ⟨ya, yc, rfl⟩ := hy.shape
  obtain ⟨rb, hrb⟩ : ∃ rb, Nd.eqB ⟨k, n, s, c⟩ ⟨k', n', s', c'⟩ = rb := ⟨_, rfl⟩
  rw [hrb]
  have HRB := Lib.hid hrb
  have hgr0 : w.grownBy ((w.alloc (.cells #[.int .i64 k, .int .u64 n, .string s, .slice xa c.len xc] 46)).alloc (.cells #[.int .i64 k', .int .u64 n', .string s', .slice ya c'.len yc] 46)) (some b) := grown_trans (World.grownBy_alloc w _ _) (World.grownBy_alloc _ _ _)
  clear IH hx hy hok hrb hag hM hI
  unfold nodeV
  by_cases hk : k = k'
  · by_cases hn : n = n'
    · by_cases hs : s = s'
      · subst hk hn hs
        by_cases hl0 : c.len = c'.len
        · obtain ⟨L, hLx0⟩ : ∃ L, c.len = L := ⟨_, rfl⟩
          have hLy0 : c'.len = L := by omega
          rw [hLx0, hLy0] at hgr0 ⊢
          have hLx := Lib.hid hLx0
          have hLy := Lib.hid hLy0
          have hL1 : L < 268435456 := by rw [← hLx0]; exact HOK.out.2.2.1
          clear hLx0 hLy0 hl0
          have HR : Hid (c.eqB c' = rb) := Lib.hid (by rw [← HRB.out]; simp [Nd.eqB])
          rcases Nat.eq_zero_or_pos L with hc0 | hc0
          · have hr : Hid (rb = true) := Lib.hid (by
              rw [← HR.out, F.len_zero (by rw [hLx.out]; exact hc0 : c.len = 0), F.len_zero (by rw [hLy.out]; exact hc0 : c'.len = 0)]; rfl)
            have hne : ((L : Int) == 0) = true := by rw [hc0]; rfl
            have HM1 : Hid (PrMap ((w.alloc (.cells #[.int .i64 k, .int .u64 n, .string s, .slice xa L xc] 46)).alloc (.cells #[.int .i64 k, .int .u64 n, .string s, .slice ya L yc] 46)) b M) := Lib.hid (pr_later HM.out (((Below.refl _ w).alloc (Nat.le_refl _) _).alloc (by simp) _))
            have HC0 := Lib.hid hc0
            clear hc0
            go_enter Tryd.func64, Tryd.ntmps64
            go_wp2_with fail
            go_ret
            exact ⟨ret_bool hr.out.symm, hgr0, fun _ => ⟨M, HM1.out, fun y hy => .inl hy⟩⟩
          · obtain ⟨g, o, cap, hkv, hgB, hunf, hl⟩ := HX.out.unf (by rw [hLx.out]; exact hc0)
            injection hkv with e1 _ e2
            subst e1 e2
            obtain ⟨g', o', cap', hkv', hgB', hunf', hl'⟩ := HY.out.unf (by rw [hLy.out]; exact hc0)
            injection hkv' with e1' _ e2'
            subst e1' e2'
            have hne : ((L : Int) == 0) = false := by simp; omega
            have hcI : (0 : Int) < (L : Int) := by omega
            have hcI2 : (L : Int) ≤ 268435456 := by omega
            have HL := Lib.hid hl
            have HL' := Lib.hid hl'
            have HUN := Lib.hid hunf
            have HUN' := Lib.hid hunf'
            clear hl hl' hunf hunf'
            go_enter Tryd.func64, Tryd.ntmps64
            obtain ⟨w1, hw1⟩ : ∃ w1, w1 = (w.alloc (.cells #[.int .i64 k, .int .u64 n, .string s, .slice (some ⟨g, o, none⟩) L xc] 46)).alloc (.cells #[.int .i64 k, .int .u64 n, .string s, .slice (some ⟨g', o', none⟩) L yc] 46) := ⟨_, rfl⟩
            have hblx : w1.heap[w.heap.size]? = some (.cells #[.int .i64 k, .int .u64 n, .string s, .slice (some ⟨g, o, none⟩) L xc] 46 (0, 0)) := by rw [hw1, Below.heap_alloc _ _ _ (by simp)]; exact heap_alloc_new w _
            have hbly : w1.heap[w.heap.size + 1]? = some (.cells #[.int .i64 k, .int .u64 n, .string s, .slice (some ⟨g', o', none⟩) L yc] 46 (0, 0)) := by rw [hw1]; exact heap_two w _ _
            obtain ⟨x0, x1, x2, x3, _, _, _, _⟩ := block4' hblx
            obtain ⟨y0, y1, y2, y3, _, _, _, _⟩ := block4' hbly
            have hs1 : w1.heap.size = w.heap.size + 2 := by rw [hw1]; simp
            have HS1 := Lib.hid hs1
            have hb01 : Below w.heap.size w w1 := by rw [hw1]; exact ((Below.refl _ w).alloc (Nat.le_refl _) _).alloc (by simp) _
            have HM1 : Hid (PrMap w1 b M) := Lib.hid (pr_later HM.out hb01)
            rw [← hw1] at hgr0
            have HGR0 := Lib.hid hgr0
            have HB01 := Lib.hid hb01
            have HBX := Lib.hid hblx
            have HBY := Lib.hid hbly
            have hlx : w.heap.size < w1.heap.size := by omega
            have hly : w.heap.size + 1 < w1.heap.size := by omega
            clear hs1 hblx hbly hgr0 hb01
            go_upto_region 5 with (fail)
            rw [← hw1]
            clear hw1
            go_cut [7] (fun s7 wx => KeyRel w1 ⟨g, o, none⟩ ⟨g', o', none⟩ L s7 wx)
            case first =>
              refine wp_region_noPanic ?_
              refine wp_region_held_drew (S := fun w' => Below w1.heap.size w1 w') (by kernel_rfl) ((Below.refl _ _).drew) (fun hHeld => ?_)
              refine wpAnyH_take (i := 0) (v := .pointer (some ⟨w.heap.size, 3, none⟩)) rfl (by kernel_rfl) (by kernel_rfl) (by kernel_rfl) (fun _ _ _ h => h) (.inl ⟨rfl, fun (w' : World) (hS : Below w1.heap.size w1 w') => by go_simp⟩) hHeld ?_
              try simp only [Act.put, List.getElem_toArray, List.getElem_cons_zero, List.setIfInBounds_toArray, List.set_cons_zero, List.set_cons_succ]
              refine wpAnyH_take (i := 1) (v := .slice (some ⟨g, o, none⟩) L xc) rfl (by kernel_rfl) (by kernel_rfl) (by kernel_rfl) (fun _ _ _ h => h) (.inl ⟨rfl, fun (w' : World) (hS : Below w1.heap.size w1 w') => by
                    have x3' : w'.cell? ⟨w.heap.size, 3, none⟩ = some (.slice (some ⟨g, o, none⟩) L xc) := (hS.cell (p := ⟨w.heap.size, 3, none⟩) hlx).trans x3
                    go_simp⟩) hHeld ?_
              try simp only [Act.put, List.getElem_toArray, List.getElem_cons_zero, List.getElem_cons_succ, List.setIfInBounds_toArray, List.set_cons_zero, List.set_cons_succ]
              refine wpAnyH_take (i := 3) (v := .pointer (some ⟨w.heap.size + 1, 3, none⟩)) rfl (by kernel_rfl) (by kernel_rfl) (by kernel_rfl) (fun _ _ _ h => h) (.inl ⟨rfl, fun (w' : World) (hS : Below w1.heap.size w1 w') => by go_simp⟩) hHeld ?_
              try simp only [Act.put, List.getElem_toArray, List.getElem_cons_zero, List.getElem_cons_succ, List.setIfInBounds_toArray, List.set_cons_zero, List.set_cons_succ]
              refine wpAnyH_take (i := 4) (v := .slice (some ⟨g', o', none⟩) L yc) rfl (by kernel_rfl) (by kernel_rfl) (by kernel_rfl) (fun _ _ _ h => h) (.inl ⟨rfl, fun (w' : World) (hS : Below w1.heap.size w1 w') => by
                    have y3' : w'.cell? ⟨w.heap.size + 1, 3, none⟩ = some (.slice (some ⟨g', o', none⟩) L yc) := (hS.cell (p := ⟨w.heap.size + 1, 3, none⟩) hly).trans y3
                    go_simp⟩) hHeld ?_
              try simp only [Act.put, List.getElem_toArray, List.getElem_cons_zero, List.getElem_cons_succ, List.setIfInBounds_toArray, List.set_cons_zero, List.set_cons_succ]
              generalize w1.drew = V0 at hHeld ⊢
              have sz0 := hHeld.size
              refine wpAnyH_ready (rs := [2, 7]) (by kernel_rfl) (by simp) ?_
              refine AllReadyH.cons rfl (fun K hK => ?_) ?_
              ·
                try simp only [Act.put, List.getElem_toArray, List.getElem_cons_zero, List.getElem_cons_succ, List.setIfInBounds_toArray, List.set_cons_zero, List.set_cons_succ]
                go_simp
                go_at_call 78; refine (place_prog _ _ _ _ _ hc0).mono ?_; rintro e W1 ⟨rfl, hb2⟩
                go_wp2_with fail
                have H3 := hHeld.trans (hb2.mono hHeld.size)
                have sH3 := hb2.size
                refine hK.out _ _ H3 (fun _ => ?_)
                clear hK K
                try simp only [Act.put, List.getElem_toArray, List.getElem_cons_zero, List.getElem_cons_succ, List.setIfInBounds_toArray, List.set_cons_zero, List.set_cons_succ]
                refine wpAnyH_ready (rs := [5, 7]) (by kernel_rfl) (by simp) ?_
                refine AllReadyH.cons rfl (fun K hK => ?_) ?_
                ·
                  try simp only [Act.put, List.getElem_toArray, List.getElem_cons_zero, List.getElem_cons_succ, List.setIfInBounds_toArray, List.set_cons_zero, List.set_cons_succ]
                  go_simp
                  go_at_call 78; refine (place_prog _ _ _ _ _ hc0).mono ?_; rintro e W4 ⟨rfl, hb5⟩
                  go_wp2_with fail
                  have H6 := H3.trans (hb5.mono H3.size)
                  have sH6 := hb5.size
                  refine hK.out _ _ H6 (fun _ => ?_)
                  clear hK K
                  try simp only [Act.put, List.getElem_toArray, List.getElem_cons_zero, List.getElem_cons_succ, List.setIfInBounds_toArray, List.set_cons_zero, List.set_cons_succ]
                  refine wpAnyH_take (i := 6) (v := .agg (arrL 4 (keyF ⟨g, o, none⟩ L ⟨g', o', none⟩)).toArray) rfl (by kernel_rfl) (by kernel_rfl) (by kernel_rfl) (fun _ _ _ h => h) (.inl ⟨rfl, fun w' _ => by go_simp; rfl⟩) H6 ?_
                  try simp only [Act.put, List.getElem_toArray, List.getElem_cons_zero, List.getElem_cons_succ, List.setIfInBounds_toArray, List.set_cons_zero, List.set_cons_succ]
                  refine wpAnyH_ready (rs := [7]) (by kernel_rfl) (by simp) ?_
                  refine AllReadyH.cons rfl (fun K hK => ?_) AllReadyH.nil
                  try simp only [Act.put, List.getElem_toArray, List.getElem_cons_zero, List.getElem_cons_succ, List.setIfInBounds_toArray, List.set_cons_zero, List.set_cons_succ]
                  go_simp
                  refine hK.out _ _ (H6.alloc H6.size _) (fun _ => ?_)
                  clear hK K
                  try simp only [Act.put, List.getElem_toArray, List.getElem_cons_zero, List.getElem_cons_succ, List.setIfInBounds_toArray, List.set_cons_zero, List.set_cons_succ]
                  refine named (M := wpAnyH _ _ _ _ _ _ _ _) ?_
                  intro W7 hk9 hb8 sz10
                  have H11 := H6.trans (hb8.mono H6.size)
                  have r12 : W7.rowIs W4.heap.size 110 4 key0 := rowIs_of_block (hk9.trans rfl)
                  clear hk9
                  refine wpAnyH_ready (rs := [8]) (by kernel_rfl) (by simp) ?_
                  refine AllReadyH.cons rfl (fun K hK => ?_) AllReadyH.nil
                  try simp only [Act.put, List.getElem_toArray, List.getElem_cons_zero, List.getElem_cons_succ]
                  rw [if_pos (by rfl)]
                  refine wp_store_arr2 (ty := 110) (n := 4) (by kernel_rfl) _ _ rfl W4.heap.size 110 key0 (keyF ⟨g, o, none⟩ L ⟨g', o', none⟩) rfl rfl r12 (key_one _ _ _) ?_
                  intro V13 hX14 ho15
                  have hV16 := H11.trans (ho15.below (B := w1.heap.size) (by omega) H11.size)
                  refine hK.out _ _ hV16 (fun _ => ?_)
                  clear hK K
                  try simp only [Act.put]
                  refine wpAnyH_done (by kernel_rfl) ?_ _
                  refine NoPanic.normal ?_
                  go_wp2_with fail
                  go_meet
                  exact ⟨W4.heap.size, rfl, by omega, rowIs_block hX14, hV16⟩
                refine AllReadyH.cons rfl (fun K hK => ?_) AllReadyH.nil
                try simp only [Act.put, List.getElem_toArray, List.getElem_cons_zero, List.getElem_cons_succ, List.setIfInBounds_toArray, List.set_cons_zero, List.set_cons_succ]
                go_simp
                refine hK.out _ _ (H3.alloc H3.size _) (fun _ => ?_)
                clear hK K
                try simp only [Act.put, List.getElem_toArray, List.getElem_cons_zero, List.getElem_cons_succ, List.setIfInBounds_toArray, List.set_cons_zero, List.set_cons_succ]
                refine named (M := wpAnyH _ _ _ _ _ _ _ _) ?_
                intro W17 hk19 hb18 sz20
                have H21 := H3.trans (hb18.mono H3.size)
                have r22 : W17.rowIs W1.heap.size 110 4 key0 := rowIs_of_block (hk19.trans rfl)
                clear hk19
                refine wpAnyH_ready (rs := [5]) (by kernel_rfl) (by simp) ?_
                refine AllReadyH.cons rfl (fun K hK => ?_) AllReadyH.nil
                try simp only [Act.put, List.getElem_toArray, List.getElem_cons_zero, List.getElem_cons_succ, List.setIfInBounds_toArray, List.set_cons_zero, List.set_cons_succ]
                go_simp
                go_at_call 78; refine (place_prog _ _ _ _ _ hc0).mono ?_; rintro e W23 ⟨rfl, hb24⟩
                go_wp2_with fail
                have H25 := H21.trans (hb24.mono H21.size)
                have r26 := rowIs_later r22 hb24
                have sH25 := hb24.size
                refine hK.out _ _ H25 (fun _ => ?_)
                clear hK K
                try simp only [Act.put, List.getElem_toArray, List.getElem_cons_zero, List.getElem_cons_succ, List.setIfInBounds_toArray, List.set_cons_zero, List.set_cons_succ]
                refine wpAnyH_take (i := 6) (v := .agg (arrL 4 (keyF ⟨g, o, none⟩ L ⟨g', o', none⟩)).toArray) rfl (by kernel_rfl) (by kernel_rfl) (by kernel_rfl) (fun _ _ _ h => h) (.inl ⟨rfl, fun w' _ => by go_simp; rfl⟩) H25 ?_
                try simp only [Act.put, List.getElem_toArray, List.getElem_cons_zero, List.getElem_cons_succ, List.setIfInBounds_toArray, List.set_cons_zero, List.set_cons_succ]
                refine wpAnyH_ready (rs := [8]) (by kernel_rfl) (by simp) ?_
                refine AllReadyH.cons rfl (fun K hK => ?_) AllReadyH.nil
                try simp only [Act.put, List.getElem_toArray, List.getElem_cons_zero, List.getElem_cons_succ]
                rw [if_pos (by rfl)]
                refine wp_store_arr2 (ty := 110) (n := 4) (by kernel_rfl) _ _ rfl W1.heap.size 110 key0 (keyF ⟨g, o, none⟩ L ⟨g', o', none⟩) rfl rfl r26 (key_one _ _ _) ?_
                intro V27 hX28 ho29
                have hV30 := H25.trans (ho29.below (B := w1.heap.size) (by omega) H25.size)
                refine hK.out _ _ hV30 (fun _ => ?_)
                clear hK K
                try simp only [Act.put]
                refine wpAnyH_done (by kernel_rfl) ?_ _
                refine NoPanic.normal ?_
                go_wp2_with fail
                go_meet
                exact ⟨W1.heap.size, rfl, by omega, rowIs_block hX28, hV30⟩
              refine AllReadyH.cons rfl (fun K hK => ?_) AllReadyH.nil
              try simp only [Act.put, List.getElem_toArray, List.getElem_cons_zero, List.getElem_cons_succ, List.setIfInBounds_toArray, List.set_cons_zero, List.set_cons_succ]
              go_simp
              refine hK.out _ _ (hHeld.alloc hHeld.size _) (fun _ => ?_)
              clear hK K
              try simp only [Act.put, List.getElem_toArray, List.getElem_cons_zero, List.getElem_cons_succ, List.setIfInBounds_toArray, List.set_cons_zero, List.set_cons_succ]
              refine named (M := wpAnyH _ _ _ _ _ _ _ _) ?_
              intro W31 hk33 hb32 sz34
              have H35 := hHeld.trans (hb32.mono hHeld.size)
              have r36 : W31.rowIs V0.heap.size 110 4 key0 := rowIs_of_block (hk33.trans rfl)
              clear hk33
              refine wpAnyH_ready (rs := [2]) (by kernel_rfl) (by simp) ?_
              refine AllReadyH.cons rfl (fun K hK => ?_) AllReadyH.nil
              try simp only [Act.put, List.getElem_toArray, List.getElem_cons_zero, List.getElem_cons_succ, List.setIfInBounds_toArray, List.set_cons_zero, List.set_cons_succ]
              go_simp
              go_at_call 78; refine (place_prog _ _ _ _ _ hc0).mono ?_; rintro e W37 ⟨rfl, hb38⟩
              go_wp2_with fail
              have H39 := H35.trans (hb38.mono H35.size)
              have r40 := rowIs_later r36 hb38
              have sH39 := hb38.size
              refine hK.out _ _ H39 (fun _ => ?_)
              clear hK K
              try simp only [Act.put, List.getElem_toArray, List.getElem_cons_zero, List.getElem_cons_succ, List.setIfInBounds_toArray, List.set_cons_zero, List.set_cons_succ]
              refine wpAnyH_ready (rs := [5]) (by kernel_rfl) (by simp) ?_
              refine AllReadyH.cons rfl (fun K hK => ?_) AllReadyH.nil
              try simp only [Act.put, List.getElem_toArray, List.getElem_cons_zero, List.getElem_cons_succ, List.setIfInBounds_toArray, List.set_cons_zero, List.set_cons_succ]
              go_simp
              go_at_call 78; refine (place_prog _ _ _ _ _ hc0).mono ?_; rintro e W41 ⟨rfl, hb42⟩
              go_wp2_with fail
              have H43 := H39.trans (hb42.mono H39.size)
              have r44 := rowIs_later r40 hb42
              have sH43 := hb42.size
              refine hK.out _ _ H43 (fun _ => ?_)
              clear hK K
              try simp only [Act.put, List.getElem_toArray, List.getElem_cons_zero, List.getElem_cons_succ, List.setIfInBounds_toArray, List.set_cons_zero, List.set_cons_succ]
              refine wpAnyH_take (i := 6) (v := .agg (arrL 4 (keyF ⟨g, o, none⟩ L ⟨g', o', none⟩)).toArray) rfl (by kernel_rfl) (by kernel_rfl) (by kernel_rfl) (fun _ _ _ h => h) (.inl ⟨rfl, fun w' _ => by go_simp; rfl⟩) H43 ?_
              try simp only [Act.put, List.getElem_toArray, List.getElem_cons_zero, List.getElem_cons_succ, List.setIfInBounds_toArray, List.set_cons_zero, List.set_cons_succ]
              refine wpAnyH_ready (rs := [8]) (by kernel_rfl) (by simp) ?_
              refine AllReadyH.cons rfl (fun K hK => ?_) AllReadyH.nil
              try simp only [Act.put, List.getElem_toArray, List.getElem_cons_zero, List.getElem_cons_succ]
              rw [if_pos (by rfl)]
              refine wp_store_arr2 (ty := 110) (n := 4) (by kernel_rfl) _ _ rfl V0.heap.size 110 key0 (keyF ⟨g, o, none⟩ L ⟨g', o', none⟩) rfl rfl r44 (key_one _ _ _) ?_
              intro V45 hX46 ho47
              have hV48 := H43.trans (ho47.below (B := w1.heap.size) (by omega) H43.size)
              refine hK.out _ _ hV48 (fun _ => ?_)
              clear hK K
              try simp only [Act.put]
              refine wpAnyH_done (by kernel_rfl) ?_ _
              refine NoPanic.normal ?_
              go_wp2_with fail
              go_meet
              exact ⟨V0.heap.size, rfl, by omega, rowIs_block hX46, hV48⟩
            case rest =>
              obtain ⟨g7, rfl, hg7, hkey, hb2⟩ := hcut
              clear x0 x1 x2 x3 y0 y1 y2 y3
              obtain ⟨k0, k1, k2, k3, _, _, _, _⟩ := block4' hkey
              have HB02 : Hid (Below w.heap.size w wc) := Lib.hid (HB01.out.trans (hb2.mono HB01.out.size))
              have HM2 : Hid (PrMap wc b M) := Lib.hid (pr_later HM1.out hb2)
              have HBX2 := Lib.hid (blockP hb2 HBX.out)
              have HBY2 := Lib.hid (blockP hb2 HBY.out)
              have HUN2 : Hid (Unf wc g) := Lib.hid (HUN.out.of (by rw [HB02.out.block g (by omega)]; exact HAG.out g hgB))
              have HUN2' : Hid (Unf wc g') := Lib.hid (HUN'.out.of (by rw [HB02.out.block g' (by omega)]; exact HAG.out g' hgB'))
              have HKEY := Lib.hid hkey
              obtain ⟨r, hrun, hrm⟩ := lookup_pr wc b M HM2.out ⟨g, o, none⟩ ⟨g', o', none⟩ L L HUN2.out HUN2'.out
              unfold key2 at hrun
              have hs2 := hb2.size
              have hbwc := Lib.hid hb2
              clear hkey hb2
              cases r with
              | true =>
                have hr : Hid (rb = true) := Lib.hid (by
                  rw [← HR.out]
                  rcases HI.out _ (hrm rfl) with hgd | hbig
                  · exact hgd.2.2 c c' HL.out hLx.out HL'.out hLy.out
                  · have := hbig c HL.out hLx.out
                    omega)
                clear hrm
                have q0 := cell_alloc (ob := .cells #[] 111) k0
                go_wp2_with fail
                go_ret
                exact ⟨ret_bool hr.out.symm, grown_below (HB02.out.alloc HB02.out.size _), fun _ => ⟨M, pr_later HM2.out ((Below.refl _ _).alloc (Nat.le_refl _) _), fun y hy => .inl hy⟩⟩
              | false =>
                clear hrm
                have q0 := cell_alloc (ob := .cells #[] 111) k0
                have q1 := cell_alloc (ob := .cells #[] 111) k1
                have q2 := cell_alloc (ob := .cells #[] 111) k2
                have q3 := cell_alloc (ob := .cells #[] 111) k3
                have hbX : Below wc.heap.size wc (wc.alloc (.cells #[] 111)) := (Below.refl _ _).alloc (Nat.le_refl _) _
                obtain ⟨w4, M4, hup, hM4, hsub, hg4⟩ := update_pr (wc.alloc (.cells #[] 111)) b M (pr_later HM2.out hbX) ⟨g, o, none⟩ ⟨g', o', none⟩ L L
                  (HUN2.out.of (hbX.block g (by omega))) (HUN2'.out.of (hbX.block g' (by omega)))
                unfold key2 at hup
                have hg14 : Hid (w1.grownBy w4 (some b)) := Lib.hid (grown_trans (grown_trans (grown_below hbwc.out) (World.grownBy_alloc wc _ _)) hg4)
                have bx4 : w4.heap[w.heap.size]? = some (.cells #[.int .i64 k, .int .u64 n, .string s, .slice (some ⟨g, o, none⟩) L xc] 46 (0, 0)) := by
                  rw [hg14.out.block _ hlx (fun h => by have h' : w.heap.size = b := Option.some.inj h; omega)]; exact HBX.out
                obtain ⟨_, _, _, x3, _, _, _, _⟩ := block4' bx4
                have HM4 := Lib.hid hM4
                have HSUB := Lib.hid hsub
                clear hM4 hg4 hsub bx4 hbX
                go_wp2_with fail
                go_loopw [63] (SmR W0 B b M (⟨g, o, none⟩, L, ⟨g', o', none⟩, L) c c' rb w1) (fun i _ => L - (intOf i).toNat)
                case atStart => exact ⟨0, M4, rfl, by omega, by simpa [F.drop] using HR, HM4, fun y hy => (HSUB.out y hy).imp id .inl, hg14.out⟩
                case round =>
                  obtain ⟨i, Mi, rfl, hi, hri, hMi, hsb, hg⟩ := hrel
                  rw [hLx.out] at hi
                  clear hup x3 q0 q1 q2 q3 hrun k0 k1 k2 k3
                  have bx : wr.heap[w.heap.size]? = some (.cells #[.int .i64 k, .int .u64 n, .string s, .slice (some ⟨g, o, none⟩) L xc] 46 (0, 0)) := by
                    rw [hg.block _ hlx (fun h => by have h' : w.heap.size = b := Option.some.inj h; omega)]; exact HBX.out
                  have by4 : wr.heap[w.heap.size + 1]? = some (.cells #[.int .i64 k, .int .u64 n, .string s, .slice (some ⟨g', o', none⟩) L yc] 46 (0, 0)) := by
                    rw [hg.block _ hly (fun h => by have h' : w.heap.size + 1 = b := Option.some.inj h; omega)]; exact HBY.out
                  obtain ⟨_, _, _, x3, _, _, _, _⟩ := block4' bx
                  obtain ⟨_, _, _, y3, _, _, _, _⟩ := block4' by4
                  clear bx by4
                  by_cases hlt : i < L
                  · have hi0 : (0 : Int) ≤ (i : Int) := by omega
                    have hi1 : (i : Int) ≤ 268435456 := by omega
                    have hil : (i : Int) < (L : Int) := by omega
                    obtain ⟨k1, n1, s1, c1, k2, n2, s2, c2, hd1, hd2⟩ := drop_eqB c c' i (by rw [hLx.out, hLy.out]) (by have := hLx.out; omega)
                    have hwB : ∀ z, z < B → wr.heap[z]? = W0.heap[z]? := fun z hz => by
                      rw [hg.block z (by omega) (fun h => by have h' : z = b := Option.some.inj h; omega), HB01.out.block z (by omega)]; exact HAG.out z hz
                    have hld := Lies.drop i c g o HL.out
                    have hld' := Lies.drop i c' g' o' HL'.out
                    rw [hd1] at hld
                    rw [hd2] at hld'
                    obtain ⟨⟨v1, p0, p1, p2, p3, hk1⟩, _⟩ := lies_cons.1 hld
                    obtain ⟨⟨v2, u0, u1, u2, u3, hk2⟩, _⟩ := lies_cons.1 hld'
                    obtain ⟨a1, b1, rfl⟩ := hk1.shape
                    obtain ⟨a2, b2, rfl⟩ := hk2.shape
                    have cw : ∀ (gz z : Nat) (u : Value), gz < B → W0.cell? ⟨gz, z, none⟩ = some u → wr.cell? ⟨gz, z, none⟩ = some u := fun gz z u hz h => by rw [← h]; exact World.cell?_of_block (a := ⟨gz, z, none⟩) (hwB gz hz)
                    replace p0 := cw g _ _ hgB p0
                    replace p1 := cw g _ _ hgB p1
                    replace p2 := cw g _ _ hgB p2
                    replace p3 := cw g _ _ hgB p3
                    replace u0 := cw g' _ _ hgB' u0
                    replace u1 := cw g' _ _ hgB' u1
                    replace u2 := cw g' _ _ hgB' u2
                    replace u3 := cw g' _ _ hgB' u3
                    have hokd := F.drop_ok c i HOK.out.2.2.2
                    rw [hd1] at hokd
                    have hsz : c1.size < c.size := by
                      have e1 := drop_size c i
                      rw [hd1] at e1
                      simp only [F.size] at e1
                      omega
                    have hInv : InvS W0 B Mi c1.size := by
                      intro y hy
                      rcases hsb y hy with h | h | h
                      · rcases HI.out y h with h2 | h3
                        · exact .inl h2
                        · exact .inr (fun f hf he => by have := h3 f hf he; omega)
                      · subst h
                        exact .inr (fun f hf he => by rw [← lies_det c f g o HL.out hf (by rw [hLx.out]; exact he.symm)]; exact hsz)
                      · exact .inl h
                    have hsw := hg.size
                    have hcall := Lib.hid (HIH.out W0 B b ⟨k1, n1, s1, c1⟩ ⟨k2, n2, s2, c2⟩ (.slice a1 c1.len b1) (.slice a2 c2.len b2) Mi wr.drew (by simp only; omega) hwB hBb (by show b < wr.heap.size; omega)
                      ⟨hokd.1, hokd.2.1, hokd.2.2.1, hokd.2.2.2.1⟩ hk1 hk2 (pr_later hMi.out (Below.refl _ _).drew) hInv)
                    have hstep : Hid ((Nd.eqB ⟨k1, n1, s1, c1⟩ ⟨k2, n2, s2, c2⟩ && (c.drop (i + 1)).eqB (c'.drop (i + 1))) = rb) := Lib.hid (by
                      rw [← hri.out, hd1, hd2]; simp [F.eqB, Nd.eqB, Bool.and_assoc])
                    obtain ⟨rk, hrk⟩ : ∃ rk, Nd.eqB ⟨k1, n1, s1, c1⟩ ⟨k2, n2, s2, c2⟩ = rk := ⟨_, rfl⟩
                    rw [hrk] at hcall hstep
                    unfold nodeV at hcall
                    have HSB := Lib.hid hsb
                    have hgb1 : g ≠ b := by omega
                    have hgb2 : g' ≠ b := by omega
                    have hwb1 : w.heap.size ≠ b := by omega
                    have hwb2 : w.heap.size + 1 ≠ b := by omega
                    clear hrk hld hld' hk1 hk2 cw hokd hInv hd1 hd2 hsb hwB
                    go_wp2_with fail
                    go_region_held3 (fun w' => w'.cell? ⟨w.heap.size, 3, none⟩ = some (.slice (some ⟨g, o, none⟩) L xc) ∧ w'.cell? ⟨w.heap.size + 1, 3, none⟩ = some (.slice (some ⟨g', o', none⟩) L yc) ∧
                        w'.cell? ⟨g, o + i * 4, none⟩ = some (.int .i64 k1) ∧ w'.cell? ⟨g, o + i * 4 + 1, none⟩ = some (.int .u64 n1) ∧ w'.cell? ⟨g, o + i * 4 + 2, none⟩ = some (.string s1) ∧ w'.cell? ⟨g, o + i * 4 + 3, none⟩ = some (.slice a1 c1.len b1) ∧
                        w'.cell? ⟨g', o' + i * 4, none⟩ = some (.int .i64 k2) ∧ w'.cell? ⟨g', o' + i * 4 + 1, none⟩ = some (.int .u64 n2) ∧ w'.cell? ⟨g', o' + i * 4 + 2, none⟩ = some (.string s2) ∧ w'.cell? ⟨g', o' + i * 4 + 3, none⟩ = some (.slice a2 c2.len b2))
                      (first
                        | exact ⟨x3, y3, p0, p1, p2, p3, u0, u1, u2, u3⟩
                        | exact ⟨cellG hg6 hwb1 x3, cellG hg6 hwb2 y3, cellG hg6 hgb1 p0, cellG hg6 hgb1 p1, cellG hg6 hgb1 p2, cellG hg6 hgb1 p3, cellG hg6 hgb2 u0, cellG hg6 hgb2 u1, cellG hg6 hgb2 u2, cellG hg6 hgb2 u3⟩)
                      ((go_at_call 64; refine hcall.out.mono ?_; rintro e w6 ⟨rfl, hg6, h6⟩))
                    have HG6 : Hid (w1.grownBy w6 (some b)) := Lib.hid (grown_trans hg (grown_trans (grown_below (Below.refl _ _).drew) hg6))
                    have H6 := Lib.hid h6
                    clear hcall hg6 h6 x3 y3 p0 p1 p2 p3 u0 u1 u2 u3
                    cases rk with
                    | false =>
                      have hr : Hid (rb = false) := Lib.hid (by rw [← hstep.out]; rfl)
                      go_wp2_with fail
                      go_ret
                      exact ⟨ret_bool hr.out.symm, grown_trans HGR0.out HG6.out, fun h => by rw [hr.out] at h; cases h⟩
                    | true =>
                      obtain ⟨M6, hM6, hs6⟩ := H6.out rfl
                      have HM6 := Lib.hid hM6
                      have HS6 := Lib.hid hs6
                      clear hM6 hs6 H6
                      go_wp2_with fail
                      go_roundw
                      case rel =>
                        refine ⟨i + 1, M6, by go_num, by rw [hLx.out]; omega, Lib.hid (by simpa using hstep.out), HM6, fun y hy => ?_, HG6.out⟩
                        rcases HS6.out y hy with h | h
                        · exact HSB.out y h
                        · exact .inr (.inr h)
                      case measure => rw [intOf_int, intOf_int]; omega
                  · have hiL : i = L := by omega
                    have hr : Hid (rb = true) := Lib.hid (by
                      rw [← hri.out, show c.drop i = .nil by rw [hiL, ← hLx.out]; exact F.drop_end c, show c'.drop i = .nil by rw [hiL, ← hLy.out]; exact F.drop_end c']; rfl)
                    have hge : ¬ ((i : Int) < (L : Int)) := by omega
                    have HSB := Lib.hid hsb
                    clear hiL hsb
                    go_wp2_with fail
                    go_ret
                    refine ⟨ret_bool hr.out.symm, grown_trans HGR0.out hg, fun _ => ⟨Mi, hMi.out, fun y hy => ?_⟩⟩
                    rcases HSB.out y hy with h | h | h
                    · exact .inl h
                    · subst h
                      refine .inr ⟨hgB, hgB', fun f1 f2 hf1 he1 hf2 he2 => ?_⟩
                      rw [← lies_det c f1 g o HL.out hf1 (by rw [hLx.out]; exact he1.symm), ← lies_det c' f2 g' o' HL'.out hf2 (by rw [hLy.out]; exact he2.symm), HR.out]
                      exact hr.out
                    · exact .inr h
        · have HR : Hid (rb = false) := Lib.hid (by
            rw [← HRB.out]
            have : c.eqB c' = false := by
              cases h : c.eqB c' with
              | false => rfl
              | true => exact absurd (eqB_len _ _ h) hl0
            simp [Nd.eqB, this])
          have hne : ((c.len : Int) == (c'.len : Int)) = false := by simp; omega
          clear hl0
          go_enter Tryd.func64, Tryd.ntmps64
          go_wp2_with fail
          go_ret
          exact ⟨ret_bool HR.out.symm, hgr0, fun h => by rw [HR.out] at h; cases h⟩
      · have HR : Hid (rb = false) := Lib.hid (by rw [← HRB.out]; simp [Nd.eqB, hs])
        have hsb : ¬ s.toList = s'.toList := by
          rw [ByteArray.toList_eq, ByteArray.toList_eq]
          intro h; exact hs (ByteArray.ext (Array.toList_inj.1 h))
        subst hk hn
        clear hs
        go_enter Tryd.func64, Tryd.ntmps64
        go_wp2_with fail
        go_ret
        exact ⟨ret_bool HR.out.symm, hgr0, fun h => by rw [HR.out] at h; cases h⟩
    · have HR : Hid (rb = false) := Lib.hid (by rw [← HRB.out]; simp [Nd.eqB, hn])
      have hnb : (n == n') = false := by simpa using hn
      subst hk
      go_enter Tryd.func64, Tryd.ntmps64
      go_wp2_with fail
      go_ret
      exact ⟨ret_bool HR.out.symm, hgr0, fun h => by rw [HR.out] at h; cases h⟩
  · have HR : Hid (rb = false) := Lib.hid (by rw [← HRB.out]; simp [Nd.eqB, hk])
    have hkb : (k == k') = false := by simpa using hk
    go_enter Tryd.func64, Tryd.ntmps64
    go_wp2_with fail
    go_ret
    exact ⟨ret_bool HR.out.symm, hgr0, fun h => by rw [HR.out] at h; cases h⟩

theorem psame_ok (D : Nat) : PSameOk D := by
  induction D with
  | zero => intro _ _ _ _ _ _ _ _ _ h; exact absurd h (Nat.not_lt_zero _)
  | succ D ih => exact psame_step D ih

set_option maxRecDepth 30000 in
set_option maxHeartbeats 1000000 in
theorem csame_prog (x y : Nd) (xv yv : Value) (w : World) (hok : x.ok) (hx : KidsAt w (· < w.heap.size) x.kids xv) (hy : KidsAt w (· < w.heap.size) y.kids yv) :
    Calls Tryd.prog 42 #[nodeV x.k x.n x.s xv, nodeV y.k y.n y.s yv] w fun e w' => e = .returned (.bool (x.eqB y)) ∧ Below w.heap.size w w' := by
  obtain ⟨xa, xc, rfl⟩ := hx.shape
  obtain ⟨ya, yc, rfl⟩ := hy.shape
  have hmm := @run_makeMap Tryd.prog
  obtain ⟨W, hW⟩ : ∃ W, W = (((w.alloc (.cells #[.int .i64 x.k, .int .u64 x.n, .string x.s, .slice xa x.kids.len xc] 46)).alloc (.cells #[.int .i64 y.k, .int .u64 y.n, .string y.s, .slice ya y.kids.len yc] 46)).alloc (.map #[] 0)) := ⟨_, rfl⟩
  have hbW : Below w.heap.size w W := by rw [hW]; exact (((Below.refl _ w).alloc (Nat.le_refl _) _).alloc (by simp) _).alloc (by simp; omega) _
  have hsW : W.heap.size = w.heap.size + 3 := by rw [hW]; simp
  have hmW : W.heap[w.heap.size + 1 + 1]? = some (.map #[] 0) := by
    rw [hW]
    have := heap_alloc_new ((w.alloc (.cells #[.int .i64 x.k, .int .u64 x.n, .string x.s, .slice xa x.kids.len xc] 46)).alloc (.cells #[.int .i64 y.k, .int .u64 y.n, .string y.s, .slice ya y.kids.len yc] 46)) (.map #[] 0)
    simpa using this
  have hcall := Lib.hid (psame_ok (x.kids.size + 1) W w.heap.size (w.heap.size + 1 + 1) x y (.slice xa x.kids.len xc) (.slice ya y.kids.len yc) [] W (by omega) (fun _ _ => rfl) (by omega) (by omega) hok
    (hx.below hbW) (hy.below hbW) ⟨#[], 0, hmW, rfl⟩ (fun _ h => by cases h))
  obtain ⟨r, hr⟩ : ∃ r, x.eqB y = r := ⟨_, rfl⟩
  rw [hr] at hcall ⊢
  unfold nodeV at hcall ⊢
  have HBW := Lib.hid hbW
  have HSW := Lib.hid hsW
  clear hx hy hok hr hbW hsW hmW
  go_enter Tryd.func42, Tryd.ntmps42
  go_wp2_with fail
  rw [← hW]
  refine hcall.out.mono ?_
  rintro e w1 ⟨rfl, hg, _⟩
  have hb : Below w.heap.size w w1 := HBW.out.trans ⟨hg.os, hg.tape, hg.output, hg.size, fun k hk => hg.block k (by have := HSW.out; omega) (fun h => by have h' : k = w.heap.size + 1 + 1 := Option.some.inj h; omega)⟩
  clear hcall hg hW
  go_wp2
  go_ret
  exact ⟨rfl, hb⟩
end Go.Proofs.YtpkkdjmcabefbaaDoor.Cod
