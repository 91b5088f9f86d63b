/- net: slices.Delete, without. -/
import Derived.Test.YtgdlnjhbencjkaaNProg
namespace Go.Proofs.Ytgdlnjhbencjkaa
open Go.RowKit

theorem add_mul2 (g o k : Nat) : (⟨g, o, none⟩ : Addr).add k = ⟨g, o + k, none⟩ := by
  unfold Addr.add; split
  · rename_i h0; subst h0; rfl
  · rfl
theorem psl_full (a : Option Addr) (n cp l h m : Nat) (h1 : l ≤ h) (h2 : h ≤ m) (h3 : m ≤ cp) (W : World) : (Instr.slice 61 (.slice a n cp) (some (.int .i64 (l : Int))) (some (.int .i64 (h : Int))) (some (.int .i64 (m : Int)))).run Try.prog W =
    .ok (.slice (if m = l then a else a.map (·.add (l * 2))) (h - l) (m - l)) W := by
  simp [Instr.slice, Instr.sliceBounds, Instr.sliceBound, asIntOf, run_underlying Try.underlying61, h1, h2, h3]
theorem psl_from (a : Option Addr) (n cp l : Nat) (h : l ≤ n) (W : World) : (Instr.slice 61 (.slice a n cp) (some (.int .i64 (l : Int))) none none).run Try.prog W =
    .ok (.slice (if cp = l then a else a.map (·.add (l * 2))) (n - l) (cp - l)) W := by
  simp [Instr.slice, Instr.sliceBounds, Instr.sliceBound, asIntOf, run_underlying Try.underlying61, h]
theorem psl_both (a : Option Addr) (n cp l h : Nat) (h1 : l ≤ h) (h2 : h ≤ cp) (W : World) : (Instr.slice 61 (.slice a n cp) (some (.int .i64 (l : Int))) (some (.int .i64 (h : Int))) none).run Try.prog W =
    .ok (.slice (if cp = l then a else a.map (·.add (l * 2))) (h - l) (cp - l)) W := by
  simp [Instr.slice, Instr.sliceBounds, Instr.sliceBound, asIntOf, run_underlying Try.underlying61, h1, h2]
theorem psl_to (a : Option Addr) (n cp h : Nat) (h2 : h ≤ cp) (W : World) : (Instr.slice 61 (.slice a n cp) none (some (.int .i64 (h : Int))) none).run Try.prog W =
    .ok (.slice (if cp = 0 then a else a.map (·.add 0)) h cp) W := by
  simp [Instr.slice, Instr.sliceBounds, Instr.sliceBound, asIntOf, run_underlying Try.underlying61, h2]

/-- A row of parcels in the midst of a block. -/
def Mid (w : World) (g o n cap : Nat) (q : List (Nat × Nat)) : Prop := ∃ cur, w.heap[g]? = some (.cells cur 70 (0, 0)) ∧ n ≤ cap ∧ cap ≤ maxLen ∧ (o + cap) * 2 ≤ cur.size ∧ q.length = n ∧ ∀ j u, (parC q)[j]? = some u → cur[o * 2 + j]? = some u
theorem Mid.wsl {w : World} {g o n cap : Nat} {q : List (Nat × Nat)} (h : Mid w g o n cap q) : WSl w (.slice (some ⟨g, o * 2, none⟩) n cap) q := by
  obtain ⟨cur, h1, h2, h3, h4, h5, h6⟩ := h
  exact .inr ⟨g, o, cap, cur, by rw [h5], h1, by omega, h3, h4, h6⟩

/-- append(s[:i], s[i+1:]...): what stands behind the place moves up. -/
theorem run_moved {w : World} {g o n cap i : Nat} {q : List (Nat × Nat)} (ty : TypeId) (h : Mid w g o n cap q) (hi : i < n) (a2 : Option Addr) (c2 : Nat) (ha : a2 = if cap = i + 1 then some ⟨g, o * 2, none⟩ else some ⟨g, (o + (i + 1)) * 2, none⟩) :
    ∃ w', (Builtin.append_ #[61, 61] ty #[.slice (some ⟨g, o * 2, none⟩) i cap, .slice a2 (n - (i + 1)) c2]).run Try.prog w = .ok (.slice (some ⟨g, o * 2, none⟩) (n - 1) cap) w' ∧ Mid w' g o (n - 1) cap (q.eraseIdx i) ∧ Only g w w' := by
  obtain ⟨inf, hinf, hz, hsz, hby⟩ := info_parts Try.parSl.info
  obtain ⟨cur, h1, h2, h3, h4, h5, h6⟩ := h
  obtain ⟨a, rfl⟩ : ∃ a, a2 = some a := by rw [ha]; split <;> exact ⟨_, rfl⟩
  have hq : (q.drop (i + 1)).length = n - (i + 1) := by simp [h5]
  have hr := run_append_room_cells (P := Try.prog) w 61 ty 70 inf Try.parSl.und hinf g (o * 2) i cap a (n - (i + 1)) c2 (parC (q.drop (i + 1))) (by rw [hsz, parC_length, hq])
    (fun j u hu => by
      have hj := (List.getElem?_eq_some_iff.1 hu).1
      rw [parC_length, hq] at hj
      rw [if_neg (by omega)] at ha
      have ha := Option.some.inj ha
      rw [parC_drop, List.getElem?_drop] at hu
      have := h6 _ _ hu
      rw [ha, add_mul2]
      have e : (o + (i + 1)) * 2 + j = o * 2 + ((i + 1) * 2 + j) := by omega
      unfold World.cell?
      rw [e]
      simp only [h1, this]
      rfl) (parC_one _) (by omega)
    (fun j hj => by
      rw [parC_length, hq] at hj
      have : o * 2 + i * inf.size + j < cur.size := by rw [hsz]; omega
      simp [World.cell?, h1, this]) (fun j _ => by simp [World.frozen?, h1])
  rw [hsz, show i + (n - (i + 1)) = n - 1 by omega] at hr
  obtain ⟨cur', e1, e2, e3, e4⟩ := setCells_get (vs := parC (q.drop (i + 1))) (o := o * 2 + i * 2) h1 (by rw [parC_length, hq]; omega)
  refine ⟨_, hr, ⟨cur', e1, by omega, h3, by omega, by rw [List.length_eraseIdx, if_pos (by omega)]; omega, fun j u hu => ?_⟩, e4⟩
  rw [List.eraseIdx_eq_take_drop_succ, parC_append] at hu
  rw [e3]
  have ht : (parC (q.take i)).length = i * 2 := by rw [parC_length, List.length_take]; omega
  by_cases hj : j < i * 2
  · rw [List.getElem?_append_left (by omega), parC_take, List.getElem?_take, if_pos hj] at hu
    rw [if_neg (by omega)]
    exact h6 j u hu
  · rw [List.getElem?_append_right (by omega), ht] at hu
    have hlt := (List.getElem?_eq_some_iff.1 hu).1
    rw [if_pos ⟨by omega, by omega⟩, show o * 2 + j - (o * 2 + i * 2) = j - i * 2 by omega]
    exact hu
theorem zero_par : (Builtin.zeroCells (Value.agg #[.int .u64 0, .pointer none]).cells 1).toList = [.int .u64 0, .pointer none] := by kernel_rfl
theorem run_zero_par (w : World) : (zeroValue 70).run Try.prog w = .ok (.agg #[.int .u64 0, .pointer none]) w := by
  obtain ⟨i, hi, hz, _, _⟩ := info_parts Try.parSl.info
  simp [zeroValue, typeInfo, hi, hz]
/-- clear of the place behind the row. -/
theorem run_clear1 {w : World} {g o n cap : Nat} {q : List (Nat × Nat)} (ty : TypeId) (h : Mid w g o n cap q) (hn : n < cap) (c2 : Nat) :
    ∃ w', (Builtin.clear_ #[61] ty #[.slice (some ⟨g, (o + n) * 2, none⟩) 1 c2]).run Try.prog w = .ok (.tuple #[]) w' ∧ Mid w' g o n cap q ∧ Only g w w' := by
  obtain ⟨cur, h1, h2, h3, h4, h5, h6⟩ := h
  have hst := run_storeCells_cells (P := Try.prog) g ((o + n) * 2) [.int .u64 0, .pointer none] 0 w (fun j hj => by
    have hj : j < 2 := hj
    have : (o + n) * 2 + j < cur.size := by omega
    simp [World.cell?, h1, this]) (fun j _ => by simp [World.frozen?, h1]) (by simp [Value.oneCell'])
  simp only [Nat.add_zero] at hst
  obtain ⟨cur', e1, e2, e3, e4⟩ := setCells_get (vs := [.int .u64 0, .pointer none]) (o := (o + n) * 2) h1 (by show _ + 2 ≤ _; omega)
  refine ⟨_, ?_, ⟨cur', e1, h2, h3, by omega, h5, fun j u hu => ?_⟩, e4⟩
  · simp only [Builtin.clear_, List.getElem?_toArray, List.getElem?_cons_zero, Sem.run_bind, Sem.run_pure, Result.andThen_ok, run_underlying Try.underlying61, run_zero_par, zero_par, hst]
  · have hj := (List.getElem?_eq_some_iff.1 hu).1
    rw [parC_length] at hj
    rw [e3, if_neg (by omega)]
    exact h6 j u hu

theorem step_runA {P : Program} {ops : Array Oper} {o : Oper} {a : Act} {K : Act → World → Prop} {Q : Exit → Act → World → Prop} {E : Prop} {w : World} (hgd : o.guard = none) (s x : Operand) (t u : TypeId)
    (ho : o.op = .call { callee := .builtin .append, args := #[s, x], argTypes := #[t, u] }) (v xv v' : Value) (W : World) (hs : a.eval s = v) (hx : a.eval x = xv) (hr : (Builtin.append_ #[t, u] o.type #[v, xv]).run P w = .ok v' W)
    (hk : K (a.put o.dst v') W) : if Region.wanted o (yielded ops a.tmps) = true then Oper.wp P o a w K Q else E := by
  have hw : Region.wanted o (yielded ops a.tmps) = true := by simp [Region.wanted, hgd]
  rw [if_pos hw]
  unfold Oper.wp execOp
  simp only [ho, resolve, invoke, builtin, Sem.run_bind, Sem.run_pure, Result.andThen_ok, List.map_toArray, List.map_cons, List.map_nil, hs, hx, hr]
  exact hk
theorem step_runC {P : Program} {ops : Array Oper} {o : Oper} {a : Act} {K : Act → World → Prop} {Q : Exit → Act → World → Prop} {E : Prop} {w : World} (hgd : o.guard = none) (s x : Operand) (t u : TypeId)
    (ho : o.op = .call { callee := .builtin .copy, args := #[s, x], argTypes := #[t, u] }) (v xv v' : Value) (W : World) (hs : a.eval s = v) (hx : a.eval x = xv) (hr : (Builtin.copy_ #[t, u] o.type #[v, xv]).run P w = .ok v' W)
    (hk : K (a.put o.dst v') W) : if Region.wanted o (yielded ops a.tmps) = true then Oper.wp P o a w K Q else E := by
  have hw : Region.wanted o (yielded ops a.tmps) = true := by simp [Region.wanted, hgd]
  rw [if_pos hw]
  unfold Oper.wp execOp
  simp only [ho, resolve, invoke, builtin, Sem.run_bind, Sem.run_pure, Result.andThen_ok, List.map_toArray, List.map_cons, List.map_nil, hs, hx, hr]
  exact hk
set_option maxHeartbeats 4000000 in
set_option maxRecDepth 100000 in
theorem del_prog {w : World} {g o n cap i : Nat} {q : List (Nat × Nat)} (h : Mid w g o n cap q) (hi : i < n) :
    Calls Try.prog 43 #[.slice (some ⟨g, o * 2, none⟩) n cap, .int .i64 (i : Int), .int .i64 ((i + 1 : Nat) : Int)] w fun e w' => e = .returned (.slice (some ⟨g, o * 2, none⟩) (n - 1) cap) ∧ Mid w' g o (n - 1) cap (q.eraseIdx i) ∧ ∃ k, Only g (w.drewN k) w' := by
  obtain ⟨cur, _, hnc, hcm, _⟩ := id h
  unfold maxLen at hcm
  have hs1 := psl_full (some ⟨g, o * 2, none⟩) n cap i (i + 1) n (by omega) (by omega) hnc w
  obtain ⟨X1, hX1⟩ : ∃ X1, (Value.slice (if n = i then some ⟨g, o * 2, none⟩ else (some (⟨g, o * 2, none⟩ : Addr)).map (·.add (i * 2))) (i + 1 - i) (n - i)) = X1 := ⟨_, rfl⟩
  rw [hX1] at hs1
  have hs2 := fun W => psl_to (some ⟨g, o * 2, none⟩) n cap i (by omega) W
  have ea : (if cap = 0 then some (⟨g, o * 2, none⟩ : Addr) else (some (⟨g, o * 2, none⟩ : Addr)).map (·.add 0)) = some ⟨g, o * 2, none⟩ := by
    rw [if_neg (by omega), Option.map_some, add_mul2, Nat.add_zero]
  rw [ea] at hs2
  have hs3 := fun W => psl_from (some ⟨g, o * 2, none⟩) n cap (i + 1) (by omega) W
  obtain ⟨A2, hA2⟩ : ∃ A2, (if cap = i + 1 then some (⟨g, o * 2, none⟩ : Addr) else (some (⟨g, o * 2, none⟩ : Addr)).map (·.add ((i + 1) * 2))) = A2 := ⟨_, rfl⟩
  rw [hA2] at hs3
  have hA2' : A2 = if cap = i + 1 then some ⟨g, o * 2, none⟩ else some ⟨g, (o + (i + 1)) * 2, none⟩ := by
    rw [← hA2]; split
    · rfl
    · rw [Option.map_some, add_mul2, show o * 2 + (i + 1) * 2 = (o + (i + 1)) * 2 by omega]
  obtain ⟨w1, hr1, hm1, ho1⟩ := run_moved (w := w.drew) 61 h hi A2 (cap - (i + 1)) hA2'
  have hs4 := fun W => psl_both (some ⟨g, o * 2, none⟩) (n - 1) cap (n - 1) n (by omega) hnc W
  have ea4 : (if cap = n - 1 then some (⟨g, o * 2, none⟩ : Addr) else (some (⟨g, o * 2, none⟩ : Addr)).map (·.add ((n - 1) * 2))) = some ⟨g, (o + (n - 1)) * 2, none⟩ := by
    rw [if_neg (by omega), Option.map_some, add_mul2, show o * 2 + (n - 1) * 2 = (o + (n - 1)) * 2 by omega]
  rw [ea4, show n - (n - 1) = 1 by omega] at hs4
  obtain ⟨w2, hr2, hm2, ho2⟩ := run_clear1 (w := w1) 0 hm1 (by omega) (cap - (n - 1))
  have HM := Lib.hid hm2
  have HO := Lib.hid (ho1.trans ho2)
  have hne : ((i : Int) == ((i + 1 : Nat) : Int)) = false := by simp; omega
  have hiI : (i : Int) ≤ ((i + 1 : Nat) : Int) := by omega
  have hiN : ((i + 1 : Nat) : Int) ≤ (n : Int) := by omega
  obtain ⟨N1, hN1⟩ : ∃ N1, n - 1 = N1 := ⟨_, rfl⟩
  obtain ⟨I1, hI1⟩ : ∃ I1, i + 1 = I1 := ⟨_, rfl⟩
  rw [hN1] at hr1 hs4 hr2 HM ⊢
  rw [hI1] at hs1 hs3 hne hiI hiN hr1 ⊢
  clear h hX1 hA2 hA2' ea ea4 hm1 hm2 ho1 ho2 hN1 hI1 hnc hcm hi
  go_enter Try.func43, Try.ntmps43
  go_wp2_with fail
  go_region_law (refine step_runA rfl _ _ _ _ (by rfl) _ _ _ w1 (by rfl) (by rfl) hr1 ?_)
  go_wp2_with fail
  go_ret
  exact ⟨rfl, HM.out, 1, HO.out⟩

/-- copy(l[1:], l[:i]): what stands ahead of the place moves down. -/
theorem run_down {w : World} {g o n cap i : Nat} {q : List (Nat × Nat)} (ty : TypeId) (h : Mid w g o n cap q) (hi : i < n) (c1 c2 : Nat) :
    ∃ w', (Builtin.copy_ #[61, 61] ty #[.slice (some ⟨g, (o + 1) * 2, none⟩) (n - 1) c1, .slice (some ⟨g, o * 2, none⟩) i c2]).run Try.prog w = .ok (goInt i) w' ∧ Mid w' g (o + 1) (n - 1) (cap - 1) (q.eraseIdx i) ∧ Only g w w' ∧
      w'.cell? ⟨g, o * 2, none⟩ = w.cell? ⟨g, o * 2, none⟩ ∧ w'.cell? ⟨g, o * 2 + 1, none⟩ = w.cell? ⟨g, o * 2 + 1, none⟩ := by
  obtain ⟨inf, hinf, hz, hsz, hby⟩ := info_parts Try.parSl.info
  obtain ⟨cur, h1, h2, h3, h4, h5, h6⟩ := h
  have hq : (q.take i).length = i := by simp; omega
  have hk : Nat.min i (n - 1) = i := Nat.min_eq_left (by omega)
  have hsrc : ∀ j u, (parC (q.take i))[j]? = some u → w.cell? ((⟨g, o * 2, none⟩ : Addr).add j) = some u := fun j u hu => by
    have hj := (List.getElem?_eq_some_iff.1 hu).1
    rw [parC_length, hq] at hj
    rw [parC_take, List.getElem?_take, if_pos hj] at hu
    have := h6 _ _ hu
    rw [add_mul2]
    unfold World.cell?
    simp only [h1, this]
    rfl
  have hfc := run_firstCells_some (P := Try.prog) w 2 i ⟨g, o * 2, none⟩ i c2 (parC (q.take i)) (by rw [parC_length, hq]) hsrc
  have hst := run_storeCells_cells (P := Try.prog) g ((o + 1) * 2) (parC (q.take i)) 0 w (fun j hj => by
    rw [parC_length, hq] at hj
    have : (o + 1) * 2 + j < cur.size := by omega
    simp [World.cell?, h1, this]) (fun j _ => by simp [World.frozen?, h1]) (parC_one _)
  simp only [Nat.add_zero] at hst
  obtain ⟨cur', e1, e2, e3, e4⟩ := setCells_get (vs := parC (q.take i)) (o := (o + 1) * 2) h1 (by rw [parC_length, hq]; omega)
  refine ⟨_, ?_, ⟨cur', e1, by omega, by omega, by omega, by rw [List.length_eraseIdx, if_pos (by omega)]; omega, fun j u hu => ?_⟩, e4, ?_, ?_⟩
  · simp [Builtin.copy_, run_underlying Try.underlying61, Builtin.lenOf, sizeOf, typeInfo, hinf, hsz, hk, hfc, hst]
  · rw [List.eraseIdx_eq_take_drop_succ, parC_append] at hu
    rw [e3]
    have ht : (parC (q.take i)).length = i * 2 := by rw [parC_length, hq]
    by_cases hj : j < i * 2
    · rw [List.getElem?_append_left (by omega)] at hu
      rw [if_pos ⟨by omega, by omega⟩, show (o + 1) * 2 + j - (o + 1) * 2 = j by omega]
      exact hu
    · rw [List.getElem?_append_right (by omega), ht, parC_drop, List.getElem?_drop] at hu
      rw [if_neg (by omega)]
      have := h6 _ _ hu
      have e : (o + 1) * 2 + j = o * 2 + ((i + 1) * 2 + (j - i * 2)) := by omega
      rw [e]
      exact this
  · have e5 := e3 (o * 2)
    rw [if_neg (by omega)] at e5
    simp [World.cell?, e1, h1, e5]
  · have e5 := e3 (o * 2 + 1)
    rw [if_neg (by omega)] at e5
    simp [World.cell?, e1, h1, e5]
theorem Mid.cellsome {w : World} {g o n cap : Nat} {q : List (Nat × Nat)} (h : Mid w g o n cap q) (hn : 0 < n) : (∃ x, w.cell? ⟨g, o * 2, none⟩ = some x) ∧ (∃ x, w.cell? ⟨g, o * 2 + 1, none⟩ = some x) ∧ ∀ j, w.frozen? ⟨g, j, none⟩ = false := by
  obtain ⟨cur, h1, h2, h3, h4, h5, h6⟩ := h
  refine ⟨⟨cur[o * 2], ?_⟩, ⟨cur[o * 2 + 1], ?_⟩, fun j => by simp [World.frozen?, h1]⟩
  · have : o * 2 < cur.size := by omega
    simp [World.cell?, h1, this]
  · have : o * 2 + 1 < cur.size := by omega
    simp [World.cell?, h1, this]
theorem Mid.set {w : World} {g o n cap : Nat} {q : List (Nat × Nat)} (h : Mid w g (o + 1) n cap q) (k : Nat) (hk : k < (o + 1) * 2) (x : Value) : Mid (w.setCell ⟨g, k, none⟩ x) g (o + 1) n cap q := by
  obtain ⟨cur, h1, h2, h3, h4, h5, h6⟩ := h
  refine ⟨_, heap_setCell_same w g k _ _ x h1, h2, h3, by simpa using h4, h5, fun j u hu => ?_⟩
  have := h6 j u hu
  rw [Array.getElem?_setIfInBounds_ne (by omega)]
  exact this

set_option maxHeartbeats 4000000 in
set_option maxRecDepth 100000 in
theorem without_prog {w : World} {g o n cap i : Nat} {q : List (Nat × Nat)} (h : Mid w g o n cap q) (hi : i < n) (hn : n < 1000000000) :
    Calls Try.prog 28 #[.slice (some ⟨g, o * 2, none⟩) n cap, .int .i64 (i : Int)] w fun e w' => ∃ v', e = .returned v' ∧ WSl w' v' (q.eraseIdx i) ∧ v'.ownBlock = some g ∧ ∃ k, Only g (w.drewN k) w' := by
  by_cases hb : n / 2 ≤ i
  · have K := Lib.hid (del_prog h hi)
    have hbI : ((n : Int) / 2) ≤ (i : Int) := by omega
    have hw1 : IntKind.i64.wrap ((i : Int) + 1) = ((i + 1 : Nat) : Int) := by simp only [IntKind.wrap, IntKind.signed, IntKind.bits]; simp; omega
    obtain ⟨I1, hI1⟩ : ∃ I1, i + 1 = I1 := ⟨_, rfl⟩
    rw [hI1] at K hw1
    have hdiv : (n : Int).tdiv 2 = (n : Int) / 2 := Int.tdiv_eq_ediv_of_nonneg (by omega)
    have hlt : (n : Int) ≤ 1000000000 := by omega
    clear h hi hb hI1 hn
    go_enter Try.func28, Try.ntmps28
    go_wp2_with fail
    refine K.out.mono ?_
    rintro e w1 ⟨rfl, hm, k, ho⟩
    have HM := Lib.hid hm.wsl
    have HO := Lib.hid ho
    clear hm ho K
    go_wp2_with fail
    go_ret
    exact ⟨_, rfl, HM.out, rfl, k, HO.out⟩
  · obtain ⟨cur, _, hnc, hcm, _⟩ := id h
    unfold maxLen at hcm
    have ea : (if cap = 1 then some (⟨g, o * 2, none⟩ : Addr) else (some (⟨g, o * 2, none⟩ : Addr)).map (·.add (1 * 2))) = some ⟨g, (o + 1) * 2, none⟩ := by
      rw [if_neg (by omega), Option.map_some, add_mul2, show o * 2 + 1 * 2 = (o + 1) * 2 by omega]
    have hs1 : ∀ W, (Instr.slice 61 (.slice (some ⟨g, o * 2, none⟩) n cap) (some (.int .i64 1)) none none).run Try.prog W = .ok (.slice (some ⟨g, (o + 1) * 2, none⟩) (n - 1) (cap - 1)) W := fun W => by
      have := psl_from (some ⟨g, o * 2, none⟩) n cap 1 (by omega) W
      rw [ea] at this
      exact this
    have hs2 := fun W => psl_to (some ⟨g, o * 2, none⟩) n cap i (by omega) W
    have ea2 : (if cap = 0 then some (⟨g, o * 2, none⟩ : Addr) else (some (⟨g, o * 2, none⟩ : Addr)).map (·.add 0)) = some ⟨g, o * 2, none⟩ := by
      rw [if_neg (by omega), Option.map_some, add_mul2, Nat.add_zero]
    rw [ea2] at hs2
    obtain ⟨w1, hr1, hm1, ho1, hc1, hc2⟩ := run_down (w := w.drew) 3 h hi (cap - 1) cap
    obtain ⟨⟨x0, y0⟩, ⟨x1, y1⟩, hf⟩ := h.cellsome (by omega)
    obtain ⟨_, _, hf1⟩ := hm1.cellsome (by omega)
    have z0 := hc1.trans y0
    have z1 := hc2.trans y1
    have f0 := hf1 (o * 2)
    have f1 := hf1 (o * 2 + 1)
    have HM := Lib.hid ((hm1.set (o * 2) (by omega) (.int .u64 0)).set (o * 2 + 1) (by omega) (.pointer none))
    have HO := Lib.hid ((ho1.setCell (o * 2) (.int .u64 0)).setCell (o * 2 + 1) (.pointer none))
    have hbI : (i : Int) < (n : Int) / 2 := by omega
    have hdiv : (n : Int).tdiv 2 = (n : Int) / 2 := Int.tdiv_eq_ediv_of_nonneg (by omega)
    have hlt : (n : Int) ≤ 1000000000 := by omega
    have h0n : (0 : Int) < (n : Int) := by omega
    clear h hi hb hn hnc hcm ea ea2 hm1 ho1 hc1 hc2 hf1 hf y0 y1
    go_enter Try.func28, Try.ntmps28
    go_wp2_with fail
    go_region_law (refine step_runC rfl _ _ _ _ (by rfl) _ _ _ w1 (by rfl) (by rfl) hr1 ?_)
    go_wp2_with fail
    go_ret
    exact ⟨_, rfl, HM.out.wsl, rfl, 1, HO.out⟩
end Go.Proofs.Ytgdlnjhbencjkaa
