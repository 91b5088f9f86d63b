/- log: slices.Insert and slices.Replace at the end of a slice of entries. -/
import Derived.Test.YtfocljmjejniiaaGCt
import Derived.ArgAppend
namespace Go.Proofs.Ytfocljmjejniiaa
open Go.RowKit

/-- s[l:]. -/
theorem slice_from (a : Option Addr) (n cp l : Nat) (h : l ≤ n) (W : World) : (Instr.slice 22 (.slice a n cp) (some (.int .i64 (l : Int))) none none).run Try.prog W =
    .ok (.slice (if cp = l then a else a.map (·.add (l * 2))) (n - l) (cp - l)) W := by
  simp [Instr.slice, Instr.sliceBounds, Instr.sliceBound, asIntOf, run_underlying Try.underlying22, h]
/-- s[l:h]. -/
theorem slice_both (a : Option Addr) (n cp l h : Nat) (h1 : l ≤ h) (h2 : h ≤ cp) (W : World) : (Instr.slice 22 (.slice a n cp) (some (.int .i64 (l : Int))) (some (.int .i64 (h : Int))) none).run Try.prog W =
    .ok (.slice (if cp = l then a else a.map (·.add (l * 2))) (h - l) (cp - l)) W := by
  simp [Instr.slice, Instr.sliceBounds, Instr.sliceBound, asIntOf, run_underlying Try.underlying22, h1, h2]
/-- s[:h]. -/
theorem slice_to (a : Option Addr) (n cp h : Nat) (h2 : h ≤ cp) (W : World) : (Instr.slice 22 (.slice a n cp) none (some (.int .i64 (h : Int))) none).run Try.prog W =
    .ok (.slice (if cp = 0 then a else a.map (·.add 0)) h cp) W := by
  simp [Instr.slice, Instr.sliceBounds, Instr.sliceBound, asIntOf, run_underlying Try.underlying22, h2]

set_option maxHeartbeats 1000000 in
set_option maxRecDepth 100000 in
theorem insert_prog (s v : Value) (E E2 : List Ent) (w : World) (h : EOwn w 0 s E) (hv : ESl w v E2) (hl : E.length + E2.length ≤ 100000) :
    Calls Try.prog 60 #[s, .int .i64 (E.length : Int), v] w fun e w' => ∃ v', e = .returned v' ∧ EOwn w' 0 v' (E ++ E2) ∧ Grew w s w' v' := by
  have H := Lib.hid h
  have HV := Lib.hid hv
  have HL := Lib.hid hl
  obtain ⟨a, cp, rfl, hcp, hcm, hsp⟩ := h.shape
  obtain ⟨a2, cp2, rfl, hcp2, _⟩ := hv
  have h1 : (E.length : Int) ≤ 100000 := by omega
  have h2 : (E2.length : Int) ≤ 100000 := by omega
  have hcpI : (E.length : Int) ≤ (cp : Int) := by omega
  unfold maxLen at hcm
  have hs1 := slice_from a E.length cp E.length (Nat.le_refl _) w
  obtain ⟨X, hX⟩ : ∃ X, (Value.slice (if cp = E.length then a else a.map (·.add (E.length * 2))) (E.length - E.length) (cp - E.length)) = X := ⟨_, rfl⟩
  rw [hX] at hs1
  clear h hl hsp hcp2 hX
  by_cases h0 : E2 = []
  · subst h0
    have e0 : ((([] : List Ent).length : Nat) : Int) = 0 := rfl
    rw [List.append_nil]
    go_enter Try.func60, Try.ntmps60
    go_wp2_with fail
    go_ret
    exact ⟨_, rfl, H.out, Grew.refl _ _⟩
  · have hne : E2.length ≠ 0 := fun e => h0 (List.eq_nil_of_length_eq_zero e)
    have hneI : ((E2.length : Int) == 0) = false := by simp; exact h0
    clear h0 hne
    go_enter Try.func60, Try.ntmps60
    go_wp2_with (at_builtin; refine list_appE rfl _ _ rfl 0 _ E rfl H.out _ E2 rfl HV.out HL.out (Nat.zero_le _) ?_)
    intro v' w' ho hg
    obtain ⟨a3, c3, hv3, _⟩ := ho.shape
    obtain ⟨m, hm⟩ : ∃ m, (E ++ E2).length = m := ⟨_, rfl⟩
    rw [hm] at hv3
    subst hv3
    have HO := Lib.hid ho
    have HG := Lib.hid hg
    clear ho hg hm
    go_wp2_with fail
    go_ret
    exact ⟨_, rfl, HO.out, HG.out⟩

/-- append into the room behind what is owned. -/
theorem appE_room {w : World} {g n cp ty : Nat} {l m : List Ent} {xv : Value} (h : EOwn w 0 (.slice (some ⟨g, 0, none⟩) n cp) l) (hn : l.length = n) (hx : ESl w xv m) (hroom : n + m.length ≤ cp) :
    ∃ w', (Builtin.append_ #[22, 22] ty #[.slice (some ⟨g, 0, none⟩) n cp, xv]).run Try.prog w = .ok (.slice (some ⟨g, 0, none⟩) (n + m.length) cp) w' ∧ EOwn w' 0 (.slice (some ⟨g, 0, none⟩) (n + m.length) cp) (l ++ m) ∧ Only g w w' := by
  obtain ⟨i, hi, hz, hsz, hby⟩ := info_parts Try.entSl.info
  obtain ⟨ad, c, rfl, _, hcells⟩ := hx
  by_cases hm : m = []
  · subst hm
    exact ⟨w, run_append_empty (P := Try.prog) (w := w) 0 22 ty 37 i 2 Try.underlying22 hi _ l.length (entC l) h ad c, by simpa using h, Only.refl _ _⟩
  · obtain ⟨g2, o2, rfl, hg2, hc⟩ := hcells hm
    rcases h.2 with ⟨h1, _⟩ | ⟨g', cap', cur, he, hB, hg, hnc, hcm, hcs, ht⟩
    · cases h1
    · injection he with h5 h6 h7
      injection h5 with h5
      obtain rfl : g = g' := by simpa using h5
      subst h7
      have hlen : (entC m).length = m.length * i.size := by rw [entC_length, hsz]
      have hfit : n * 2 + (entC m).length ≤ cur.size := by rw [entC_length, hcs]; omega
      have hr := run_append_room_cells (P := Try.prog) w 22 ty 37 i Try.underlying22 hi g 0 n cp ⟨g2, o2, none⟩ m.length c (entC m) hlen (fun j u hu => by
        have := ESl.news hc j u hu
        unfold Addr.add
        split
        · rename_i h0; subst h0; simpa using this
        · exact this) (entC_one m) hroom (fun j hj => by
          have : n * i.size + j < cur.size := by rw [hsz]; omega
          simp [World.cell?, hg, this]) (fun j _ => by simp [World.frozen?, hg])
      rw [hsz, Nat.zero_add] at hr
      obtain ⟨q1, q2⟩ := setCells_heap (entC m) w g (n * 2) cur 37 hg hfit
      refine ⟨_, hr, ⟨entC_length _, .inr ⟨g, cp, _, by rw [List.length_append, hn], hB, q1, by rw [List.length_append]; omega, hcm, ?_, ?_⟩⟩, q2⟩
      · simp only [List.size_toArray, List.length_append, List.length_take, List.length_drop, Array.length_toList]
        omega
      · have hcl : (cur.toList.take (n * 2) ++ entC m).length = (l ++ m).length * 2 := by
          rw [List.length_append, entC_length, List.length_append, List.length_take, Array.length_toList]; omega
        rw [List.toList_toArray, ← hcl, List.take_left, entC_append, ← ht, hn]
theorem list_appR {P : Program} {w : World} {ops : Array Oper} {rest : List Oper} {o : Oper} {a : Act} {Q : Exit → Act → World → Prop} (hgd : o.guard = none) (sl x : Operand) (t u : TypeId)
    (ho : o.op = .call { callee := .builtin .append, args := #[sl, x], argTypes := #[t, u] })
    (v xv v' : Value) (W : World) (hs : a.eval sl = v) (hx : a.eval x = xv) (hr : (Builtin.append_ #[t, u] o.type #[v, xv]).run P w = .ok v' W)
    (h : wpList P ops Q rest (a.put o.dst v') W) : wpList P ops Q (o :: rest) a w := by
  refine wpList_plain hgd fun K hK => ?_
  unfold Oper.wp execOp
  simp only [ho, resolve, invoke, builtin, Sem.run_bind, Sem.run_pure, Result.andThen_ok, List.map_toArray, List.map_cons, List.map_nil, hs, hx, hr]
  exact hK _ _ h
theorem Grew.ofOnly {g n n' c c' : Nat} {w w' : World} (h : Only g w w') : Grew w (.slice (some ⟨g, 0, none⟩) n c) w' (.slice (some ⟨g, 0, none⟩) n' c') :=
  ⟨⟨h.os, h.tape, h.output, h.size, fun k hk hne => h.block k hk (fun e => hne (by rw [e]; rfl))⟩, fun _ h => .inl h⟩

set_option maxHeartbeats 2000000 in
set_option maxRecDepth 100000 in
theorem replace_prog (s v : Value) (E E2 : List Ent) (i : Nat) (w : World) (h : EOwn w 0 s E) (hv : ESl w v E2) (hi : i ≤ E.length) (hl : E.length + E2.length ≤ 100000) :
    Calls Try.prog 50 #[s, .int .i64 (i : Int), .int .i64 (E.length : Int), v] w fun e w' => ∃ v', e = .returned v' ∧ EOwn w' 0 v' (E.take i ++ E2) ∧ Grew w s w' v' := by
  have H := Lib.hid h
  have HV := Lib.hid hv
  have HL := Lib.hid hl
  have HI := Lib.hid hi
  have HIN := Lib.hid (fun e : i = E.length => e ▸ insert_prog s v E E2 w h hv hl)
  obtain ⟨a, cp, rfl, hcp, hcm, hsp⟩ := h.shape
  obtain ⟨a2, cp2, rfl, hcp2, _⟩ := hv
  have h1 : (E.length : Int) ≤ 100000 := by omega
  have h2 : (E2.length : Int) ≤ 100000 := by omega
  have hcpI : (E.length : Int) ≤ (cp : Int) := by omega
  have hiI : (i : Int) ≤ (E.length : Int) := by omega
  unfold maxLen at hcm
  have hs1 := slice_both a E.length cp i E.length hi hcp w
  obtain ⟨X, hX⟩ : ∃ X, (Value.slice (if cp = i then a else a.map (·.add (i * 2))) (E.length - i) (cp - i)) = X := ⟨_, rfl⟩
  rw [hX] at hs1
  clear hcp2 hX
  by_cases h0 : i = E.length
  · have HK := Lib.hid (HIN.out h0)
    subst h0
    rw [List.take_length]
    clear HIN h hl hsp hi
    go_enter Try.func50, Try.ntmps50
    go_wp2_with fail
    refine HK.out.mono ?_
    rintro e w1 ⟨v', rfl, ho, hg⟩
    obtain ⟨a3, c3, hv3, _⟩ := ho.shape
    obtain ⟨m, hm⟩ : ∃ m, (E ++ E2).length = m := ⟨_, rfl⟩
    rw [hm] at hv3
    subst hv3
    have HO := Lib.hid ho
    have HG := Lib.hid hg
    clear ho hg hm
    go_wp2_with fail
    go_ret
    exact ⟨_, rfl, HO.out, HG.out⟩
  · have hneI : ((i : Int) == (E.length : Int)) = false := by simp; omega
    obtain ⟨g, rfl⟩ : ∃ g, a = some ⟨g, 0, none⟩ := by
      rcases EOwn.zero 0 h with h3 | ⟨_, _, h3⟩
      · exact h3
      · exfalso; apply h0; rw [h3] at hi ⊢; simpa using hi
    have hcut := h.cut i hi
    have hs2 := slice_to (some ⟨g, 0, none⟩) E.length cp i (by omega) w
    have e3 : (if cp = 0 then some (⟨g, 0, none⟩ : Addr) else (some (⟨g, 0, none⟩ : Addr)).map (·.add 0)) = some ⟨g, 0, none⟩ := by split <;> rfl
    rw [e3] at hs2
    have hti : (E.take i).length = i := by rw [List.length_take]; omega
    have HT := Lib.hid hti
    have HC := Lib.hid hcut
    clear HIN h hsp hcut e3 hti
    by_cases hb : i + E2.length < E.length
    · have hbI : (i : Int) + (E2.length : Int) < (E.length : Int) := by omega
      obtain ⟨w1, hr1, ho1, hon1⟩ := appE_room (ty := 22) HC.out HT.out HV.out (by omega)
      have hlen : (E.take i ++ E2).length = i + E2.length := by rw [List.length_append, HT.out]
      obtain ⟨w2, hr2, ho2, hon2⟩ := clear_behind (ty := 0) ho1 hlen hb hcp
      have hs3 := slice_from (some ⟨g, 0, none⟩) E.length cp (i + E2.length) (Nat.le_of_lt hb) w1
      have e4 : (if cp = i + E2.length then some (⟨g, 0, none⟩ : Addr) else (some (⟨g, 0, none⟩ : Addr)).map (·.add ((i + E2.length) * 2))) = some ⟨g, (i + E2.length) * 2, none⟩ := by
        rw [if_neg (by omega)]
        simp only [Option.map_some, Addr.add_mid, Nat.zero_add]
      rw [e4] at hs3
      have hip : ((i + E2.length : Nat) : Int) = (i : Int) + (E2.length : Int) := by omega
      rw [hip] at hs3
      have HO := Lib.hid ho2
      have HG : Hid (Grew w (.slice (some ⟨g, 0, none⟩) E.length cp) w2 (.slice (some ⟨g, 0, none⟩) (i + E2.length) cp)) := Lib.hid (Grew.ofOnly (hon1.trans hon2))
      clear ho1 hon1 ho2 hon2 hlen e4 hb hi hl hip h0
      go_enter Try.func50, Try.ntmps50
      go_wp2_with (at_builtin; refine list_appR rfl _ _ _ _ rfl _ _ _ w1 rfl rfl hr1 ?_)
      go_wp2_with fail
      go_ret
      exact ⟨_, rfl, HO.out, HG.out⟩
    · have hbI : ¬ ((i : Int) + (E2.length : Int) < (E.length : Int)) := by omega
      clear hb h0
      go_enter Try.func50, Try.ntmps50
      go_wp2_with (at_builtin; refine list_appE rfl _ _ rfl 0 _ (E.take i) rfl HC.out _ E2 rfl HV.out (by have := HT.out; have := HL.out; have := HI.out; omega) (Nat.zero_le _) ?_)
      intro v' w' ho hg
      have hlen : (E.take i ++ E2).length = i + E2.length := by rw [List.length_append, HT.out]
      obtain ⟨a3, c3, hv3, hc3, hm3, hsp3⟩ := ho.shape
      rw [hlen] at hv3 hc3
      subst hv3
      have HO := Lib.hid ho
      have HG := Lib.hid hg
      clear ho hg hlen hsp3
      go_wp2_with fail
      go_ret
      exact ⟨_, rfl, HO.out, HG.out.grow, HG.out.loc⟩
end Go.Proofs.Ytfocljmjejniiaa
