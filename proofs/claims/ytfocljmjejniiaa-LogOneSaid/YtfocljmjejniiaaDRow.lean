/- disk: rows of bytes that a disk owns; their blocks may bear a mark behind their cells. -/
import Derived.Test.YtfocljmjejniiaaLib2
import Derived.Lib.FrozenHead
import Derived.Lib.Hide
import Derived.IntWalk
namespace Go.Proofs.Ytfocljmjejniiaa
open Go.RowKit

/-- The slice value v holds the bytes T, in a block of its own, or is nil. -/
def BRow (w : World) (e : TypeId) (v : Value) (T : ByteArray) : Prop :=
  (v = .slice none 0 0 ∧ T = ⟨#[]⟩) ∨
  ∃ g cap cur fz, v = .slice (some ⟨g, 0, none⟩) T.size cap ∧ w.heap[g]? = some (.cells cur e fz) ∧ (fz.2 = 0 ∨ cur.size ≤ fz.1) ∧ T.size ≤ cap ∧ cap ≤ maxLen ∧ cur.size = cap ∧ cur.toList.take T.size = Lib.strCells T

theorem BRow.shape {w : World} {e : TypeId} {v : Value} {T : ByteArray} (h : BRow w e v T) : ∃ a cap, v = .slice a T.size cap ∧ (T.size ≤ cap ∧ cap ≤ maxLen) ∧ ∀ x, a = some x → x = ⟨x.block, 0, none⟩ := by
  rcases h with ⟨rfl, rfl⟩ | ⟨g, cap, cur, fz, rfl, _, _, h1, h2, _⟩
  · exact ⟨none, 0, rfl, by decide, fun _ h => by cases h⟩
  · exact ⟨_, cap, rfl, ⟨h1, h2⟩, fun x h => by injection h with h; rw [← h]⟩
theorem BRow.lt {w : World} {e : TypeId} {v : Value} {T : ByteArray} (h : BRow w e v T) : ∀ k, v.ownBlock = some k → k < w.heap.size := by
  intro k hk
  rcases h with ⟨rfl, rfl⟩ | ⟨g, cap, cur, fz, rfl, hg, _⟩
  · simp [Value.ownBlock] at hk
  · simp [Value.ownBlock] at hk
    subst hk
    exact (Array.getElem?_eq_some_iff.1 hg).1
theorem BRow.keep {w w' : World} {e : TypeId} {v : Value} {T : ByteArray} (h : BRow w e v T) (hb : ∀ k, v.ownBlock = some k → w'.heap[k]? = w.heap[k]?) : BRow w' e v T := by
  rcases h with h | ⟨g, cap, cur, fz, rfl, hg, h1⟩
  · exact .inl h
  · exact .inr ⟨g, cap, cur, fz, rfl, by rw [hb g (by simp [Value.ownBlock])]; exact hg, h1⟩
theorem strCells_append (s t : ByteArray) : Lib.strCells (s ++ t) = Lib.strCells s ++ Lib.strCells t := by
  simp [Lib.strCells, ByteArray.data_append]
theorem strCells_take (s : ByteArray) (k : Nat) : (Lib.strCells s).take k = Lib.strCells (s.extract 0 k) := by
  simp [Lib.strCells, ByteArray.data_extract]
theorem extract_size (s : ByteArray) (k : Nat) (h : k ≤ s.size) : (s.extract 0 k).size = k := by
  rw [ByteArray.size_extract]; omega
/-- v[:k]. -/
theorem BRow.cut {w : World} {e : TypeId} {a : Option Addr} {cap : Nat} {T : ByteArray} (h : BRow w e (.slice a T.size cap) T) (k : Nat) (hk : k ≤ T.size) : BRow w e (.slice a k cap) (T.extract 0 k) := by
  rcases h with ⟨h1, h2⟩ | ⟨g, cap', cur, fz, h0, hg, hf, h1, h2, h3, h4⟩
  · injection h1 with h3 h4 h5
    subst h2
    subst h5
    have : k = 0 := by have : (ByteArray.mk #[]).size = 0 := rfl; omega
    subst this
    exact .inl ⟨by rw [h3], rfl⟩
  · injection h0 with e1 _ e3
    subst e3
    refine .inr ⟨g, cap, cur, fz, by rw [e1, extract_size _ _ hk], hg, hf, by rw [extract_size _ _ hk]; omega, h2, h3, ?_⟩
    rw [extract_size _ _ hk, ← strCells_take, ← h4, List.take_take]
    congr 1; omega

section
variable {P : Program} {w : World}

theorem store_free (g o : Nat) (t : TypeId) (fz : Nat × Nat) : ∀ (vs : List Value) (i : Nat) (cur : Array Value) (w : World), w.heap[g]? = some (.cells cur t fz) → (fz.2 = 0 ∨ cur.size ≤ fz.1) → o + i + vs.length ≤ cur.size → (∀ v ∈ vs, v.oneCell' = true) →
    (storeCells ⟨g, o, none⟩ vs i).run P w = .ok () (w.setRow g (cur.toList.take (o + i) ++ vs ++ cur.toList.drop (o + i + vs.length)).toArray)
  | [], i, cur, w, hg, _, _, _ => by
    have e := setRow_self w g cur t fz hg
    simp only [storeCells, List.append_nil, List.length_nil, Nat.add_zero, List.take_append_drop, Array.toArray_toList, e]
    rfl
  | v :: vs, i, cur, w, hg, hf, hl, h1 => by
    have hi : o + i < cur.size := by rw [List.length_cons] at hl; omega
    have hc : w.cell? ⟨g, o + i, none⟩ = some cur[o + i] := by simp [World.cell?, hg, hi]
    have hz : w.frozen? ⟨g, o + i, none⟩ = false := by
      obtain ⟨lo, up⟩ := fz
      simp only [World.frozen?, hg, Bool.and_eq_false_iff, decide_eq_false_iff_not]
      simp only at hf
      omega
    have hs : (store ((⟨g, o, none⟩ : Addr).add i) v).run P w = .ok () (w.setRow g (cur.setIfInBounds (o + i) v)) := by
      rw [Addr.add_mid, run_store P w _ v _ (h1 v (List.mem_cons_self ..)), hc]
      simp [hz, setCell_eq_setRow w g (o + i) cur t fz v hg]
    have ih := store_free g o t fz vs (i + 1) (cur.setIfInBounds (o + i) v) (w.setRow g (cur.setIfInBounds (o + i) v)) (setRow_heap w g cur _ t _ hg) (by simpa using hf) (by rw [List.length_cons] at hl; simp; omega) (fun x hx => h1 x (List.mem_cons_of_mem _ hx))
    simp only [storeCells, Sem.run_bind, hs, Result.andThen_ok, ih, setRow_setRow]
    congr 3
    have e := list_seg_step cur.toList (o + i) v vs (by rw [List.length_cons] at hl; simp; omega)
    simpa [Array.toList_setIfInBounds, Nat.add_assoc] using e

theorem app_room (t u ty e : TypeId) (i : TypeInfo) (ht : P.underlying t = some (.slice e)) (hu : P.underlying u = some .string) (hi : P.info? e = some i) (hs1 : i.size = 1)
    (g n cap : Nat) (cur : Array Value) (fz : Nat × Nat) (hg : w.heap[g]? = some (.cells cur e fz)) (hf : fz.2 = 0 ∨ cur.size ≤ fz.1) (s : ByteArray) (hroom : n + s.size ≤ cap) (hfit : n + s.size ≤ cur.size) :
    (Builtin.append_ #[t, u] ty #[.slice (some ⟨g, 0, none⟩) n cap, .string s]).run P w = .ok (.slice (some ⟨g, 0, none⟩) (n + s.size) cap) (w.setRow g (cur.toList.take n ++ Lib.strCells s ++ cur.toList.drop (n + s.size)).toArray) := by
  have h1 := Lib.run_firstCells_string (P := P) w 1 s
  have h2 := store_free (P := P) g n e fz (Lib.strCells s) 0 cur w hg hf (by simpa [Lib.strCells_length] using hfit) (Lib.strCells_oneCell s)
  simp only [Nat.add_zero, Lib.strCells_length] at h2
  simp [Builtin.append_, run_underlying ht, run_underlying hu, sizeOf, typeInfo, hi, hs1, Builtin.lenOf, hroom, h1, Addr.add_lit, h2]

/-- append(b, s...): what comes of it, whether there is room or not. -/
theorem app_str (t u ty e : TypeId) (z : Value) (S : Sl P t e z 1) (hz : z = .int .u8 0) (hu : P.underlying u = some .string) (v : Value) (T : ByteArray) (h : BRow w e v T) (s : ByteArray) (hlim : T.size + s.size ≤ 100000) :
    ∃ v' w', (Builtin.append_ #[t, u] ty #[v, .string s]).run P w = .ok v' w' ∧ BRow w' e v' (T ++ s) ∧ w.grownBy w' v.ownBlock ∧ ∀ k, v'.ownBlock = some k → v.ownBlock = some k ∨ w.heap.size ≤ k := by
  subst hz
  obtain ⟨i, hi, hzero, hsz, hby⟩ := info_parts S.info
  rcases h with ⟨rfl, rfl⟩ | ⟨g, cap, cur, fz, rfl, hg, hf, h1, h2, h3, h4⟩
  · obtain ⟨v', w', hr, ho, hgr, _⟩ := Lib.run_append_own_string (P := P) w w.heap.size t u ty e i S.und hu hi hzero hsz hby (.slice none 0 0) 0 [] (World.ownsRow_nil _ _ _ _) s (by unfold maxLen; omega) (by omega) (Nat.le_refl _)
    refine ⟨v', w', hr, ?_, hgr, fun k hk => .inr (World.ownsRow.lt ho k hk).1⟩
    have e0 : (⟨#[]⟩ : ByteArray) ++ s = s := by ext1; simp [ByteArray.data_append]
    rw [e0]
    simp only [Nat.zero_add, List.nil_append] at ho
    rcases ho.2 with ⟨rfl, h0⟩ | ⟨g, cap, cur, rfl, _, hg, q1, q2, q3, q4⟩
    · exact .inl ⟨rfl, ByteArray.ext (Array.eq_empty_of_size_eq_zero h0)⟩
    · exact .inr ⟨g, cap, cur, (0, 0), rfl, hg, .inl rfl, q1, q2, by simpa using q3, by simpa using q4⟩
  · by_cases hroom : T.size + s.size ≤ cap
    · have hr := app_room (P := P) t u ty e i S.und hu hi hsz g T.size cap cur fz hg hf s hroom (by omega)
      refine ⟨_, _, hr, .inr ⟨g, cap, _, fz, by rw [ByteArray.size_append], setRow_heap w g cur _ e _ hg, ?_, by rw [ByteArray.size_append]; exact hroom, h2, ?_, ?_⟩, ⟨rfl, rfl, rfl, by simp, fun k _ hk => setRow_other w g k _ (fun e => hk (by simp [Value.ownBlock, e]))⟩, fun k hk => .inl hk⟩
      · rcases hf with hf | hf
        · exact .inl hf
        · refine .inr ?_
          simp only [List.size_toArray, List.length_append, List.length_take, List.length_drop, Array.length_toList, Lib.strCells_length]
          omega
      · simp only [List.size_toArray, List.length_append, List.length_take, List.length_drop, Array.length_toList, Lib.strCells_length]
        omega
      · rw [h4, ByteArray.size_append, strCells_append]
        have hl : (Lib.strCells T ++ Lib.strCells s).length = T.size + s.size := by rw [List.length_append, Lib.strCells_length, Lib.strCells_length]
        rw [← hl]
        exact List.take_left
    · have hold : ∀ j x, (Lib.strCells T)[j]? = some x → w.cell? ((⟨g, 0, none⟩ : Addr).add j) = some x := fun j x hx => by
        rw [Addr.add_mid, Nat.zero_add, cell_of_row w g j cur e fz hg]
        rw [← h4, List.getElem?_take] at hx
        split at hx
        · simpa using hx
        · cases hx
      have hr := Lib.run_append_grow_string (P := P) w t u ty e i (.int .u8 0) S.und hu hi hzero ⟨g, 0, none⟩ T.size cap (Lib.strCells T) (by rw [hsz, Lib.strCells_length]; simp) hold s (by omega) (by omega) (by rw [hby]; exact growslice_fits (by omega) (by omega))
      have hge := grownCap_ge w (T.size + s.size) cap e
      have hle : grownCap w (T.size + s.size) cap e ≤ maxLen := grownCap_le_maxLen w (T.size + s.size) cap e (by unfold maxLen; omega)
      refine ⟨_, _, hr, .inr ⟨w.heap.size, _, _, (0, 0), by rw [ByteArray.size_append], heap_alloc_new w.drew _, .inl rfl, by rw [ByteArray.size_append]; exact hge, hle, ?_, ?_⟩, ⟨rfl, rfl, rfl, by simp, fun k hk _ => heap_alloc_old w.drew _ hk⟩, fun k hk => .inr ?_⟩
      · have hz1 : (Value.int IntKind.u8 0).cells.size = 1 := rfl
        simp only [Array.size_append, List.size_toArray, size_zeroCells, hz1, Lib.strCells_length]
        omega
      · simp only [Array.toList_append, List.append_assoc]
        have hl : (Lib.strCells T ++ Lib.strCells s).length = T.size + s.size := by rw [List.length_append, Lib.strCells_length, Lib.strCells_length]
        rw [← List.append_assoc, ByteArray.size_append, strCells_append, ← hl]
        exact List.take_left
      · have : w.heap.size = k := by simpa [Value.ownBlock] using hk
        omega
theorem list_appS {ops : Array Oper} {rest : List Oper} {o : Oper} {a : Act} {Q : Exit → Act → World → Prop} (hgd : o.guard = none) (sl x : Operand) (t u : TypeId)
    (ho : o.op = .call { callee := .builtin .append, args := #[sl, x], argTypes := #[t, u] })
    (v v' : Value) (s : ByteArray) (W : World) (hs : a.eval sl = v) (hx : a.eval x = .string s) (hr : (Builtin.append_ #[t, u] o.type #[v, .string s]).run P w = .ok v' W)
    (h : wpList P ops Q rest (a.put o.dst v') W) : wpList P ops Q (o :: rest) a w := by
  refine wpList_plain hgd fun K hK => ?_
  unfold Oper.wp execOp
  simp only [ho, resolve, invoke, builtin, Sem.run_bind, Sem.run_pure, Result.andThen_ok, List.map_toArray, List.map_cons, List.map_nil, hs, hx, hr]
  exact hK _ _ h

/-- string(b). -/
theorem str_of {src dst e : TypeId} (hs : P.underlying src = some (.slice e)) (he : P.underlying e = some (.int .u8)) (hd : P.underlying dst = some .string) {v : Value} {T : ByteArray} (h : BRow w e v T) :
    (convert src dst v).run P w = .ok (.string T) w := by
  rcases h with ⟨rfl, rfl⟩ | ⟨g, cap, cur, fz, rfl, hg, hf, h1, h2, h3, h4⟩
  · rw [run_convert_bytes_string w src dst e none _ _ hs he hd]
    rfl
  · have hc := run_convert_bytes_back (P := P) w src dst e ⟨g, 0, none⟩ cap T.data.toList hs he hd (fun j hj => by
      rw [Addr.add_mid, Nat.zero_add, cell_of_row w g j cur e fz hg]
      have hj2 : j < T.size := by simpa using hj
      have := congrArg (·[j]?) h4
      simp only [List.getElem?_take, if_pos hj2] at this
      rw [Array.getElem?_toList] at this
      rw [this]
      have hj3 : j < T.data.size := hj2
      simp only [Lib.strCells, List.getElem?_map, Array.getElem?_toList]
      rw [Array.getElem?_eq_getElem hj3]
      simp)
    simpa using hc

/-- []byte(s). -/
theorem bytes_of {src dst e : TypeId} (hs : P.underlying src = some .string) (hd : P.underlying dst = some (.slice e)) (he : P.underlying e = some (.int .u8)) (s : ByteArray) (hlim : s.size ≤ 100000) :
    ∃ cap W, (convert src dst (.string s)).run P w = .ok (.slice (some ⟨w.heap.size, 0, none⟩) s.size cap) W ∧ BRow W e (.slice (some ⟨w.heap.size, 0, none⟩) s.size cap) s ∧ Below w.heap.size w W := by
  have hr := run_bytes_of_string (P := P) w src dst e s hs hd he
  obtain ⟨cap, hcap⟩ : ∃ cap, cap = grownCap w s.size 0 e := ⟨_, rfl⟩
  have hge := grownCap_ge w s.size 0 e
  have hle : grownCap w s.size 0 e ≤ maxLen := grownCap_le_maxLen w s.size 0 e (by unfold maxLen; omega)
  rw [← hcap] at hr hge hle
  have hsz : (bytesRow s cap).size = cap := by
    unfold bytesRow
    simp only [Array.size_append, Array.size_map, Array.size_replicate]
    have : s.data.size = s.size := rfl
    omega
  refine ⟨cap, _, hr, .inr ⟨w.heap.size, cap, bytesRow s cap, _, rfl, heap_alloc_new w.drew _, .inr (Nat.le_refl _), hge, hle, hsz, ?_⟩, (Below.refl _ w).drew.alloc (Nat.le_refl _) _⟩
  unfold bytesRow
  rw [Array.toList_append, Array.toList_map]
  have : s.size = (List.map (fun b => Value.int IntKind.u8 (b.toNat : Int)) s.data.toList).length := by simp
  rw [this, List.take_left]
  rfl
end
end Go.Proofs.Ytfocljmjejniiaa
