/- Arrays in variables: loaded, stored and handed back whole; worlds that part in one block alone. -/
import Derived.Test.YtgdlnjhbencjkaaLib
import Derived.Deep.MidRow
import Derived.StillTailTactics
import Derived.Lib.AppendStr
import Derived.Laws.IdiomCopy
import Derived.ChangeKeysEq
namespace Go.Proofs.Ytgdlnjhbencjkaa
open Go.RowKit

def arrL (n : Nat) (f : Nat → Value) : List Value := (List.range n).map f
theorem arrL_length (n : Nat) (f : Nat → Value) : (arrL n f).length = n := by simp [arrL]
theorem arrL_get (n : Nat) (f : Nat → Value) (j : Nat) (h : j < n) : (arrL n f)[j]? = some (f j) := by simp [arrL, h]

theorem rowIs_block {w : World} {g n : Nat} {t : TypeId} {f : Nat → Value} (h : w.rowIs g t n f) : w.heap[g]? = some (.cells (arrL n f).toArray t (0, 0)) := by
  obtain ⟨c, hg, hn, hc⟩ := h
  rw [hg]
  have : c = (arrL n f).toArray := by
    apply Array.ext (by simp [arrL, hn])
    intro i h1 h2
    have h3 := hc i (by omega)
    rw [Array.getElem?_eq_getElem h1] at h3
    simp [arrL]; exact Option.some.inj h3
  rw [this]
theorem rowIs_of_block {w : World} {g n : Nat} {t : TypeId} {f : Nat → Value} (h : w.heap[g]? = some (.cells (arrL n f).toArray t (0, 0))) : w.rowIs g t n f :=
  ⟨_, h, by simp [arrL], fun i hi => by simp [arrL, hi]⟩

/-- w' is w but for block g and for new blocks. -/
structure Only (g : Nat) (w w' : World) : Prop where
  os : w'.os = w.os
  tape : w'.tape = w.tape
  output : w'.output = w.output
  size : w.heap.size ≤ w'.heap.size
  block : ∀ k, k < w.heap.size → k ≠ g → w'.heap[k]? = w.heap[k]?
theorem Only.refl (g : Nat) (w : World) : Only g w w := ⟨rfl, rfl, rfl, Nat.le_refl _, fun _ _ _ => rfl⟩
theorem Only.trans {g : Nat} {a b c : World} (h : Only g a b) (k : Only g b c) : Only g a c :=
  ⟨k.os.trans h.os, k.tape.trans h.tape, k.output.trans h.output, Nat.le_trans h.size k.size, fun i hi hg => (k.block i (Nat.lt_of_lt_of_le hi h.size) hg).trans (h.block i hi hg)⟩
theorem Only.ofBelow {g : Nat} {w w' : World} (h : Below w.heap.size w w') : Only g w w' := ⟨h.os, h.tape, h.output, h.size, fun k hk _ => h.block k hk⟩
theorem Only.ofSame {g : Nat} {w w' : World} (h : Same w w') : Only g w w' := .ofBelow (h.below _)
theorem Only.drew {g : Nat} {a w : World} (h : Only g a w) : Only g a w.drew := ⟨h.os, h.tape, h.output, h.size, h.block⟩
theorem Only.alloc {g : Nat} {a w : World} (h : Only g a w) (o : Obj) : Only g a (w.alloc o) := h.trans (.ofBelow ((Below.refl _ _).alloc (Nat.le_refl _) o))
theorem Only.setCell {g : Nat} {a w : World} (h : Only g a w) (i : Nat) (v : Value) : Only g a (w.setCell ⟨g, i, none⟩ v) :=
  h.trans ⟨rfl, rfl, rfl, by simp [World.setCell], fun _ _ hg => Below.heap_setCell _ _ _ _ hg⟩
theorem Only.below {g B : Nat} {w w' : World} (h : Only g w w') (hB : B ≤ g) (hw : B ≤ w.heap.size) : Below B w w' := ⟨h.os, h.tape, h.output, h.size, fun k hk => h.block k (by omega) (by omega)⟩
theorem Only.row {g b n : Nat} {t : TypeId} {f : Nat → Value} {w w' : World} (h : Only g w w') (hr : w.rowIs b t n f) (hb : b ≠ g) : w'.rowIs b t n f := hr.of_block (h.block b hr.lt hb)
theorem Only.cell {g b j : Nat} {v : Value} {w w' : World} (h : Only g w w') (hc : w.cell? ⟨b, j, none⟩ = some v) (hb : b ≠ g) : w'.cell? ⟨b, j, none⟩ = some v := by
  have hlt := World.block_lt_of_cell? w _ hc
  rw [← hc]; exact World.cell?_of_block (w := w) (h.block b hlt hb)

theorem setCells_heap : ∀ (vs : List Value) (w : World) (g o : Nat) (c : Array Value) (t : TypeId), w.heap[g]? = some (.cells c t (0, 0)) → o + vs.length ≤ c.size →
    (w.setCells g o vs).heap[g]? = some (.cells (c.toList.take o ++ vs ++ c.toList.drop (o + vs.length)).toArray t (0, 0)) ∧ Only g w (w.setCells g o vs)
  | [], w, g, o, c, t, h, hl => ⟨by simpa [World.setCells] using h, Only.refl _ _⟩
  | v :: r, w, g, o, c, t, h, hl => by
    have hl' : o + 1 + r.length ≤ c.size := by simp at hl; omega
    have h1 := heap_setCell_same w g o c t v h
    obtain ⟨h2, h3⟩ := setCells_heap r (w.setCell ⟨g, o, none⟩ v) g (o + 1) (c.setIfInBounds o v) t h1 (by simpa using hl')
    refine ⟨?_, ((Only.refl g w).setCell o v).trans h3⟩
    show ((w.setCell ⟨g, o, none⟩ v).setCells g (o + 1) r).heap[g]? = _
    rw [h2]
    congr 3
    have ho : o < c.toList.length := by simp; omega
    have e1 : (c.setIfInBounds o v).toList = c.toList.set o v := by simp
    rw [e1]
    have e2 : (c.toList.set o v).take (o + 1) = c.toList.take o ++ [v] := by
      rw [List.take_succ_eq_append_getElem (by simpa using ho), List.take_set_of_le (Nat.le_refl _)]
      simp
    have e3 : (c.toList.set o v).drop (o + 1 + r.length) = c.toList.drop (o + (v :: r).length) := by
      rw [List.drop_set_of_lt (by omega)]; simp; congr 1; omega
    rw [e2, e3]; simp

section
variable {P : Program} {w : World}

/-- A load of a whole array out of a variable. -/
theorem list_load_arr {ops : Array Oper} {rest : List Oper} {o : Oper} {a : Act} {Q : Exit → Act → World → Prop} {ty e : TypeId} {n : Nat} (hu : P.underlying ty = some (.array n e)) (hi : (P.info? ty).map (·.size) = some n)
    (hgd : o.guard = none) (x : Operand) (ho : o.op = .load ty x) (g : Nat) (t : TypeId) (f : Nat → Value) (hx : a.eval x = .pointer (some ⟨g, 0, none⟩)) (hr : w.rowIs g t n f)
    (h : wpList P ops Q rest (a.put o.dst (.agg (arrL n f).toArray)) w) : wpList P ops Q (o :: rest) a w :=
  wpList_load_row hgd ty x ho g hx t _ (0, 0) _ (rowIs_block hr) hu rfl (by rw [hi]; simp [arrL]) h

/-- A store of a whole array into a variable. -/
theorem list_store_arr {ops : Array Oper} {rest : List Oper} {o : Oper} {a : Act} {Q : Exit → Act → World → Prop} {ty : TypeId} {n : Nat} (hi : (P.info? ty).map (·.size) = some n)
    (hgd : o.guard = none) (x y : Operand) (ho : o.op = .store ty x y) (g : Nat) (t : TypeId) (f0 f : Nat → Value) (hx : a.eval x = .pointer (some ⟨g, 0, none⟩)) (hy : a.eval y = .agg (arrL n f).toArray)
    (hr : w.rowIs g t n f0) (h1 : ∀ j, (f j).oneCell' = true)
    (h : ∀ w', w'.rowIs g t n f → Only g w w' → wpList P ops Q rest (a.put o.dst undef) w') : wpList P ops Q (o :: rest) a w := by
  have hb := rowIs_block hr
  refine wpList_store_mid hgd ty x y ho g 0 _ hx hy ?_ (by rw [hi]; simp [arrL]) (all_oneCell_toArray (by
    intro v hv; simp [arrL] at hv; obtain ⟨j, _, rfl⟩ := hv; exact h1 j)) ?_
  · intro j hj
    have hj' : j < n := by simpa [arrL] using hj
    rw [Nat.zero_add]
    exact ⟨by rw [hr.cell hj']; rfl, hr.frozen j⟩
  · obtain ⟨h2, h3⟩ := setCells_heap (arrL n f) w g 0 _ t hb (by simp [arrL])
    refine h _ (rowIs_of_block ?_) (by simpa using h3)
    have : (w.setCells g 0 (arrL n f).toArray.toList) = w.setCells g 0 (arrL n f) := by simp
    rw [this, h2]
    simp [arrL]

/-- The result lies in a variable of an array's type. -/
theorem ret_arr {fn : Func} {R : Ending → World → Prop} {a : Act} {p : Tmp} {ty e : TypeId} {n g : Nat} {t : TypeId} {f : Nat → Value} (h : fn.results = #[.cell p ty])
    (hu : P.underlying ty = some (.array n e)) (hi : (P.info? ty).map (·.size) = some n) (hp : a.tmps.getD p undef = .pointer (some ⟨g, 0, none⟩)) (hr : w.rowIs g t n f) (hd : a.defers = [])
    (hR : R (.returned (.agg (arrL n f).toArray)) w) : bodyPost P fn R .ret a w :=
  bodyPost_ret (results_cell_row h a.tmps w g t _ (0, 0) _ hp (rowIs_block hr) hu rfl (by rw [hi]; simp [arrL])) hd hR
end
theorem rowIs_rep {w : World} {c : Array Value} {t : TypeId} {n : Nat} {v : Value} (h : c = Array.replicate n v) : (w.alloc (.cells c t)).rowIs w.heap.size t n (fun _ => v) :=
  ⟨c, heap_at_alloc w _, by simp [h], fun i hi => by simp [h, hi]⟩

section
variable {P : Program} {w : World}

/-- append(b, s...), s a string. -/
theorem list_app_str {ops : Array Oper} {rest : List Oper} {o : Oper} {a : Act} {Q : Exit → Act → World → Prop} {t e u : TypeId} (S : Sl P t e (.int .u8 0) 1) (hu : P.underlying u = some .string) (hgd : o.guard = none) (sl x : Operand)
    (ho : o.op = .call { callee := .builtin .append, args := #[sl, x], argTypes := #[t, u] }) (B : Nat) (v : Value) (xs : List UInt8) (hs : a.eval sl = v) (hown : Owns w B e v (xs.map byteV)) (s : ByteArray) (hx : a.eval x = .string s)
    (h63 : xs.length + s.size ≤ maxLen) (hbytes : xs.length + s.size ≤ 140737488355328) (hbase : B ≤ w.heap.size)
    (h : ∀ v' w', Owns w' B e v' ((xs ++ s.data.toList).map byteV) → Below B w w' → wpList P ops Q rest (a.put o.dst v') w') : wpList P ops Q (o :: rest) a w := by
  obtain ⟨i, hi, hz, hsz, hby⟩ := info_parts S.info
  refine Lib.wpList_append_own_string w hgd sl x t u ho B e i S.und hu hi hz hsz hby v (xs.map byteV).length (xs.map byteV) hs hown s hx (by simpa using h63) (by simpa using hbytes) hbase ?_
  intro v' w' h1 h2 _
  refine h v' w' ?_ (Below.ofGrown hown h2 hbase)
  unfold Owns
  have e1 : (xs ++ s.data.toList).map byteV = xs.map byteV ++ Lib.strCells s := by rw [List.map_append]; rfl
  have e2 : ((xs ++ s.data.toList).map byteV).length = (xs.map byteV).length + s.size := by simp
  rw [e2, e1]; exact h1

theorem run_index_arr {ty e : TypeId} {n : Nat} (hu : P.underlying ty = some (.array n e)) (he : P.plainKey e = true) (hc : P.cellsOf e = 1) (i : TypeInfo) (hi : P.info? e = some i) (f : Nat → Value) (k : Nat) (hk : k < n) :
    (Instr.index ty (.agg (arrL n f).toArray) (.int .i64 k)).run P w = .ok (f k) w := by
  have hp := run_part_plain (P := P) (w := w) he (xs := (arrL n f).toArray) (off := k) (v := f k) (by simp [arrL, hk])
  simp [Instr.index, asIntOf, run_underlying hu, run_sizeOf w hi, hc, hp, hk]

theorem run_copy_str (dT sT ty elem : TypeId) (g dLen dCap m : Nat) (s : ByteArray) (hm : m = Nat.min s.size dLen) (hu : P.underlying dT = some (.slice elem)) (hs : (P.info? elem).map (·.size) = some 1)
    (hc : ∀ j, j < m → (w.cell? ⟨g, j, none⟩).isSome = true) (hf : ∀ j, j < m → w.frozen? ⟨g, j, none⟩ = false) :
    (Builtin.copy_ #[dT, sT] ty #[.slice (some ⟨g, 0, none⟩) dLen dCap, .string s]).run P w = .ok (goInt m) (w.setCells g 0 ((s.data.toList.take m).map byteV)) := by
  have hl : ((s.data.toList.take m).map byteV).length = m := by
    simp [hm, Nat.min_le_left]
  have hst := run_storeCells_cells (P := P) g 0 ((s.data.toList.take m).map byteV) 0 w (by rw [hl]; simpa using hc) (by rw [hl]; simpa using hf) (by intro v hv; obtain ⟨b, _, rfl⟩ := List.mem_map.1 hv; rfl)
  have he0 : (s.extract 0 m).data.toList = s.data.toList.take m := by simp
  have he : ((s.extract 0 m).data.map fun b => Value.int .u8 b.toNat).toList = (s.data.toList.take m).map byteV := by rw [Array.toList_map, he0]; rfl
  cases hq : P.info? elem with
  | none => simp [hq] at hs
  | some i =>
    have h1 : i.size = 1 := by simpa [hq] using hs
    rw [Nat.zero_add] at hst
    simp only [Builtin.copy_, List.getElem?_toArray, List.getElem?_cons_zero, List.getElem?_cons_succ, Sem.run_bind, Sem.run_pure, Result.andThen_ok, run_underlying hu, Builtin.lenOf, ← hm, sizeOf, typeInfo, Builtin.firstCells, he]
    rw [List.map_take] at hst ⊢
    simp [hq, hst]

/-- copy(b, s), b a row of bytes, s a string. -/
theorem list_copy_str {ops : Array Oper} {rest : List Oper} {o : Oper} {a : Act} {Q : Exit → Act → World → Prop} {dT sT e : TypeId} (hu : P.underlying dT = some (.slice e)) (hs : (P.info? e).map (·.size) = some 1) (hgd : o.guard = none) (d s : Operand)
    (ho : o.op = .call { callee := .builtin .copy, args := #[d, s], argTypes := #[dT, sT] }) (g n : Nat) (hd : a.eval d = .slice (some ⟨g, 0, none⟩) n n) (key : ByteArray) (hx : a.eval s = .string key)
    (t : TypeId) (f0 : Nat → Value) (hr : w.rowIs g t n f0)
    (h : ∀ w', w'.rowIs g t n (fun j => if j < key.size then byteV (key.data.getD j 0) else f0 j) → Only g w w' → wpList P ops Q rest (a.put o.dst (goInt (Nat.min key.size n))) w') : wpList P ops Q (o :: rest) a w := by
  have hmn : Nat.min key.size n ≤ n := Nat.min_le_right _ _
  have hmk : Nat.min key.size n ≤ key.size := Nat.min_le_left _ _
  have hrun := run_copy_str (P := P) (w := w) (ty := o.type) dT sT e g n n (Nat.min key.size n) key rfl hu hs
    (fun j hj => by rw [hr.cell (by omega)]; rfl) (fun j hj => hr.frozen j)
  refine wpList_plain hgd fun K hK => ?_
  unfold Oper.wp
  simp [execOp, ho, resolve, invoke, builtin, hd, hx, hrun, Result.andThen]
  refine hK _ _ ?_
  have hl : ((key.data.toList.take (Nat.min key.size n)).map byteV).length = Nat.min key.size n := by simp
  obtain ⟨h2, h3⟩ := setCells_heap ((key.data.toList.take (Nat.min key.size n)).map byteV) w g 0 _ t (rowIs_block hr) (by rw [hl]; simp [arrL]; exact hmn)
  rw [List.map_take] at h2 h3
  have H := h _ ⟨_, h2, by simp [arrL]; omega, fun i hi => ?_⟩ h3
  · simpa using H
  · simp only [List.getElem?_toArray, List.take_zero, List.nil_append, Nat.zero_add]
    rw [← List.map_take, hl]
    by_cases hk : i < key.size
    · rw [if_pos hk, List.getElem?_append_left (by rw [hl]; exact Nat.lt_min.2 ⟨hk, hi⟩)]
      have : i < Nat.min key.size n := Nat.lt_min.2 ⟨hk, hi⟩
      simp [this, Array.getD, hk]
    · have hm : Nat.min key.size n = key.size := Nat.min_eq_left (by omega)
      rw [if_neg hk, List.getElem?_append_right (by rw [hl, hm]; omega), hl, hm, List.getElem?_drop]
      have : key.size + (i - key.size) = i := by omega
      rw [this]
      simp [arrL, hi]
end

end Go.Proofs.Ytgdlnjhbencjkaa
