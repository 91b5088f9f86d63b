/- The program's schedule of a key. -/
import Derived.Test.YtohjnhekkifhbabAesE
namespace Go.Proofs.Ytohjnhekkifhbab
open Go.RowKit

section
variable {P : Program} {w : World}
theorem run_copy_str_mid (dT sT ty elem : TypeId) (g o dLen dCap m : Nat) (s : ByteArray) (hm : m = Nat.min s.size dLen) (hu : P.underlying dT = some (.slice elem)) (hs : (P.info? elem).map (·.size) = some 1)
    (hc : ∀ j, j < m → (w.cell? ⟨g, o + j, none⟩).isSome = true) (hf : ∀ j, j < m → w.frozen? ⟨g, o + j, none⟩ = false) :
    (Builtin.copy_ #[dT, sT] ty #[.slice (some ⟨g, o, none⟩) dLen dCap, .string s]).run P w = .ok (goInt m) (w.setCells g o ((s.data.toList.take m).map byteV)) := by
  have hl : ((s.data.toList.take m).map byteV).length = m := by
    simp [hm, Nat.min_le_left]
  have hst := run_storeCells_cells (P := P) g o ((s.data.toList.take m).map byteV) 0 w (by rw [hl]; simpa using hc) (by rw [hl]; simpa using hf) (by intro v hv; obtain ⟨b, _, rfl⟩ := List.mem_map.1 hv; rfl)
  have he0 : (s.extract 0 m).data.toList = s.data.toList.take m := by simp
  have he : ((s.extract 0 m).data.map fun b => Value.int .u8 b.toNat).toList = (s.data.toList.take m).map byteV := by rw [Array.toList_map, he0]; rfl
  cases hq : P.info? elem with
  | none => simp [hq] at hs
  | some i =>
    have h1 : i.size = 1 := by simpa [hq] using hs
    rw [Nat.add_zero] at hst
    simp only [Builtin.copy_, List.getElem?_toArray, List.getElem?_cons_zero, List.getElem?_cons_succ, Sem.run_bind, Sem.run_pure, Result.andThen_ok, run_underlying hu, Builtin.lenOf, ← hm, sizeOf, typeInfo, Builtin.firstCells, he]
    rw [List.map_take] at hst ⊢
    simp [hq, hst]

/-- copy(b, s), b a part of n cells at offset o of a row of N bytes, s a string of n bytes or more. -/
theorem list_copy_str_mid {ops : Array Oper} {rest : List Oper} {op : Oper} {a : Act} {Q : Exit → Act → World → Prop} {dT sT e : TypeId} (hu : P.underlying dT = some (.slice e)) (hs : (P.info? e).map (·.size) = some 1) (hgd : op.guard = none) (d s : Operand)
    (ho : op.op = .call { callee := .builtin .copy, args := #[d, s], argTypes := #[dT, sT] }) (g o n cp N : Nat) (hd : a.eval d = .slice (some ⟨g, o, none⟩) n cp) (key : ByteArray) (hx : a.eval s = .string key) (hkn : n ≤ key.size)
    (t : TypeId) (f0 : Nat → Value) (hr : w.rowIs g t N f0) (hoN : o + n ≤ N)
    (h : ∀ w', w'.rowIs g t N (fun j => if o ≤ j ∧ j < o + n then byteV (key.data[j - o]?.getD 0) else f0 j) → Only g w w' → wpList P ops Q rest (a.put op.dst (goInt n)) w') : wpList P ops Q (op :: rest) a w := by
  have hmn : n = Nat.min key.size n := (Nat.min_eq_right hkn).symm
  have hrun := run_copy_str_mid (P := P) (w := w) (ty := op.type) dT sT e g o n cp n key hmn hu hs
    (fun j hj => by rw [hr.cell (by omega)]; rfl) (fun j hj => hr.frozen (o + j))
  refine wpList_plain hgd fun K hK => ?_
  unfold Oper.wp
  simp [execOp, ho, resolve, invoke, builtin, hd, hx, hrun, Result.andThen]
  refine hK _ _ ?_
  have hl : ((key.data.toList.take n).map byteV).length = n := by simp; exact Nat.min_eq_left hkn
  obtain ⟨h2, h3⟩ := setCells_heap ((key.data.toList.take n).map byteV) w g o _ t (rowIs_block hr) (by rw [hl]; simp [arrL]; exact hoN)
  rw [List.map_take] at h2 h3
  have H := h _ ⟨_, h2, by simp [arrL]; have : key.data.size = key.size := rfl; omega, fun i hi => ?_⟩ h3
  · simpa using H
  · simp only [List.getElem?_toArray]
    rw [← List.map_take, hl]
    have hA : (List.take o (arrL N f0)).length = o := by rw [List.length_take, arrL_length]; omega
    by_cases h1 : i < o
    · rw [if_neg (by omega), List.append_assoc, List.getElem?_append_left (by rw [hA]; exact h1), List.getElem?_take_of_lt h1, arrL_get _ _ _ hi]
    · by_cases h2 : i < o + n
      · have hk : i - o < key.data.size := by have : key.data.size = key.size := rfl; omega
        rw [if_pos ⟨by omega, h2⟩, List.append_assoc, List.getElem?_append_right (by rw [hA]; omega), hA, List.getElem?_append_left (by rw [hl]; omega)]
        have : i - o < n := by omega
        simp [this]
        exact ⟨key.data[i - o], Array.getElem?_eq_getElem hk, by rw [Array.getElem?_eq_getElem hk]; rfl⟩
      · rw [if_neg (by omega), List.getElem?_append_right (by rw [List.length_append, hA, hl]; omega), List.length_append, hA, hl, List.getElem?_drop]
        have : o + n + (i - (o + n)) = i := by omega
        rw [this, arrL_get _ _ _ hi]
end

section
variable {P : Program} {w : World}
/-- A load of a whole variable of a struct's or an array's type. -/
theorem list_load_whole {ops : Array Oper} {rest : List Oper} {o : Oper} {a : Act} {Q : Exit → Act → World → Prop} {ty : TypeId} {d : TypeDesc} {n : Nat} (hu : P.underlying ty = some d) (hd : d.isRow = true) (hi : (P.info? ty).map (·.size) = some n)
    (hgd : o.guard = none) (x : Operand) (ho : o.op = .load ty x) (g : Nat) (t : TypeId) (f : Nat → Value) (hx : a.eval x = .pointer (some ⟨g, 0, none⟩)) (hr : w.rowIs g t n f)
    (h : wpList P ops Q rest (a.put o.dst (.agg (arrL n f).toArray)) w) : wpList P ops Q (o :: rest) a w :=
  wpList_load_row hgd ty x ho g hx t _ (0, 0) _ (rowIs_block hr) hu (by cases d <;> first | rfl | cases hd) (by rw [hi]; simp [arrL]) h
/-- A load of a part of n cells at offset o of a row. -/
theorem list_load_part {ops : Array Oper} {rest : List Oper} {op : Oper} {a : Act} {Q : Exit → Act → World → Prop} {ty : TypeId} {d : TypeDesc} {n : Nat} (hu : P.underlying ty = some d) (hd : d.isRow = true) (hi : (P.info? ty).map (·.size) = some n)
    (hgd : op.guard = none) (x : Operand) (ho : op.op = .load ty x) (g o N : Nat) (t : TypeId) (f F : Nat → Value) (hx : a.eval x = .pointer (some ⟨g, o, none⟩)) (hr : w.rowIs g t N F) (hN : o + n ≤ N) (hf : ∀ j, j < n → F (o + j) = f j)
    (h : wpList P ops Q rest (a.put op.dst (.agg (arrL n f).toArray)) w) : wpList P ops Q (op :: rest) a w :=
  wpList_load_mid hgd ty x ho g o hx (arrL n f) d (fun j v hv => by
    have hj : j < n := by
      have := (List.getElem?_eq_some_iff.1 hv).1
      simpa [arrL] using this
    rw [arrL_get _ _ _ hj] at hv
    rw [hr.cell (by omega), hf j hj]; exact hv) hu hd (by rw [hi]; simp [arrL]) h
/-- The result lies in a variable of a struct's or an array's type. -/
theorem ret_whole {fn : Func} {R : Ending → World → Prop} {a : Act} {p : Tmp} {ty : TypeId} {d : TypeDesc} {n g : Nat} {t : TypeId} {f : Nat → Value} (h : fn.results = #[.cell p ty])
    (hu : P.underlying ty = some d) (hd : d.isRow = true) (hi : (P.info? ty).map (·.size) = some n) (hp : a.tmps.getD p undef = .pointer (some ⟨g, 0, none⟩)) (hr : w.rowIs g t n f) (hdf : a.defers = [])
    (hR : R (.returned (.agg (arrL n f).toArray)) w) : bodyPost P fn R .ret a w :=
  bodyPost_ret (results_cell_row h a.tmps w g t _ (0, 0) _ hp (rowIs_block hr) hu (by cases d <;> first | rfl | cases hd) (by rw [hi]; simp [arrL])) hdf hR
end

/-- A text's later part. -/
theorem blk_extract (s : ByteArray) (o j : Nat) (h : o + j < s.size) : (s.extract o s.size).data[j]?.getD 0 = blk s (o + j) := by
  have h2 : o + j < s.data.size := h
  have h3 : s.data.size = s.size := rfl
  unfold blk
  rw [ByteArray.data_extract, Array.getElem?_extract, if_pos (by omega)]

/-- The box's array. -/
def boxV : Value := .agg (arrL 256 (fun j => byteV (boxL.getD j 0))).toArray
theorem boxBytes_at (w : World) :
    Calls Try.prog 18 #[] w fun e w' => e = .returned boxV ∧ Below w.heap.size w w' := boxBytes_prog w
set_option maxRecDepth 100000 in
theorem built_sched (KW : Nat → UInt8) : Try.prog.built 47 [(0, boxV)] = some (arrL 432 (schV KW 0)).toArray := by kernel_rfl

theorem sch_one (KW : Nat → UInt8) (m j : Nat) : (schV KW m j).oneCell' = true := by
  unfold schV; split
  · rfl
  · split <;> rfl

/-- A schedule's cells on the way: m bytes of the words are laid. -/
theorem sch_put {KW : Nat → UInt8} {m j : Nat} : schV KW (m + 1) j = if j = 256 + m then byteV (KW m) else schV KW m j := by
  unfold schV
  by_cases h : j = 256 + m
  · subst h; rw [if_neg (by omega), if_pos (by omega), if_pos rfl, show 256 + m - 256 = m by omega]
  · rw [if_neg h]
    by_cases h1 : j < 256
    · rw [if_pos h1, if_pos h1]
    · rw [if_neg h1, if_neg h1]
      by_cases h2 : j < 256 + m
      · rw [if_pos (by omega), if_pos h2]
      · rw [if_neg (by omega), if_neg h2]
theorem sch_put4 {KW : Nat → UInt8} {i j : Nat} {X : Nat → Value} (hX : ∀ r, r < 4 → X r = byteV (KW (4 * i + r))) :
    schV KW (4 * (i + 1)) j = if 256 + i * 4 ≤ j ∧ j < 256 + i * 4 + 4 then X (j - (256 + i * 4)) else schV KW (4 * i) j := by
  unfold schV
  by_cases h : 256 + i * 4 ≤ j ∧ j < 256 + i * 4 + 4
  · rw [if_pos h, if_neg (by omega), if_pos (by omega), hX _ (by omega), show 4 * i + (j - (256 + i * 4)) = j - 256 by omega]
  · rw [if_neg h]
    by_cases h1 : j < 256
    · rw [if_pos h1, if_pos h1]
    · rw [if_neg h1, if_neg h1]
      by_cases h2 : j < 256 + 4 * i
      · rw [if_pos (by omega), if_pos h2]
      · rw [if_neg (by omega), if_neg h2]
theorem key_at (s : ByteArray) (hs : s.size = 16) (n : Nat) (hn : n < 16) : KWf s.data.toList n = blk s n := by
  have h : n < s.data.toList.length := by simp; omega
  rw [KW_old _ _ h]; simp [blk]

end Go.Proofs.Ytohjnhekkifhbab
