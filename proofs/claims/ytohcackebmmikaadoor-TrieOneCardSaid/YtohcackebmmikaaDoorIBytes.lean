/- Bytes that are stored into: their bits. -/
import Derived.Test.YtohcackebmmikaaDoorIGrew2
namespace Go.Proofs.YtohcackebmmikaaDoor
open Go.RowKit

/-- A byte with its bit r 0, and 1. -/
def clrU (x : UInt8) (r : Nat) : UInt8 := UInt8.ofNat (if x.toNat.testBit (7 - r) then x.toNat - 2 ^ (7 - r) else x.toNat)
def setU (x : UInt8) (r : Nat) : UInt8 := UInt8.ofNat (if x.toNat.testBit (7 - r) then x.toNat else x.toNat + 2 ^ (7 - r))
theorem clr_all : ∀ n : Fin 256, ∀ r : Fin 8, bits BinOp.andNot IntKind.u8 (n.val : Int) (128 / 2 ^ r.val) = ((clrU (UInt8.ofNat n.val) r.val).toNat : Int) ∧ ∀ j : Fin 8, bitU (clrU (UInt8.ofNat n.val) r.val) j.val = (decide (j.val ≠ r.val) && bitU (UInt8.ofNat n.val) j.val) := by decide +kernel
theorem set_all : ∀ n : Fin 256, ∀ r : Fin 8, bits BinOp.or IntKind.u8 (n.val : Int) (128 / 2 ^ r.val) = ((setU (UInt8.ofNat n.val) r.val).toNat : Int) ∧ ∀ j : Fin 8, bitU (setU (UInt8.ofNat n.val) r.val) j.val = (decide (j.val = r.val) || bitU (UInt8.ofNat n.val) j.val) := by decide +kernel
theorem clr_ok (x : UInt8) (r : Nat) (hr : r < 8) : bits BinOp.andNot IntKind.u8 (x.toNat : Int) (128 / 2 ^ r) = ((clrU x r).toNat : Int) ∧ ∀ j, j < 8 → bitU (clrU x r) j = (decide (j ≠ r) && bitU x j) := by
  have hx := x.toNat_lt
  have := clr_all ⟨x.toNat, by omega⟩ ⟨r, hr⟩
  simp only [UInt8.ofNat_toNat] at this
  exact ⟨this.1, fun j hj => this.2 ⟨j, hj⟩⟩
theorem set_ok (x : UInt8) (r : Nat) (hr : r < 8) : bits BinOp.or IntKind.u8 (x.toNat : Int) (128 / 2 ^ r) = ((setU x r).toNat : Int) ∧ ∀ j, j < 8 → bitU (setU x r) j = (decide (j = r) || bitU x j) := by
  have hx := x.toNat_lt
  have := set_all ⟨x.toNat, by omega⟩ ⟨r, hr⟩
  simp only [UInt8.ofNat_toNat] at this
  exact ⟨this.1, fun j hj => this.2 ⟨j, hj⟩⟩
theorem bitL_set (l : List UInt8) (q : Nat) (y : UInt8) (hq : q < l.length) (i : Nat) : bitL (l.set q y) i = if i / 8 = q then bitU y (i % 8) else bitL l i := by
  unfold bitL
  split
  · rename_i h; subst h
    rw [List.getD_eq_getElem?_getD, List.getElem?_set_self hq]; rfl
  · rename_i h
    rw [List.getD_eq_getElem?_getD, List.getD_eq_getElem?_getD, List.getElem?_set_ne (by omega)]
/-- The byte at the bit n is cleared, is set: the other bits are as they were. -/
theorem clr_bits (l : List UInt8) (n : Nat) (hn : n / 8 < l.length) : (∀ i, i < n → bitL (l.set (n / 8) (clrU (l.getD (n / 8) 0) (n % 8))) i = bitL l i) ∧ bitL (l.set (n / 8) (clrU (l.getD (n / 8) 0) (n % 8))) n = false := by
  have h := (clr_ok (l.getD (n / 8) 0) (n % 8) (by omega)).2
  refine ⟨fun i hi => ?_, ?_⟩
  · rw [bitL_set _ _ _ hn]
    split
    · rename_i he
      rw [h (i % 8) (by omega), bitL, he]
      have : i % 8 ≠ n % 8 := by omega
      simp [this]
    · rfl
  · rw [bitL_set _ _ _ hn, if_pos rfl, h (n % 8) (by omega)]; simp
theorem set_bits (l : List UInt8) (n : Nat) (hn : n / 8 < l.length) : (∀ i, i < n → bitL (l.set (n / 8) (setU (l.getD (n / 8) 0) (n % 8))) i = bitL l i) ∧ bitL (l.set (n / 8) (setU (l.getD (n / 8) 0) (n % 8))) n = true := by
  have h := (set_ok (l.getD (n / 8) 0) (n % 8) (by omega)).2
  refine ⟨fun i hi => ?_, ?_⟩
  · rw [bitL_set _ _ _ hn]
    split
    · rename_i he
      rw [h (i % 8) (by omega), bitL, he]
      have : i % 8 ≠ n % 8 := by omega
      simp [this]
    · rfl
  · rw [bitL_set _ _ _ hn, if_pos rfl, h (n % 8) (by omega)]; simp

/-- The block's first cells are these bytes, and may be stored into. -/
def BytesAt (w : World) (g : Nat) (l : List UInt8) : Prop := g < w.heap.size ∧ ∀ j, j < l.length → w.cell? ⟨g, j, none⟩ = some (byteV (l.getD j 0)) ∧ w.frozen? ⟨g, j, none⟩ = false
theorem BytesAt.later {w w' : World} {g : Nat} {l : List UInt8} (h : BytesAt w g l) (hb : Below w.heap.size w w') : BytesAt w' g l :=
  ⟨Nat.lt_of_lt_of_le h.1 hb.size, fun j hj => ⟨cellB hb (h.2 j hj).1, by rw [hb.frozen (p := ⟨g, j, none⟩) h.1]; exact (h.2 j hj).2⟩⟩
theorem BytesAt.set {w : World} {g : Nat} {l : List UInt8} (h : BytesAt w g l) (q : Nat) (hq : q < l.length) (y : UInt8) : BytesAt (w.setCell ⟨g, q, none⟩ (.int .u8 (y.toNat : Int))) g (l.set q y) := by
  refine ⟨by rw [size_set]; exact h.1, fun j hj => ?_⟩
  rw [List.length_set] at hj
  obtain ⟨h1, h2⟩ := h.2 j hj
  refine ⟨?_, by rw [World.frozen?_setCell]; exact h2⟩
  by_cases he : j = q
  · subst he
    rw [World.cell?_setCell_same' _ _ _ (by rw [h1]; rfl), List.getD_eq_getElem?_getD, List.getElem?_set_self hq]; rfl
  · rw [List.getD_eq_getElem?_getD, List.getElem?_set_ne (Ne.symm he), ← List.getD_eq_getElem?_getD]
    exact cell_set_ne w g q j _ _ h1 he
theorem BytesAt.str {w : World} {g : Nat} {l : List UInt8} (h : BytesAt w g l) (cap : Nat) : (convert 58 9 (.slice (some ⟨g, 0, none⟩) l.length cap)).run Tryd.prog w = .ok (.string ⟨l.toArray⟩) w := by
  refine run_convert_bytes_back (P := Tryd.prog) w 58 9 5 ⟨g, 0, none⟩ cap l Tryd.underlying58 Tryd.underlying5 Tryd.underlying9 (fun j hj => ?_)
  rw [Addr.add_mid, Nat.zero_add]
  have := (h.2 j hj).1
  rw [List.getD_eq_getElem?_getD, List.getElem?_eq_getElem hj] at this
  exact this
/-- []byte(s): a new block, its first cells the bytes. -/
theorem list_bytes {P : Program} {w : World} {ops : Array Oper} {rest : List Oper} {o : Oper} {a : Act} {Q : Exit → Act → World → Prop} {src dst e : TypeId} (hs : P.underlying src = some .string) (hd : P.underlying dst = some (.slice e)) (he : P.underlying e = some (.int .u8))
    (hgd : o.guard = none) (x : Operand) (ho : o.op = .convert src dst x) (s : ByteArray) (hx : a.eval x = .string s)
    (h : ∀ cap w', BytesAt w' w.heap.size (ks s) → Below w.heap.size w w' →
      wpList P ops Q rest (a.put o.dst (.slice (some ⟨w.heap.size, 0, none⟩) s.size cap)) w') : wpList P ops Q (o :: rest) a w := by
  have hrun := run_bytes_of_string (P := P) w src dst e s hs hd he
  obtain ⟨C, hC⟩ : ∃ C, C = bytesRow s (grownCap w s.size 0 e) := ⟨_, rfl⟩
  have hsz : s.size ≤ C.size := by rw [hC]; unfold bytesRow; simp
  have hcell : ∀ j, j < s.size → C[j]? = some (byteV (s.data.getD j 0)) := fun j hj => by
    have hj2 : j < s.data.size := hj
    rw [hC, bytesRow_at s _ j hj2]
    simp [byteV, Array.getElem?_eq_getElem hj2]
  rw [← hC] at hrun
  refine wpList_plain hgd fun K hK => ?_
  unfold Oper.wp
  simp only [execOp, ho, hx, Sem.run_bind, hrun, Result.andThen_ok, Sem.run_pure]
  refine hK _ _ (h _ _ ⟨?_, fun j hj => ⟨?_, ?_⟩⟩ ?_)
  · simp
  · have hj1 : j < s.size := by simpa using hj
    have hb := heap_at_alloc w.drew (.cells C e (C.size, C.size + 1))
    have e1 : (ks s).getD j 0 = s.data.getD j 0 := by simp [List.getD_eq_getElem?_getD]
    rw [e1, ← hcell j hj1]
    show (match (w.drew.alloc (.cells C e (C.size, C.size + 1))).heap[w.drew.heap.size]? with | some (.cells cs _ _) => cs[j]? | _ => none) = _
    rw [hb]
  · have hj1 : j < s.size := by simpa using hj
    have := World.frozen?_alloc_mark w.drew C e C.size (C.size + 1) j
    refine Eq.trans this ?_
    simp; omega
  · exact (Below.refl _ w).drew.alloc (Nat.le_refl _) _
end Go.Proofs.YtohcackebmmikaaDoor
