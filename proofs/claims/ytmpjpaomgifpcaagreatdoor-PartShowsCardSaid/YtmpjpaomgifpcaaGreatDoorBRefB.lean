/- Appending a slice of pairs, or of texts, that may be empty. Bytes that are stored into: their bits. The reference's Bit, Has, Get, Under. The reference's root of no pairs. The reference's Place, First. The reference's Texts. -/
import Derived.Test.YtmpjpaomgifpcaaGreatDoorBRefA
import Derived.Laws.AppendOwnNone
import Derived.Test.YtmpjpaomgifpcaaGreatDoorBTop
namespace Go.Proofs.YtmpjpaomgifpcaaGreatDoor
open Go.RowKit

theorem run_append_empty {P : Program} {w : World} (base : Nat) (t ty e : TypeId) (i : TypeInfo) (size : Nat) (ht : P.underlying t = some (.slice e)) (hi : P.info? e = some i)
    (v : Value) (n : Nat) (xs : List Value) (hown : w.ownsRow base e size v n xs) (a : Option Addr) (c : Nat) :
    (Builtin.append_ #[t, t] ty #[v, .slice a 0 c]).run P w = .ok v w := by
  rcases hown.2 with ⟨rfl, rfl⟩ | ⟨g, cap, cur, rfl, _, _, hnc, _⟩
  · cases a <;> simp [Builtin.append_, run_underlying ht, sizeOf, typeInfo, hi, Builtin.lenOf, Builtin.firstCells, loadCells, loadCellsFrom]
  · cases a <;> simp [Builtin.append_, run_underlying ht, sizeOf, typeInfo, hi, Builtin.lenOf, Builtin.firstCells, hnc, storeCells, loadCells, loadCellsFrom]

theorem list_appN2 {P : Program} {w : World} {t e : TypeId} {z : Value} {size bytes : Nat} {ops : Array Oper} {rest : List Oper} {o : Oper} {a : Act} {Q : Exit → Act → World → Prop} (S : SlN P t e z size bytes) (hgd : o.guard = none) (s x : Operand)
    (ho : o.op = .call { callee := .builtin .append, args := #[s, x], argTypes := #[t, t] })
    (B : Nat) (v : Value) (n : Nat) (xs : List Value) (hs : a.eval s = v) (hown : w.ownsRow B e size v n xs)
    (ad : Option Addr) (m c : Nat) (news : List Value) (hx : a.eval x = .slice ad m c) (hl : news.length = m * size) (hnews : 0 < m → ∃ g o, ad = some ⟨g, o, none⟩ ∧ ∀ j u, news[j]? = some u → w.cell? ⟨g, o + j, none⟩ = some u) (h1 : ∀ u ∈ news, u.oneCell' = true)
    (h63 : n + m ≤ maxLen) (hbytes : (n + m) * bytes ≤ 140737488355328) (hbase : B ≤ w.heap.size)
    (h : ∀ v' w', w'.ownsRow B e size v' (n + m) (xs ++ news) → Grew w v w' v' → wpList P ops Q rest (a.put o.dst v') w') :
    wpList P ops Q (o :: rest) a w := by
  obtain ⟨i, hi, hz, hsz, hby⟩ := info_parts S.info
  by_cases hm : 0 < m
  · obtain ⟨g0, o0, rfl, hc⟩ := hnews hm
    refine wpList_append_lies w hgd s x t ho B e i z size bytes S.und hi hz hsz hby S.zc S.pos v n xs hs hown ⟨g0, o0, none⟩ m c news hx hl
      (fun j u hu => by
        have := hc j u hu
        unfold Addr.add
        split
        · rename_i h0; subst h0; simpa using this
        · exact this) h1 hm h63 hbytes hbase _ rfl ?_
    intro g cap w' h2 h3 h4 _
    refine h _ w' h2 ⟨h3, fun k hk => ?_⟩
    have : g = k := by simpa [Value.ownBlock] using hk
    subst this
    rcases h4 with h4 | h4
    · exact .inl h4
    · exact .inr (by omega)
  · obtain rfl : m = 0 := by omega
    obtain rfl : news = [] := List.eq_nil_of_length_eq_zero (by simpa using hl)
    refine wpList_plain hgd fun K hK => ?_
    have hrun := run_append_empty (P := P) (w := w) B t o.type e i size S.und hi v n xs hown ad c
    unfold Oper.wp
    simp only [execOp, ho, resolve, invoke, builtin, Sem.run_bind, Sem.run_pure, Result.andThen_ok, List.map_toArray, List.map_cons, List.map_nil, hs, hx, hrun]
    exact hK _ _ (h v w (by simpa using hown) (Grew.refl w v))

/-- append of a slice of pairs. -/
theorem list_appP {ops : Array Oper} {rest : List Oper} {o : Oper} {a : Act} {w : World} {Q : Exit → Act → World → Prop} (hgd : o.guard = none) (s x : Operand)
    (ho : o.op = .call { callee := .builtin .append, args := #[s, x], argTypes := #[32, 32] })
    (B : Nat) (v : Value) (l : List Pr) (hs : a.eval s = v) (hown : POwn w B v l)
    (xv : Value) (m : List Pr) (hx : a.eval x = xv) (hsl : PSl w xv m)
    (hl : l.length + m.length ≤ 100000) (hbase : B ≤ w.heap.size)
    (h : ∀ v' w', POwn w' B v' (l ++ m) → Grew w v w' v' → wpList Tryz.prog ops Q rest (a.put o.dst v') w') :
    wpList Tryz.prog ops Q (o :: rest) a w := by
  obtain ⟨ad, c, rfl, _, hcells⟩ := hsl
  refine list_appN2 Tryz.pairSl hgd s x ho B v l.length (pairC l) hs hown ad m.length c (pairC m) hx (pairC_length m) (fun hm => ?_) (pairC_one m) (by unfold maxLen; omega) (by omega) hbase ?_
  · obtain ⟨g, o', rfl, _, hc⟩ := hcells (fun e => by rw [e] at hm; simp at hm)
    refine ⟨g, o', rfl, fun j u hu => ?_⟩
    have hj := (List.getElem?_eq_some_iff.1 hu).1
    rw [pairC_length] at hj
    obtain ⟨i, hi⟩ : ∃ i, i = j / 2 := ⟨_, rfl⟩
    have hil : i < m.length := by omega
    have hx2 := hc i m[i] (List.getElem?_eq_getElem hil)
    obtain ⟨g1, g2⟩ := pairC_get m i m[i] (List.getElem?_eq_getElem hil)
    by_cases he : j = i * 2
    · subst he; rw [hu] at g1; injection g1 with g1; rw [g1]; exact hx2.1
    · have he2 : j = i * 2 + 1 := by omega
      subst he2; rw [hu] at g2; injection g2 with g2; rw [g2, ← Nat.add_assoc]; exact hx2.2
  · intro v' w' h1 h2
    refine h v' w' ?_ h2
    unfold POwn
    rw [List.length_append, pairC_append]
    exact h1
end Go.Proofs.YtmpjpaomgifpcaaGreatDoor
namespace Go.Proofs.YtmpjpaomgifpcaaGreatDoor
open Go.RowKit

/-- A byte with its bit r 0, and 1. -/
def clrU (x : UInt8) (r : Nat) : UInt8 := UInt8.ofNat (if x.toNat.testBit (7 - r) then x.toNat - 2 ^ (7 - r) else x.toNat)
def setU (x : UInt8) (r : Nat) : UInt8 := UInt8.ofNat (if x.toNat.testBit (7 - r) then x.toNat else x.toNat + 2 ^ (7 - r))
theorem clr_all : ∀ n : Fin 256, ∀ r : Fin 8, bits BinOp.andNot IntKind.u8 (n.val : Int) (128 / 2 ^ r.val) = ((clrU (UInt8.ofNat n.val) r.val).toNat : Int) ∧ ∀ j : Fin 8, bitU (clrU (UInt8.ofNat n.val) r.val) j.val = (decide (j.val ≠ r.val) && bitU (UInt8.ofNat n.val) j.val) := by decide +kernel
theorem set_all : ∀ n : Fin 256, ∀ r : Fin 8, bits BinOp.or IntKind.u8 (n.val : Int) (128 / 2 ^ r.val) = ((setU (UInt8.ofNat n.val) r.val).toNat : Int) ∧ ∀ j : Fin 8, bitU (setU (UInt8.ofNat n.val) r.val) j.val = (decide (j.val = r.val) || bitU (UInt8.ofNat n.val) j.val) := by decide +kernel
theorem clr_ok (x : UInt8) (r : Nat) (hr : r < 8) : bits BinOp.andNot IntKind.u8 (x.toNat : Int) (128 / 2 ^ r) = ((clrU x r).toNat : Int) ∧ ∀ j, j < 8 → bitU (clrU x r) j = (decide (j ≠ r) && bitU x j) := by
  have hx := x.toNat_lt
  have := clr_all ⟨x.toNat, by omega⟩ ⟨r, hr⟩
  simp only [UInt8.ofNat_toNat] at this
  exact ⟨this.1, fun j hj => this.2 ⟨j, hj⟩⟩
theorem set_ok (x : UInt8) (r : Nat) (hr : r < 8) : bits BinOp.or IntKind.u8 (x.toNat : Int) (128 / 2 ^ r) = ((setU x r).toNat : Int) ∧ ∀ j, j < 8 → bitU (setU x r) j = (decide (j = r) || bitU x j) := by
  have hx := x.toNat_lt
  have := set_all ⟨x.toNat, by omega⟩ ⟨r, hr⟩
  simp only [UInt8.ofNat_toNat] at this
  exact ⟨this.1, fun j hj => this.2 ⟨j, hj⟩⟩
theorem bitL_set (l : List UInt8) (q : Nat) (y : UInt8) (hq : q < l.length) (i : Nat) : bitL (l.set q y) i = if i / 8 = q then bitU y (i % 8) else bitL l i := by
  unfold bitL
  split
  · rename_i h; subst h
    rw [List.getD_eq_getElem?_getD, List.getElem?_set_self hq]; rfl
  · rename_i h
    rw [List.getD_eq_getElem?_getD, List.getD_eq_getElem?_getD, List.getElem?_set_ne (by omega)]
/-- The byte at the bit n is cleared, is set: the other bits are as they were. -/
theorem clr_bits (l : List UInt8) (n : Nat) (hn : n / 8 < l.length) : (∀ i, i < n → bitL (l.set (n / 8) (clrU (l.getD (n / 8) 0) (n % 8))) i = bitL l i) ∧ bitL (l.set (n / 8) (clrU (l.getD (n / 8) 0) (n % 8))) n = false := by
  have h := (clr_ok (l.getD (n / 8) 0) (n % 8) (by omega)).2
  refine ⟨fun i hi => ?_, ?_⟩
  · rw [bitL_set _ _ _ hn]
    split
    · rename_i he
      rw [h (i % 8) (by omega), bitL, he]
      have : i % 8 ≠ n % 8 := by omega
      simp [this]
    · rfl
  · rw [bitL_set _ _ _ hn, if_pos rfl, h (n % 8) (by omega)]; simp
theorem set_bits (l : List UInt8) (n : Nat) (hn : n / 8 < l.length) : (∀ i, i < n → bitL (l.set (n / 8) (setU (l.getD (n / 8) 0) (n % 8))) i = bitL l i) ∧ bitL (l.set (n / 8) (setU (l.getD (n / 8) 0) (n % 8))) n = true := by
  have h := (set_ok (l.getD (n / 8) 0) (n % 8) (by omega)).2
  refine ⟨fun i hi => ?_, ?_⟩
  · rw [bitL_set _ _ _ hn]
    split
    · rename_i he
      rw [h (i % 8) (by omega), bitL, he]
      have : i % 8 ≠ n % 8 := by omega
      simp [this]
    · rfl
  · rw [bitL_set _ _ _ hn, if_pos rfl, h (n % 8) (by omega)]; simp

/-- The block's first cells are these bytes, and may be stored into. -/
def BytesAt (w : World) (g : Nat) (l : List UInt8) : Prop := g < w.heap.size ∧ ∀ j, j < l.length → w.cell? ⟨g, j, none⟩ = some (byteV (l.getD j 0)) ∧ w.frozen? ⟨g, j, none⟩ = false
theorem BytesAt.later {w w' : World} {g : Nat} {l : List UInt8} (h : BytesAt w g l) (hb : Below w.heap.size w w') : BytesAt w' g l :=
  ⟨Nat.lt_of_lt_of_le h.1 hb.size, fun j hj => ⟨cellB hb (h.2 j hj).1, by rw [hb.frozen (p := ⟨g, j, none⟩) h.1]; exact (h.2 j hj).2⟩⟩
theorem BytesAt.set {w : World} {g : Nat} {l : List UInt8} (h : BytesAt w g l) (q : Nat) (hq : q < l.length) (y : UInt8) : BytesAt (w.setCell ⟨g, q, none⟩ (.int .u8 (y.toNat : Int))) g (l.set q y) := by
  refine ⟨by rw [size_set]; exact h.1, fun j hj => ?_⟩
  rw [List.length_set] at hj
  obtain ⟨h1, h2⟩ := h.2 j hj
  refine ⟨?_, by rw [World.frozen?_setCell]; exact h2⟩
  by_cases he : j = q
  · subst he
    rw [World.cell?_setCell_same' _ _ _ (by rw [h1]; rfl), List.getD_eq_getElem?_getD, List.getElem?_set_self hq]; rfl
  · rw [List.getD_eq_getElem?_getD, List.getElem?_set_ne (Ne.symm he), ← List.getD_eq_getElem?_getD]
    exact cell_set_ne w g q j _ _ h1 he
theorem BytesAt.str {w : World} {g : Nat} {l : List UInt8} (h : BytesAt w g l) (cap : Nat) : (convert 99 9 (.slice (some ⟨g, 0, none⟩) l.length cap)).run Tryz.prog w = .ok (.string ⟨l.toArray⟩) w := by
  refine run_convert_bytes_back (P := Tryz.prog) w 99 9 5 ⟨g, 0, none⟩ cap l Tryz.underlying99 Tryz.underlying5 Tryz.underlying9 (fun j hj => ?_)
  rw [Addr.add_mid, Nat.zero_add]
  have := (h.2 j hj).1
  rw [List.getD_eq_getElem?_getD, List.getElem?_eq_getElem hj] at this
  exact this
/-- []byte(s): a new block, its first cells the bytes. -/
theorem list_bytes {P : Program} {w : World} {ops : Array Oper} {rest : List Oper} {o : Oper} {a : Act} {Q : Exit → Act → World → Prop} {src dst e : TypeId} (hs : P.underlying src = some .string) (hd : P.underlying dst = some (.slice e)) (he : P.underlying e = some (.int .u8))
    (hgd : o.guard = none) (x : Operand) (ho : o.op = .convert src dst x) (s : ByteArray) (hx : a.eval x = .string s)
    (h : ∀ cap w', BytesAt w' w.heap.size (ks s) → Below w.heap.size w w' →
      wpList P ops Q rest (a.put o.dst (.slice (some ⟨w.heap.size, 0, none⟩) s.size cap)) w') : wpList P ops Q (o :: rest) a w := by
  have hrun := run_bytes_of_string (P := P) w src dst e s hs hd he
  obtain ⟨C, hC⟩ : ∃ C, C = bytesRow s (grownCap w s.size 0 e) := ⟨_, rfl⟩
  have hsz : s.size ≤ C.size := by rw [hC]; unfold bytesRow; simp
  have hcell : ∀ j, j < s.size → C[j]? = some (byteV (s.data.getD j 0)) := fun j hj => by
    have hj2 : j < s.data.size := hj
    rw [hC, bytesRow_at s _ j hj2]
    simp [byteV, Array.getElem?_eq_getElem hj2]
  rw [← hC] at hrun
  refine wpList_plain hgd fun K hK => ?_
  unfold Oper.wp
  simp only [execOp, ho, hx, Sem.run_bind, hrun, Result.andThen_ok, Sem.run_pure]
  refine hK _ _ (h _ _ ⟨?_, fun j hj => ⟨?_, ?_⟩⟩ ?_)
  · simp
  · have hj1 : j < s.size := by simpa using hj
    have hb := heap_at_alloc w.drew (.cells C e (C.size, C.size + 1))
    have e1 : (ks s).getD j 0 = s.data.getD j 0 := by simp [List.getD_eq_getElem?_getD]
    rw [e1, ← hcell j hj1]
    show (match (w.drew.alloc (.cells C e (C.size, C.size + 1))).heap[w.drew.heap.size]? with | some (.cells cs _ _) => cs[j]? | _ => none) = _
    rw [hb]
  · have hj1 : j < s.size := by simpa using hj
    have := World.frozen?_alloc_mark w.drew C e C.size (C.size + 1) j
    refine Eq.trans this ?_
    simp; omega
  · exact (Below.refl _ w).drew.alloc (Nat.le_refl _) _
end Go.Proofs.YtmpjpaomgifpcaaGreatDoor
namespace Go.Proofs.YtmpjpaomgifpcaaGreatDoor
open Go.RowKit

theorem wraps8 : ∀ n : Int, 0 ≤ n → n < 2 ^ 8 → IntKind.i64.wrap n = n := by
  intro n h0 h1
  exact IntWalk.i64_in _ (by omega)
theorem bits_and1i (n : Int) (h0 : 0 ≤ n) (h : n < 256) : bits BinOp.and IntKind.i64 n 1 = n % 2 :=
  bits_mask .i64 8 (by decide) wraps8 1 (by decide) n h0 h

theorem bit_ref (k : ByteArray) (i : Nat) (w : World) (hi : i < 256) (hk : k.size = 32) :
    Calls Tryz.prog 55 #[.string k, .int .i64 i] w fun e w' => e = .returned (.int .i64 (bitN (bitL (ks k) i))) ∧ w = w' := by
  have hi0 : (0 : Int) ≤ (i : Int) := by omega
  have hi1 : (i : Int) ≤ 255 := by omega
  have h8 : i / 8 < k.size := by omega
  have h8i : (i : Int) / 8 < (k.size : Int) := by omega
  have hx := (k[i / 8]'h8).toNat_lt
  have e1 : bitN (bitL (ks k) i) = ((k[i / 8]'h8).toNat : Int) / 2 ^ (7 - i % 8) % 2 := by
    rw [bitL, ks_getD _ _ h8, bitU_eq]
  rw [e1]
  have hq : 0 ≤ ((k[i / 8]'h8).toNat : Int) / 2 ^ (7 - i % 8) := Int.ediv_nonneg (by omega) (Int.pow_nonneg (by decide))
  have hq2 : ((k[i / 8]'h8).toNat : Int) / 2 ^ (7 - i % 8) < 256 := by
    have h1 : ((k[i / 8]'h8).toNat : Int) / 2 ^ (7 - i % 8) ≤ (k[i / 8]'h8).toNat := by
      have : ((k[i / 8]'h8).toNat : Int) / 2 ^ (7 - i % 8) = (((k[i / 8]'h8).toNat / 2 ^ (7 - i % 8) : Nat) : Int) := by simp
      rw [this]; exact_mod_cast Nat.div_le_self _ _
    omega
  have hb : bits BinOp.and IntKind.i64 (wrap64 (((k[i / 8]'h8).toNat : Int) / 2 ^ (7 - i % 8))) 1 = ((k[i / 8]'h8).toNat : Int) / 2 ^ (7 - i % 8) % 2 := by
    rw [IntWalk.wrap64_in _ (by omega)]; exact bits_and1i _ hq hq2
  have hks : k.size ≤ 1000000 := by omega
  clear hx hk hq2
  go_enter Tryz.func55, Tryz.ntmps55
  go_wp2
  go_ret
  exact ⟨by rw [← hb]; rfl, rfl⟩
theorem bitN_ne (a b : Bool) : (bitN a != bitN b) = (a != b) := by cases a <;> cases b <;> rfl

def HasRel (a l : ByteArray) (n : Nat) (w : World) (i : Value) (wr : World) : Prop := ∃ j : Nat, i = .int .i64 j ∧ j ≤ n ∧ Hid (∀ i, i < j → bitL (ks a) i = bitL (ks l) i) ∧ w = wr
set_option maxHeartbeats 1000000 in
theorem has_ref (a l : ByteArray) (n : Nat) (w : World) (hn : n ≤ 256) (ha : a.size = 32) (hl : l.size = 32) :
    Calls Tryz.prog 46 #[.string a, .string l, .int .i64 n] w fun e w' => e = .returned (.bool (hasL (ks a) (ks l) n)) ∧ w = w' := by
  obtain ⟨R, hR⟩ : ∃ R, R = hasL (ks a) (ks l) n := ⟨_, rfl⟩
  rw [← hR]
  have HR := Lib.hid hR
  have hn0 : (0 : Int) ≤ (n : Int) := by omega
  have hn1 : (n : Int) ≤ 256 := by omega
  clear hR
  go_enter Tryz.func46, Tryz.ntmps46
  go_wp2_with fail
  go_loopw [7] (HasRel a l n w) (fun i _ => 256 - (intOf i).toNat)
  case atStart => exact ⟨0, rfl, by omega, Lib.hid (fun i h => by omega), rfl⟩
  case round =>
    obtain ⟨j, rfl, hj, hsm, rfl⟩ := hrel
    have hj0 : (0 : Int) ≤ (j : Int) := by omega
    have hj1 : (j : Int) ≤ 256 := by omega
    by_cases hlt : j < n
    · have hltI : (j : Int) < (n : Int) := by omega
      have H1 := Lib.hid (fun W => bit_ref a j W (by omega) ha)
      have H2 := Lib.hid (fun W => bit_ref l j W (by omega) hl)
      by_cases he : bitL (ks a) j = bitL (ks l) j
      · have hI : (bitN (bitL (ks a) j) != bitN (bitL (ks l) j)) = false := by rw [bitN_ne, he]; simp
        have HS : Hid (∀ i, i < j + 1 → bitL (ks a) i = bitL (ks l) i) := Lib.hid (fun i hi => by
          by_cases h : i < j
          · exact hsm.out i h
          · rw [show i = j by omega]; exact he)
        obtain ⟨x, hx⟩ : ∃ x, x = bitN (bitL (ks a) j) := ⟨_, rfl⟩
        obtain ⟨y, hy⟩ : ∃ y, y = bitN (bitL (ks l) j) := ⟨_, rfl⟩
        rw [← hx] at H1 hI
        rw [← hy] at H2 hI
        clear he hx hy
        go_wp2_with fail
        refine (H1.out _).mono ?_
        rintro e w1 ⟨rfl, rfl⟩
        go_wp2_with fail
        refine (H2.out _).mono ?_
        rintro e w2 ⟨rfl, rfl⟩
        go_wp2_with fail
        go_roundw
        case rel => exact ⟨j + 1, by go_num, by omega, HS, rfl⟩
        case measure => simp [intOf]; omega
      · have hI : (bitN (bitL (ks a) j) != bitN (bitL (ks l) j)) = true := by rw [bitN_ne]; simpa using he
        have HF : Hid (R = false) := Lib.hid (by
          rw [HR.out, Bool.eq_false_iff]
          intro h; exact he ((hasL_iff _ _ _).1 h j hlt))
        obtain ⟨x, hx⟩ : ∃ x, x = bitN (bitL (ks a) j) := ⟨_, rfl⟩
        obtain ⟨y, hy⟩ : ∃ y, y = bitN (bitL (ks l) j) := ⟨_, rfl⟩
        rw [← hx] at H1 hI
        rw [← hy] at H2 hI
        clear he hx hy
        go_wp2_with fail
        refine (H1.out _).mono ?_
        rintro e w1 ⟨rfl, rfl⟩
        go_wp2_with fail
        refine (H2.out _).mono ?_
        rintro e w2 ⟨rfl, rfl⟩
        go_wp2_with fail
        go_ret
        exact ⟨by rw [HF.out]; rfl, rfl⟩
    · have hltI : ¬ (j : Int) < (n : Int) := by omega
      have HT : Hid (R = true) := Lib.hid (by
        rw [HR.out, hasL_iff]
        intro i hi; exact hsm.out i (by omega))
      go_wp2
      go_ret
      exact ⟨by rw [HT.out]; rfl, rfl⟩
end Go.Proofs.YtmpjpaomgifpcaaGreatDoor
namespace Go.Proofs.YtmpjpaomgifpcaaGreatDoor
open Go.RowKit

theorem texts_none (a : Option Addr) (c : Nat) (w : World) : Calls Tryz.prog 23 #[.slice a 0 c] w fun e w' => e = .returned (.slice none 0 0) ∧ w = w' := by
  go_enter Tryz.func23, Tryz.ntmps23
  go_wp2
  go_ret
  exact ⟨rfl, rfl⟩
theorem root_none (a : Option Addr) (c : Nat) (w : World) : Calls Tryz.prog 53 #[.slice a 0 c] w (StrRes w noneH) := by
  go_enter Tryz.func53, Tryz.ntmps53
  go_wp2_with fail
  refine (texts_none a c w).mono ?_
  rintro e w1 ⟨rfl, rfl⟩
  go_wp2_with (refine list_makeN Tryz.bytesSl rfl _ _ rfl 32 32 32 rfl rfl rfl rfl (by omega) (by unfold maxLen; omega) rfl ?_)
  intro w1 hr hb
  have hc := rowIs_block hr
  have hcells := cells_map 32 (List.replicate 32 (0 : UInt8)) (fun _ => 0) (by simp) (fun j hj => by rw [List.getD_eq_getElem?_getD, List.getElem?_replicate]; simp [hj])
  have e0 : arrL 32 (fun _ => Value.int .u8 0) = (List.replicate 32 (0 : UInt8)).map byteV := hcells
  rw [e0] at hc
  have hcv := run_string_row (src := 99) (dst := 9) Tryz.underlying99 Tryz.underlying5 Tryz.underlying9 w.heap.size 32 (List.replicate 32 (0 : UInt8)) (P := Tryz.prog) (e := 5) (w := w1) hc
  rw [List.length_replicate] at hcv
  clear hc hcells e0 hr
  go_wp2
  go_ret
  exact ⟨rfl, hb⟩
end Go.Proofs.YtmpjpaomgifpcaaGreatDoor
namespace Go.Proofs.YtmpjpaomgifpcaaGreatDoor
open Go.RowKit

def PlRel (p : Nat) (w : World) (i : Value) (wr : World) : Prop := ∃ j : Nat, i = .int .i64 j ∧ j ≤ p ∧ Same w wr
set_option maxHeartbeats 1000000 in
theorem place_ref (a b : ByteArray) (l : List Pr) (lv : Value) (p : Nat) (w : World) (hp : p < 256) (ha : a.size = 32) (hb : b.size = 32) (hs : ∀ i, i < p → bitL (ks a) i = bitL (ks b) i) (hd : bitL (ks a) p ≠ bitL (ks b) p)
    (m : Nat) (hm : l.length = m + 1) (hm2 : m ≤ 1000) (hfst : ∃ v, l[0]? = some (a, v)) (hlst : ∃ v, l[m]? = some (b, v)) (h : PSl w lv l) :
    Calls Tryz.prog 54 #[lv] w fun e w' => e = .returned (.int .i64 (p : Int)) ∧ Same w w' := by
  obtain ⟨aa, c, rfl, hc, hcells⟩ := h
  obtain ⟨g, o, rfl, hg, hcs⟩ := hcells (by intro e; rw [e] at hm; simp at hm)
  obtain ⟨va, hva⟩ := hfst
  obtain ⟨vb, hvb⟩ := hlst
  obtain ⟨d1, _⟩ := hcs 0 _ hva
  obtain ⟨d2, _⟩ := hcs m _ hvb
  rw [Nat.zero_mul, Nat.add_zero] at d1
  simp only at d1 d2
  rw [hm]
  have hm0 : (0 : Int) ≤ (m : Int) := by omega
  have hm1 : (m : Int) ≤ 1000 := by omega
  have D1 := Lib.hid d1
  have D2 := Lib.hid d2
  have HS := Lib.hid hs
  have HD := Lib.hid hd
  clear hcells hcs hva hvb hc hs hd hm d1 d2
  go_enter Tryz.func54, Tryz.ntmps54
  go_wp2_with fail
  go_loopw [3] (PlRel p w) (fun i _ => 256 - (intOf i).toNat)
  case atStart => exact ⟨0, rfl, by omega, Same.refl _⟩
  case round =>
    obtain ⟨j, rfl, hj, hsm⟩ := hrel
    have hj0 : (0 : Int) ≤ (j : Int) := by omega
    have hj1 : (j : Int) ≤ 255 := by omega
    have hj2 : (j : Int) < 256 := by omega
    have c1 : wr.cell? ⟨g, o, none⟩ = some (.string a) := by rw [(hsm.below w.heap.size).cell (p := ⟨g, o, none⟩) hg]; exact D1.out
    have c2 : wr.cell? ⟨g, o + m * 2, none⟩ = some (.string b) := by rw [(hsm.below w.heap.size).cell (p := ⟨g, o + m * 2, none⟩) hg]; exact D2.out
    have H1 := Lib.hid (fun W => bit_ref a j W (by omega) ha)
    have H2 := Lib.hid (fun W => bit_ref b j W (by omega) hb)
    have HSM := Lib.hid hsm
    have hmm : IntKind.i64.wrap (((m + 1 : Nat) : Int) - 1) = (m : Int) := by
      rw [show ((m + 1 : Nat) : Int) - 1 = (m : Int) by omega]; exact IntWalk.i64_in _ (by omega)
    clear hsm
    by_cases hlt : j < p
    · have hI : (bitN (bitL (ks a) j) != bitN (bitL (ks b) j)) = false := by rw [bitN_ne, HS.out j hlt]; simp
      obtain ⟨x, hx⟩ : ∃ x, x = bitN (bitL (ks a) j) := ⟨_, rfl⟩
      obtain ⟨y, hy⟩ : ∃ y, y = bitN (bitL (ks b) j) := ⟨_, rfl⟩
      rw [← hx] at H1 hI
      rw [← hy] at H2 hI
      clear hx hy
      go_wp2_with fail
      go_quiet ((first | (go_at_call 55; (with_reducible exact quietE (H1.out _))) | (go_at_call 55; (with_reducible exact quietE (H2.out _)))))
      go_wp2_with fail
      go_roundw
      case rel => exact ⟨j + 1, by go_num, by omega, HSM.out.trans ⟨_, rfl⟩⟩
      case measure => simp [intOf]; omega
    · have hjp : j = p := by omega
      have hI : (bitN (bitL (ks a) j) != bitN (bitL (ks b) j)) = true := by rw [bitN_ne, hjp]; simpa using HD.out
      have HJ := Lib.hid hjp
      obtain ⟨x, hx⟩ : ∃ x, x = bitN (bitL (ks a) j) := ⟨_, rfl⟩
      obtain ⟨y, hy⟩ : ∃ y, y = bitN (bitL (ks b) j) := ⟨_, rfl⟩
      rw [← hx] at H1 hI
      rw [← hy] at H2 hI
      clear hx hy hjp
      go_wp2_with fail
      go_quiet ((first | (go_at_call 55; (with_reducible exact quietE (H1.out _))) | (go_at_call 55; (with_reducible exact quietE (H2.out _)))))
      go_wp2_with fail
      go_ret
      exact ⟨by rw [← HJ.out]; rfl, HSM.out.trans ⟨_, rfl⟩⟩

/-- The first n + 1 bits, by the first n. -/
theorem first_step (l : List UInt8) (n : Nat) (hn : n / 8 < l.length) : firstL l (n + 1) = if bitL l n then (firstL l n).set (n / 8) (setU ((firstL l n).getD (n / 8) 0) (n % 8)) else firstL l n := by
  have hlen := firstL_length l n
  refine bits_ext _ _ (by split <;> simp [firstL_length]) (fun i _ => ?_)
  rw [firstL_bit]
  by_cases hb : bitL l n = true
  · rw [if_pos hb]
    rw [bitL_set _ _ _ (by omega), firstL_bit]
    have h := (set_ok ((firstL l n).getD (n / 8) 0) (n % 8) (by omega)).2
    split
    · rename_i he
      rw [h _ (by omega)]
      by_cases h2 : i % 8 = n % 8
      · have : i = n := by omega
        subst this; simp [hb]
      · have e1 : bitU ((firstL l n).getD (n / 8) 0) (i % 8) = bitL (firstL l n) i := by rw [bitL, he]
        rw [e1, firstL_bit]
        have : (i < n + 1) = (i < n) := by simp; omega
        simp [h2, this]
    · have : (i < n + 1) = (i < n) := by simp; omega
      simp only [this]
  · rw [if_neg hb, firstL_bit]
    by_cases h2 : i = n
    · subst h2; simp [hb]
    · have : (i < n + 1) = (i < n) := by simp; omega
      simp only [this]
def FsRel (k : ByteArray) (n g : Nat) (w : World) (i : Value) (wr : World) : Prop := ∃ j : Nat, i = .int .i64 j ∧ j ≤ n ∧ Hid (wr.rowIs g 5 32 (fun i => byteV ((firstL (ks k) j).getD i 0))) ∧ Below w.heap.size w wr
set_option maxRecDepth 30000 in
set_option maxHeartbeats 1000000 in
theorem first_ref (k : ByteArray) (n : Nat) (w : World) (hk : k.size = 32) (hn : n ≤ 256) :
    Calls Tryz.prog 56 #[.string k, .int .i64 n] w (StrRes w (firstB k n)) := by
  have hn0 : (0 : Int) ≤ (n : Int) := by omega
  have hn1 : (n : Int) ≤ 256 := by omega
  go_enter Tryz.func56, Tryz.ntmps56
  go_wp2_with (refine list_makeN Tryz.bytesSl rfl _ _ rfl 32 32 32 rfl rfl rfl rfl (by omega) (by unfold maxLen; omega) rfl ?_)
  intro w1 hr1 hb1
  have HR1 : Hid (w1.rowIs w.heap.size 5 32 (fun i => byteV ((firstL (ks k) 0).getD i 0))) := Lib.hid (hr1.congr (fun i _ => by
    rw [firstL_zero, List.getD_eq_getElem?_getD, List.getElem?_replicate]; split <;> simp [byteV]))
  have HB1 := Lib.hid hb1
  clear hr1 hb1
  go_wp2_with fail
  go_loopw [6] (FsRel k n w.heap.size w) (fun i _ => 256 - (intOf i).toNat)
  case atStart => exact ⟨0, rfl, by omega, HR1, HB1.out⟩
  case round =>
    obtain ⟨j, rfl, hj, hrow, hb⟩ := hrel
    have hj0 : (0 : Int) ≤ (j : Int) := by omega
    have hj1 : (j : Int) ≤ 256 := by omega
    have HB := Lib.hid hb
    clear hb
    by_cases hlt : j < n
    · have hltI : (j : Int) < (n : Int) := by omega
      have H1 := Lib.hid (fun W => bit_ref k j W (by omega) hk)
      have hstep := first_step (ks k) j (by simp; omega)
      cases hbit : bitL (ks k) j with
      | false =>
        rw [hbit, if_neg (by simp)] at hstep
        rw [hbit] at H1
        have HR2 := Lib.hid (show wr.rowIs w.heap.size 5 32 (fun i => byteV ((firstL (ks k) (j + 1)).getD i 0)) by rw [hstep]; exact hrow.out)
        have hz : (bitN false == 1) = false := rfl
        clear hstep hbit
        go_wp2_with fail
        refine (H1.out _).mono ?_
        rintro e w2 ⟨rfl, rfl⟩
        go_wp2_with fail
        go_roundw
        case rel => exact ⟨j + 1, by go_num, by omega, HR2, HB.out⟩
        case measure => simp [intOf]; omega
      | true =>
        rw [hbit, if_pos rfl] at hstep
        rw [hbit] at H1
        have hz : (bitN true == 1) = true := rfl
        obtain ⟨q, hq⟩ : ∃ q, q = j / 8 := ⟨_, rfl⟩
        obtain ⟨r, hr⟩ : ∃ r, r = j % 8 := ⟨_, rfl⟩
        have hqI : (j : Int) / 8 = (q : Int) := by omega
        have hrI : (j : Int) % 8 = (r : Int) := by omega
        have hr8 : r < 8 := by omega
        have hq32 : q < 32 := by omega
        obtain ⟨x, hx⟩ : ∃ x, x = (firstL (ks k) j).getD q 0 := ⟨_, rfl⟩
        have hor := (set_ok x r hr8).1
        have c := hrow.out.cell (i := q) hq32
        have f := hrow.out.frozen q
        rw [← hq, ← hr, ← hx] at hstep
        simp only [← hx] at c
        obtain ⟨y, hy⟩ : ∃ y, y = setU x r := ⟨_, rfl⟩
        rw [← hy] at hor hstep
        have hfl := firstL_length (ks k) j
        have hks : (ks k).length = 32 := by rw [ks_length, hk]
        have hrow2 := row_put (f' := fun i => byteV ((firstL (ks k) (j + 1)).getD i 0)) hrow.out q (.int .u8 (y.toNat : Int)) (fun i _ => by
          rw [hstep]
          by_cases h1 : i = q
          · subst h1
            rw [if_pos rfl, List.getD_eq_getElem?_getD, List.getElem?_set_self (by omega)]; rfl
          · rw [if_neg h1, List.getD_eq_getElem?_getD, List.getElem?_set_ne (by omega), ← List.getD_eq_getElem?_getD])
        have HR2 := Lib.hid hrow2
        have HB2 := Lib.hid (HB.out.setCell (p := ⟨w.heap.size, q, none⟩) (Nat.le_refl _) (.int .u8 (y.toNat : Int)))
        have hqI0 : (0 : Int) ≤ (q : Int) := by omega
        have hqI1 : (q : Int) ≤ 31 := by omega
        have hqI2 : (q : Int) < 32 := by omega
        have hqI3 : (q : Int).toNat = q := by omega
        obtain ⟨s, hs⟩ : ∃ s, s = 7 - r := ⟨_, rfl⟩
        have t1 : IntKind.i64.wrap (q : Int) = (q : Int) := IntWalk.i64_in _ (by omega)
        have t2 : IntKind.i64.wrap (r : Int) = (r : Int) := IntWalk.i64_in _ (by omega)
        have t3 : IntKind.i64.wrap (7 - (r : Int)) = (s : Int) := by rw [show (7 : Int) - (r : Int) = (s : Int) by omega]; exact IntWalk.i64_in _ (by omega)
        have t7 : (j : Int).tmod 8 = (r : Int) := by rw [Int.tmod_eq_emod_of_nonneg hj0]; exact hrI
        have t4 : ¬ (s : Int) < 0 := by omega
        have t5 : min s 8 = s := by omega
        have t6 : IntKind.u8.wrap (2 ^ s) = 128 / 2 ^ r := by
          have : ∀ r : Fin 8, IntKind.u8.wrap (2 ^ (7 - r.val)) = 128 / 2 ^ r.val := by decide
          rw [hs]; exact this ⟨r, hr8⟩
        unfold byteV at c
        clear hs
        clear hstep hbit hq hr hx hy hfl hks hrow2
        go_wp2_with fail
        refine (H1.out _).mono ?_
        rintro e w2 ⟨rfl, rfl⟩
        go_wp2_with fail
        go_still_tail 14, (by kernel_rfl)
        go_wp2_with fail
        go_roundw
        case rel => exact ⟨j + 1, by go_num, by omega, HR2, HB2.out.drew⟩
        case measure => simp [intOf]; omega
    · have hltI : ¬ (j : Int) < (n : Int) := by omega
      have hjn : j = n := by omega
      have hl32 : (firstL (ks k) j).length = 32 := by rw [firstL_length, ks_length, hk]
      have hcells := cells_map 32 (firstL (ks k) j) (fun i => (firstL (ks k) j).getD i 0) hl32 (fun _ _ => rfl)
      have hc := rowIs_block hrow.out
      rw [hcells] at hc
      have hcv := run_string_row (src := 99) (dst := 9) Tryz.underlying99 Tryz.underlying5 Tryz.underlying9 w.heap.size 32 (firstL (ks k) j) (P := Tryz.prog) (e := 5) (w := wr) hc
      rw [hl32] at hcv
      have HJ := Lib.hid hjn
      clear hc hcells hl32 hjn
      go_wp2
      go_ret
      exact ⟨by rw [← HJ.out]; rfl, HB.out⟩
end Go.Proofs.YtmpjpaomgifpcaaGreatDoor
namespace Go.Proofs.YtmpjpaomgifpcaaGreatDoor
open Go.RowKit

/-- Bytes as a text. -/
def bs (l : List UInt8) : ByteArray := ⟨l.toArray⟩
theorem ks_bs (l : List UInt8) : ks (bs l) = l := by simp [ks, bs]
theorem bs_ks (s : ByteArray) : bs (ks s) = s := ks_inj (ks_bs _)
theorem bs_size (l : List UInt8) : (bs l).size = l.length := mk_size l
def Tr.txs (t : Tr) : List ByteArray := t.texts.map bs
/-- The slice value v owns these texts. -/
def SOwn (w : World) (B : Nat) (v : Value) (l : List ByteArray) : Prop := w.ownsRow B 9 1 v l.length (l.map Value.string)
theorem SOwn.alloc {w : World} {B : Nat} {v : Value} {l : List ByteArray} (h : SOwn w B v l) (o : Obj) : SOwn (w.alloc o) B v l := World.ownsRow.alloc h o
theorem SOwn.low {w : World} {B : Nat} {v : Value} {l : List ByteArray} (h : SOwn w B v l) : ∀ k, v.ownBlock = some k → B ≤ k := ownN_low h
theorem SOwn.later {w w' : World} {B : Nat} {v : Value} {l : List ByteArray} (h : SOwn w B v l) (hb : Below w.heap.size w w') : SOwn w' B v l := ownN_mv h (fun k hk => hb.block k (World.ownsRow.lt h k hk).2)
theorem SOwn.base {w : World} {B B' : Nat} {v : Value} {l : List ByteArray} (h : SOwn w B v l) (hB : B' ≤ B) : SOwn w B' v l := ownN_base h (fun k hk => Nat.le_trans hB (SOwn.low h k hk))
/-- Where an owned slice that is not empty lies. -/
theorem SOwn.at {w : World} {B : Nat} {v : Value} {l : List ByteArray} (h : SOwn w B v l) (hne : l ≠ []) : ∃ g c, v = .slice (some ⟨g, 0, none⟩) l.length c ∧ l.length ≤ c ∧ B ≤ g ∧ g < w.heap.size ∧ ∀ i s, l[i]? = some s → w.cell? ⟨g, i, none⟩ = some (.string s) := by
  rcases h.2 with ⟨h1, h2⟩ | ⟨g, cap, cur, he, hB, hg, hn, hm, hs, ht⟩
  · exact absurd (List.eq_nil_of_length_eq_zero h2) hne
  · refine ⟨g, cap, he, hn, hB, block_lt hg, fun i s hi => ?_⟩
    have hj : i < l.length := (List.getElem?_eq_some_iff.1 hi).1
    have hu : (l.map Value.string)[i]? = some (.string s) := by rw [List.getElem?_map, hi]; rfl
    rw [← ht, List.getElem?_take] at hu
    split at hu
    · unfold World.cell?
      rw [hg]
      simpa using hu
    · cases hu
def TxRes (w : World) (l : List ByteArray) (e : Ending) (w' : World) : Prop := ∃ v, e = .returned v ∧ SOwn w' w.heap.size v l ∧ Below w.heap.size w w'

theorem leaf_three (k v S : ByteArray) (hS : sumB (ks v) = S) : (⟨#[0]⟩ : ByteArray) ++ k ++ S = bs (leafT k v) := by
  subst hS
  apply ks_inj
  rw [ks_bs]
  simp [leafT, ks, sumB]
theorem own_two (w : World) (B : Nat) (hB : B ≤ w.heap.size) (x y : ByteArray) : SOwn (w.alloc (.cells #[.string x, .string y] 9)) B (.slice (some ⟨w.heap.size, 0, none⟩) 2 2) [x, y] :=
  World.ownsRow_lit w #[.string x, .string y] 2 hB (by decide) (by simp)

set_option maxRecDepth 30000 in
set_option maxHeartbeats 2000000 in
theorem texts_leaf (k v : ByteArray) (lv : Value) (w : World) (hk : k.size = 32) (hv : v.size ≤ 5000) (h : PSl w lv [(k, v)]) :
    Calls Tryz.prog 23 #[lv] w (TxRes w (Tr.leaf k v).txs) := by
  obtain ⟨aa, c, rfl, hc, hcells⟩ := h
  obtain ⟨g, o, rfl, hg, hcs⟩ := hcells (by simp)
  obtain ⟨c1, c2⟩ := hcs 0 (k, v) rfl
  rw [Nat.zero_mul, Nat.add_zero] at c1 c2
  simp only at c1 c2
  have hl : [(k, v)].length = 1 := rfl
  rw [hl]
  obtain ⟨S, hS⟩ : ∃ S, sumB (ks v) = S := ⟨_, rfl⟩
  have hSs : S.size ≤ 32 := by rw [← hS, sumB_size]; omega
  have HP := Lib.hid (fun W => print_at v S W hS (by omega))
  have hk2 : k.size ≤ 32 := by omega
  have H3 := Lib.hid (leaf_three k v S hS)
  have q1 : ¬ 9223372036854775807 < 1 + k.size := by omega
  have q2 : ¬ 9223372036854775807 < 1 + k.size + S.size := by omega
  clear hcells hcs hc hl hS hk
  go_enter Tryz.func23, Tryz.ntmps23
  go_wp2_with fail
  go_region_held3 (fun w' => w'.cell? ⟨g, o, none⟩ = some (.string k) ∧ w'.cell? ⟨g, o + 1, none⟩ = some (.string v))
    (first | exact ⟨c1, c2⟩ | exact e4 | exact ⟨cellA _ e4.1, cellA _ e4.2⟩)
    ((go_at_call 52; refine (HP.out _).mono ?_; rintro e w4 ⟨rfl, hb4⟩; have e4 := And.intro (cellD hb4 c1) (cellD hb4 c2); have HB4 := Lib.hid ((Below.refl w.heap.size w).drew.trans hb4)))
  go_wp2
  go_ret
  refine ⟨_, rfl, ?_, HB4.out.alloc HB4.out.size _⟩
  show SOwn _ _ _ [bs (ks v), bs (leafT k v)]
  rw [bs_ks, ← H3.out]
  exact own_two w4 _ HB4.out.size _ _
end Go.Proofs.YtmpjpaomgifpcaaGreatDoor
