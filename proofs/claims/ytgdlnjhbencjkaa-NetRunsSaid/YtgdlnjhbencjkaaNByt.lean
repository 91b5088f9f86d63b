/- net: entriesNode, list, one. -/
import Derived.Test.YtgdlnjhbencjkaaNMsl
namespace Go.Proofs.Ytgdlnjhbencjkaa
open Go.RowKit

/-- Entries as nodes. -/
def entF (e : Ent) : F := .cons 0 (e.1 : Int) ⟨#[]⟩ .nil (.cons 1 0 e.2 .nil .nil)
def entsF : List Ent → F
  | [] => .nil
  | e :: r => .cons 2 0 ⟨#[]⟩ (entF e) (entsF r)
theorem entsF_len : ∀ l : List Ent, (entsF l).len = l.length
  | [] => rfl
  | _ :: r => by simp [entsF, F.len, entsF_len r]
theorem entsF_snoc : ∀ (l : List Ent) (e : Ent), entsF (l ++ [e]) = (entsF l).app (.cons 2 0 ⟨#[]⟩ (entF e) .nil)
  | [], e => rfl
  | x :: r, e => by rw [List.cons_append, entsF, entsF_snoc r e]; rfl
def okN (b : Bool) : Int := if b then 1 else 0
set_option maxRecDepth 100000 in
theorem one_prog (b : Bool) (w : World) : Calls Try.prog 32 #[.bool b] w fun e w' => e = .returned (.int .u64 (okN b)) ∧ w = w' := by
  cases b <;>
  · go_enter Try.func32, Try.ntmps32
    go_wp2
    go_ret
    exact ⟨rfl, rfl⟩
set_option maxRecDepth 100000 in
theorem list_prog (a : Option Addr) (n c : Nat) (w : World) : Calls Try.prog 30 #[.slice a n c] w fun e w' => e = .returned (.agg #[.int .i64 2, .int .u64 0, .string ⟨#[]⟩, .slice a n c]) ∧ Below w.heap.size w w' := by
  go_enter Try.func30, Try.ntmps30
  go_wp2
  exact bodyPost_ret (v := .agg #[.int .i64 2, .int .u64 0, .string ⟨#[]⟩, .slice a n c]) (by simp [results, Try.results30, go_sem]) rfl ⟨rfl, (Below.refl _ _).alloc (Nat.le_refl _) _⟩

def zeroC : Nat → List Value
  | 0 => []
  | n + 1 => [.int .i64 0, .int .u64 0, .string ⟨#[]⟩, .slice none 0 0] ++ zeroC n
theorem zeroC_len : ∀ n, (zeroC n).length = n * 4
  | 0 => rfl
  | n + 1 => by simp only [zeroC, List.length_append, zeroC_len n, List.length_cons, List.length_nil]; omega
theorem made_zero (n : Nat) : (madeCells (Value.agg #[.int .i64 0, .int .u64 0, .string ⟨#[]⟩, .slice none 0 0]).cells (n * 4)).toList = zeroC n := by
  induction n with
  | zero => simp [madeCells, zeroC]
  | succ n ih =>
    refine List.ext_getElem? fun j => ?_
    have hz : (Value.agg #[.int .i64 0, .int .u64 0, .string ⟨#[]⟩, .slice none 0 0]).cells = #[.int .i64 0, .int .u64 0, .string ⟨#[]⟩, .slice none 0 0] := rfl
    have get : ∀ m j, j < m * 4 → (madeCells (Value.agg #[.int .i64 0, .int .u64 0, .string ⟨#[]⟩, .slice none 0 0]).cells (m * 4)).toList[j]? = #[Value.int .i64 0, .int .u64 0, .string ⟨#[]⟩, .slice none 0 0][j % 4]? := fun m j h => by
      rw [hz]
      simp [madeCells, h]
      have : j % 4 < 4 := Nat.mod_lt _ (by omega)
      rcases (by omega : j % 4 = 0 ∨ j % 4 = 1 ∨ j % 4 = 2 ∨ j % 4 = 3) with h | h | h | h <;> simp [h]
    by_cases hj : j < (n + 1) * 4
    · rw [get _ _ hj, zeroC]
      by_cases h4 : j < 4
      · rw [List.getElem?_append_left (by simpa using h4), Nat.mod_eq_of_lt h4]
        rcases (by omega : j = 0 ∨ j = 1 ∨ j = 2 ∨ j = 3) with h | h | h | h <;> simp [h]
      · rw [List.getElem?_append_right (by simp; omega), ← ih]
        have := get n (j - 4) (by omega)
        simp only [List.length_cons, List.length_nil] at *
        rw [this]
        congr 1; omega
    · rw [List.getElem?_eq_none (by simp [size_madeCells]; omega), List.getElem?_eq_none (by rw [zeroC_len]; omega)]

theorem set_at {A B : List Value} {k i j : Nat} (hA : A.length = k * 4) (hi : i = k * 4 + j) (x : Value) : (A ++ B).set i x = A ++ B.set j x := by
  rw [List.set_append_right _ _ (by omega), show i - A.length = j by omega]
theorem heap_setL {w : World} {G i : Nat} {L L' : List Value} {ty : TypeId} (h : w.heap[G]? = some (.cells L.toArray ty (0, 0))) (x : Value) (e : L.set i x = L') : (w.setCell ⟨G, i, none⟩ x).heap[G]? = some (.cells L'.toArray ty (0, 0)) := by
  have := heap_setCell_same w G i _ _ x h
  rw [this, List.setIfInBounds_toArray, e]
theorem heap_set4L {w : World} {G : Nat} {A : List Value} {b0 b1 b2 b3 : Value} {C : List Value} {ty : TypeId} {k : Nat} (h : w.heap[G]? = some (.cells (A ++ ([b0, b1, b2, b3] ++ C)).toArray ty (0, 0))) (hA : A.length = k * 4) (a0 a1 a2 a3 : Value) :
    ((((w.setCell ⟨G, k * 4, none⟩ a0).setCell ⟨G, k * 4 + 1, none⟩ a1).setCell ⟨G, k * 4 + 2, none⟩ a2).setCell ⟨G, k * 4 + 3, none⟩ a3).heap[G]? = some (.cells ((A ++ [a0, a1, a2, a3]) ++ C).toArray ty (0, 0)) := by
  have h0 := heap_setL h a0 (set_at (i := k * 4) (j := 0) hA (by omega) a0)
  have h1 := heap_setL h0 a1 (set_at (i := k * 4 + 1) (j := 1) hA (by omega) a1)
  have h2 := heap_setL h1 a2 (set_at (i := k * 4 + 2) (j := 2) hA (by omega) a2)
  have h3 := heap_setL h2 a3 (set_at (i := k * 4 + 3) (j := 3) hA (by omega) a3)
  rw [h3, List.append_assoc]
  rfl
theorem cells4L {w : World} {G : Nat} {A : List Value} {b0 b1 b2 b3 : Value} {C : List Value} {ty : TypeId} {k : Nat} (h : w.heap[G]? = some (.cells (A ++ ([b0, b1, b2, b3] ++ C)).toArray ty (0, 0))) (hA : A.length = k * 4) :
    w.cell? ⟨G, k * 4, none⟩ = some b0 ∧ w.cell? ⟨G, k * 4 + 1, none⟩ = some b1 ∧ w.cell? ⟨G, k * 4 + 2, none⟩ = some b2 ∧ w.cell? ⟨G, k * 4 + 3, none⟩ = some b3 ∧ ∀ j, w.frozen? ⟨G, j, none⟩ = false := by
  refine ⟨?_, ?_, ?_, ?_, fun j => by simp [World.frozen?, h]⟩ <;>
  · unfold World.cell?
    simp only [h]
    rw [← hA]
    simp
theorem set4_cellN {w : World} {G b o k : Nat} {u : Value} (h : w.cell? ⟨b, o, none⟩ = some u) (hne : b ≠ G) (a0 a1 a2 a3 : Value) :
    ((((w.setCell ⟨G, k * 4, none⟩ a0).setCell ⟨G, k * 4 + 1, none⟩ a1).setCell ⟨G, k * 4 + 2, none⟩ a2).setCell ⟨G, k * 4 + 3, none⟩ a3).cell? ⟨b, o, none⟩ = some u :=
  cellO (cellO (cellO (cellO h hne) hne) hne) hne
theorem set4_other {w : World} {G b k : Nat} (hne : b ≠ G) (a0 a1 a2 a3 : Value) :
    ((((w.setCell ⟨G, k * 4, none⟩ a0).setCell ⟨G, k * 4 + 1, none⟩ a1).setCell ⟨G, k * 4 + 2, none⟩ a2).setCell ⟨G, k * 4 + 3, none⟩ a3).heap[b]? = w.heap[b]? := by
  rw [heap_setCell_other _ ⟨G, k * 4 + 3, none⟩ b _ hne, heap_setCell_other _ ⟨G, k * 4 + 2, none⟩ b _ hne, heap_setCell_other _ ⟨G, k * 4 + 1, none⟩ b _ hne, heap_setCell_other _ ⟨G, k * 4, none⟩ b _ hne]
theorem set4_belowN {w : World} {G B k : Nat} (hB : B ≤ G) (a0 a1 a2 a3 : Value) : Below B w ((((w.setCell ⟨G, k * 4, none⟩ a0).setCell ⟨G, k * 4 + 1, none⟩ a1).setCell ⟨G, k * 4 + 2, none⟩ a2).setCell ⟨G, k * 4 + 3, none⟩ a3) :=
  ((((Below.refl B w).setCell hB _).setCell hB _).setCell hB _).setCell hB _
theorem cells2 {w : World} {G : Nat} {a0 a1 : Value} {ty : TypeId} (h : w.heap[G]? = some (.cells #[a0, a1] ty (0, 0))) : w.cell? ⟨G, 0, none⟩ = some a0 ∧ w.cell? ⟨G, 1, none⟩ = some a1 := by
  simp [World.cell?, h]
/-- An entry's two nodes. -/
theorem kids_ent {w : World} {S : Nat → Prop} {g : Nat} {t : Nat} {s : ByteArray} {ty : TypeId} (h : w.heap[g]? = some (.cells #[.int .i64 0, .int .u64 (t : Int), .string ⟨#[]⟩, .slice none 0 0, .int .i64 1, .int .u64 0, .string s, .slice none 0 0] ty (0, 0))) (hS : S g) :
    KidsAt w S (entF (t, s)) (.slice (some ⟨g, 0, none⟩) 2 2) := by
  refine .inr ⟨g, 0, 2, rfl, hS, ⟨_, _, h⟩, Nat.le_refl 2, ?_⟩
  refine lies_cons.2 ⟨⟨_, ?_, ?_, ?_, ?_, KidsAt.nil _ _⟩, lies_cons.2 ⟨⟨_, ?_, ?_, ?_, ?_, KidsAt.nil _ _⟩, trivial⟩⟩ <;> simp [World.cell?, h]
def EnRel (w : World) (G : Nat) (ents : List Ent) (k : Nat) (wr : World) : Prop :=
  ∃ cs, wr.heap[G]? = some (.cells (cs ++ zeroC (ents.length - k)).toArray 76 (0, 0)) ∧ CellsOf wr (fun b => (w.heap.size < b ∧ b < wr.heap.size) ∧ b ≠ G) (entsF (ents.take k)) cs ∧ cs.length = k * 4 ∧ Below w.heap.size w wr ∧ wr.heap[w.heap.size]? = some (.cells #[.int .i64 0, .int .u64 0, .string ⟨#[]⟩, .slice none 0 0] 76 (0, 0))
theorem EnRel.step {w wr w5 w7 : World} {G : Nat} {ents : List Ent} {k g5 : Nat} {x : Ent} (h : EnRel w G ents k wr) (hx : ents[k]? = some x) (hG : w.heap.size < G) (hb5 : Below wr.heap.size wr w5)
    (h5 : w5.heap[g5]? = some (.cells #[.int .i64 0, .int .u64 (x.1 : Int), .string ⟨#[]⟩, .slice none 0 0, .int .i64 1, .int .u64 0, .string x.2, .slice none 0 0] 76 (0, 0))) (hne : G < g5) (hge : w.heap.size < g5) (hb7 : Below w5.heap.size w5 w7) :
    EnRel w G ents (k + 1) ((((w7.setCell ⟨G, k * 4, none⟩ (.int .i64 2)).setCell ⟨G, k * 4 + 1, none⟩ (.int .u64 0)).setCell ⟨G, k * 4 + 2, none⟩ (.string ⟨#[]⟩)).setCell ⟨G, k * 4 + 3, none⟩ (.slice (some ⟨g5, 0, none⟩) 2 2)) := by
  obtain ⟨cs, h1, h2, h3, h4, h6⟩ := h
  have hk := (List.getElem?_eq_some_iff.1 hx).1
  have hGlt := block_lt h1
  have hb : Below wr.heap.size wr w7 := hb5.trans (hb7.mono hb5.size)
  have e : ents.length - k = (ents.length - (k + 1)) + 1 := by omega
  rw [e, zeroC] at h1
  have h17 := (hb.block G hGlt).trans h1
  have hh := heap_set4L h17 h3 (.int .i64 2) (.int .u64 0) (.string ⟨#[]⟩) (.slice (some ⟨g5, 0, none⟩) 2 2)
  have h57 := (hb7.block _ (block_lt h5)).trans h5
  have hlt5 := block_lt h5
  have h7s := hb7.size
  have hw7 : Below w.heap.size w w7 := h4.trans (hb.mono h4.size)
  refine ⟨_, hh, ?_, by simp [h3]; omega, hw7.trans (set4_belowN (Nat.le_of_lt hG) _ _ _ _), (set4_other (Nat.ne_of_lt hG) _ _ _ _).trans ((hb.block _ (block_lt h6)).trans h6)⟩
  rw [List.take_add_one, hx]
  show CellsOf _ _ (entsF (ents.take k ++ [x])) _
  rw [entsF_snoc]
  refine CellsOf.snoc (kids_ent ((set4_other (by omega) _ _ _ _).trans h57) ⟨⟨hge, by simp; omega⟩, by omega⟩) _ _ ?_
  refine CellsOf.mono (fun b hb' => ⟨⟨⟨hb'.1.1, by have := hb'.1.2; have := hb.size; simp only [size_setCell]; omega⟩, hb'.2⟩, (set4_other hb'.2 _ _ _ _).trans (hb.block b hb'.1.2)⟩) _ _ h2
set_option maxHeartbeats 8000000 in
set_option maxRecDepth 100000 in
theorem entriesNode_prog (ents : List Ent) (ev : Value) (w : World) (h : ESl w ev ents) (hl : ents.length ≤ 1000) :
    Calls Try.prog 33 #[ev] w fun e w' => ∃ kv, e = .returned (.agg #[.int .i64 2, .int .u64 0, .string ⟨#[]⟩, kv]) ∧ KidsAt w' (fun b => w.heap.size ≤ b ∧ b < w'.heap.size) (entsF ents) kv ∧ Below w.heap.size w w' := by
  obtain ⟨a, c, rfl, hc, hcells⟩ := id h
  obtain ⟨n, hn⟩ : ∃ n, ents.length = n := ⟨_, rfl⟩
  have HN := Lib.hid hn
  rw [hn]
  have hnI : (n : Int) ≤ 1000 := by omega
  obtain ⟨W0, hW0⟩ : ∃ W0, W0 = w.alloc (.cells #[.int .i64 0, .int .u64 0, .string ⟨#[]⟩, .slice none 0 0] 76) := ⟨_, rfl⟩
  have hb0 : Below w.heap.size w W0 := by rw [hW0]; exact (Below.refl _ _).alloc (Nat.le_refl _) _
  have hs0 : W0.heap.size = w.heap.size + 1 := by rw [hW0]; simp
  have hz0 : W0.heap[w.heap.size]? = some (.cells #[.int .i64 0, .int .u64 0, .string ⟨#[]⟩, .slice none 0 0] 76 (0, 0)) := by rw [hW0]; exact heap_alloc_new _ _
  obtain ⟨i0, hi, hz1, hz2, hz3⟩ := info_parts Try.nodeSl.info
  obtain ⟨M, hM⟩ : ∃ M, M = madeCells (Value.agg #[.int .i64 0, .int .u64 0, .string ⟨#[]⟩, .slice none 0 0]).cells ((n : Int).toNat * i0.size) := ⟨_, rfl⟩
  have hMl : M.toList = zeroC n := by rw [hM, hz2]; simpa using made_zero n
  have hmk : ∀ W : World, (Instr.makeSlice 74 (.int .i64 (n : Int)) (.int .i64 (n : Int))).run Try.prog W = .ok (.slice (some ⟨W.heap.size, 0, none⟩) n n) (W.alloc (.cells M 76)) := fun W => by
    have h := run_make (P := Try.prog) W 74 76 i0 _ Try.nodeSl.und hi hz1 .i64 .i64 (n : Int) (n : Int) (by omega) (by omega) (by rw [hz3]; omega) (by omega)
    rw [← hM] at h
    simpa using h
  obtain ⟨W1, hW1⟩ : ∃ W1, W1 = W0.alloc (.cells M 76) := ⟨_, rfl⟩
  have hb1 : Below W0.heap.size W0 W1 := by rw [hW1]; exact (Below.refl _ _).alloc (Nat.le_refl _) _
  have hg1 : W1.heap[W0.heap.size]? = some (.cells M 76 (0, 0)) := by rw [hW1]; exact heap_alloc_new _ _
  have HR : Hid (EnRel w (w.heap.size + 1) ents 0 W1) := Lib.hid ⟨[], by rw [← hs0, hg1, hn]; congr 2; exact Array.toList_inj.1 (by rw [hMl]; rfl), (by rw [List.take_zero]; exact (rfl : ([] : List Value) = [])), rfl, hb0.trans (hb1.mono hb0.size), (hb1.block _ (block_lt hz0)).trans hz0⟩
  have HZ1 := Lib.hid ((hb1.block _ (block_lt hz0)).trans hz0)
  have HB1 := Lib.hid (hb0.trans (hb1.mono hb0.size))
  have HS := Lib.hid h
  have HS0 := Lib.hid hs0
  clear hM hMl hi hz1 hz2 hz3 hg1 hb1 hb0 hz0 hc hl hn h hcells hs0
  go_enter Try.func33, Try.ntmps33
  go_wp2_with fail
  simp only [← hW0, ← hW1]
  clear hW0 hW1 hmk
  go_loopw [11] (fun i wr => ∃ k : Nat, k ≤ n ∧ i = .int .i64 (k : Int) ∧ Hid (EnRel w (w.heap.size + 1) ents k wr)) (fun i _ => n - (intOf i).toNat)
  case atStart => exact ⟨0, by omega, rfl, HR⟩
  case round =>
    obtain ⟨k, hk, rfl, HE⟩ := hrel
    by_cases hlt : k < n
    · have hkI : (k : Int) < (n : Int) := by omega
      have hk0 : (0 : Int) ≤ (k : Int) := by omega
      obtain ⟨⟨t, s⟩, hx⟩ : ∃ x, ents[k]? = some x := ⟨_, List.getElem?_eq_getElem (by rw [HN.out]; exact hlt)⟩
      obtain ⟨cs, h1, h2, h3, h4, _⟩ := id HE.out
      obtain ⟨ax, cx, e1, _, f1⟩ := HS.out.later h4
      injection e1 with e1 e1'' e1'
      obtain ⟨gx, ox, rfl, _, fx⟩ := f1 (fun e => by rw [e] at hx; cases hx)
      obtain ⟨u1, u2⟩ := fx k _ hx
      subst e1
      obtain ⟨W2, hW2⟩ : ∃ W2, W2 = wr.alloc (.cells #[.int .u64 (t : Int), .string s] 60) := ⟨_, rfl⟩
      have hb2 : Below wr.heap.size wr W2 := by rw [hW2]; exact (Below.refl _ _).alloc (Nat.le_refl _) _
      have hz2 : W2.heap[wr.heap.size]? = some (.cells #[.int .u64 (t : Int), .string s] 60 (0, 0)) := by rw [hW2]; exact heap_alloc_new _ _
      obtain ⟨c0, c1⟩ := cells2 hz2
      have hGlt := block_lt h1
      have HGLT := Lib.hid hGlt
      have HC0 : Hid (W2.cell? ⟨wr.heap.size, 0, none⟩ = some (.int .u64 (t : Int)) ∧ W2.cell? ⟨wr.heap.size, 1, none⟩ = some (.string s)) := Lib.hid ⟨c0, c1⟩
      have HC1 : Hid (W2.drew.cell? ⟨wr.heap.size, 0, none⟩ = some (.int .u64 (t : Int)) ∧ W2.drew.cell? ⟨wr.heap.size, 1, none⟩ = some (.string s)) := Lib.hid ⟨c0, c1⟩
      have HB2 := Lib.hid hb2
      have HX := Lib.hid hx
      have hm1 : ents.length - k = (n - k - 1) + 1 := by rw [HN.out]; omega
      have HH1 : Hid (wr.heap[(w.heap.size + 1)]? = some (.cells (cs ++ ([Value.int .i64 0, .int .u64 0, .string ⟨#[]⟩, .slice none 0 0] ++ zeroC (n - k - 1))).toArray 76 (0, 0))) := Lib.hid (by rw [h1, hm1, zeroC])
      have HH3 := Lib.hid h3
      have HZ2 := Lib.hid hz2
      have HNE := Lib.hid (show wr.heap.size ≠ (w.heap.size + 1) by omega)
      have HGW := Lib.hid (show w.heap.size < (w.heap.size + 1) by omega)
      clear h1 h2 h3 h4 f1 fx hx hb2 hz2 e1' e1'' hGlt hm1
      go_wp2_with fail
      simp only [← hW2]
      clear hW2 u1 u2
      go_region_held3 (fun w' => w'.cell? ⟨wr.heap.size, 0, none⟩ = some (.int .u64 (t : Int)) ∧ w'.cell? ⟨wr.heap.size, 1, none⟩ = some (.string s))
        (first | with_reducible exact HC0.out | with_reducible exact HC1.out | with_reducible exact hcs3 | with_reducible exact hcs4 | with_reducible exact hcs5 | with_reducible exact hcs7 | with_reducible exact ⟨set4_cellN hcs7.1 HNE.out _ _ _ _, set4_cellN hcs7.2 HNE.out _ _ _ _⟩)
        (first
          | (go_at_call 31; refine (n_prog _ _).mono ?_; unfold nodeV; rintro e w3 ⟨rfl, hb3⟩; have hcs3 := And.intro (cellB ((Below.refl _ _).drew.trans hb3) c0) (cellB ((Below.refl _ _).drew.trans hb3) c1); have HB3 := Lib.hid (HB2.out.trans (((Below.refl W2.heap.size W2).drew.trans hb3).mono HB2.out.size)))
          | (go_at_call 34; refine (s_prog _ _).mono ?_; unfold nodeV; rintro e w4 ⟨rfl, hb4⟩; have hcs4 := And.intro (cellB hb4 hcs3.1) (cellB hb4 hcs3.2); have HB4 := Lib.hid (HB3.out.trans (hb4.mono HB3.out.size)); have hz5 := heap_alloc_new w4 (.cells #[.int .i64 0, .int .u64 (t : Int), .string ⟨#[]⟩, .slice none 0 0, .int .i64 1, .int .u64 0, .string s, .slice none 0 0] 76); have hb5 := (Below.refl w4.heap.size w4).alloc (Nat.le_refl _) (.cells #[.int .i64 0, .int .u64 (t : Int), .string ⟨#[]⟩, .slice none 0 0, .int .i64 1, .int .u64 0, .string s, .slice none 0 0] 76); have hcs5 := And.intro (cellB hb5 hcs4.1) (cellB hb5 hcs4.2); have HB5 := Lib.hid (HB4.out.trans (hb5.mono HB4.out.size)); have HZ5 := Lib.hid hz5)
          | (go_at_call 30; refine (list_prog _ _ _ _).mono ?_; rintro e w7 ⟨rfl, hb7⟩; have hcs7 := And.intro (cellB hb7 hcs5.1) (cellB hb7 hcs5.2); have HB7 := Lib.hid hb7; have hG7 := ((HB5.out.trans (hb7.mono HB5.out.size)).block _ HGLT.out).trans HH1.out; obtain ⟨t0, t1, t2, t3, tf⟩ := cells4L hG7 HH3.out; have tf0 := tf (k * 4); have tf1 := tf (k * 4 + 1); have tf2 := tf (k * 4 + 2); have tf3 := tf (k * 4 + 3)))
      have hst := EnRel.step (G := w.heap.size + 1) (g5 := w4.heap.size) HE.out HX.out HGW.out HB5.out HZ5.out (by have := HGLT.out; have := HB4.out.size; omega) (by have := HB4.out.size; have := HGLT.out; omega) HB7.out
      have HST := Lib.hid hst
      clear hst t0 t1 t2 t3 tf tf0 tf1 tf2 tf3 hG7 hcs3 hcs4 hcs5 hcs7 c0 c1 hz5 hb5
      go_wp2_with fail
      go_roundw
      case rel => exact ⟨k + 1, by omega, by go_num, by simpa using HST⟩
      case measure => simp [intOf]; omega
    · have hke : k = n := by omega
      subst hke
      have hkI : ¬ (k : Int) < (k : Int) := by omega
      obtain ⟨cs, h1, h2, h3, h4, h6⟩ := HE.out
      have hbG := block_lt h1
      have hkd : Hid (KidsAt wr (fun b => w.heap.size < b ∧ b < wr.heap.size) (entsF ents) (.slice (some ⟨(w.heap.size + 1), 0, none⟩) k k)) := Lib.hid (by
        rw [HN.out, Nat.sub_self, zeroC, List.append_nil] at h1
        rw [List.take_of_length_le (by rw [HN.out]; omega)] at h2
        have hgw : w.heap.size < (w.heap.size + 1) := by omega
        refine .inr ⟨(w.heap.size + 1), 0, k, by rw [entsF_len, HN.out], ⟨hgw, hbG⟩, ⟨_, _, h1⟩, by rw [entsF_len, HN.out]; exact Nat.le_refl _, ?_⟩
        refine lies_of_cells (w := wr) (g := (w.heap.size + 1)) (entsF ents) 0 cs (fun j u hu => ?_) (h2.mono (fun b hb => ⟨hb.1, rfl⟩))
        simp only [World.cell?, h1, Nat.zero_add]
        simpa using hu)
      have HB4 := Lib.hid h4
      have HZ6 := Lib.hid h6
      have hwlt := block_lt h6
      have K := Lib.hid (list_prog (some ⟨(w.heap.size + 1), 0, none⟩) k k wr)
      clear h1 h2 h3 h4 h6 HZ1 HB1 HR HE
      go_wp2_with fail
      refine K.out.mono ?_
      rintro e w9 ⟨rfl, hb9⟩
      have hz9 := block_kept HZ6.out hwlt hb9
      obtain ⟨y0, y1, y2, y3, f0, f1, f2, f3⟩ := block4 hz9
      have HKD := Lib.hid (hkd.out.mono (S' := fun b => w.heap.size < b ∧ b < w9.heap.size) (fun b hb => ⟨hb.1, Nat.lt_of_lt_of_le hb.2 hb9.size⟩) (fun b hb => hb9.block b hb.2))
      have HB9 := Lib.hid (HB4.out.trans (hb9.mono HB4.out.size))
      have hlt9 : w.heap.size < w9.heap.size := Nat.lt_of_lt_of_le hwlt hb9.size
      clear hb9 K
      go_wp2_with fail
      refine bodyPost_ret (v := .agg #[.int .i64 2, .int .u64 0, .string ⟨#[]⟩, .slice (some ⟨w.heap.size + 1, 0, none⟩) k k]) (by simp [results, Try.results33, go_sem, y0, y1, y2, y3]) rfl ⟨_, rfl, ?_, ?_⟩
      · refine HKD.out.mono (fun b hb => ⟨Nat.le_of_lt hb.1, by have := hb.2; simp only [size_setCell]; exact this⟩) (fun b hb => ?_)
        have hne : b ≠ w.heap.size := by have := hb.1; omega
        rw [heap_setCell_other _ ⟨w.heap.size, 3, none⟩ b _ hne, heap_setCell_other _ ⟨w.heap.size, 2, none⟩ b _ hne, heap_setCell_other _ ⟨w.heap.size, 1, none⟩ b _ hne, heap_setCell_other _ ⟨w.heap.size, 0, none⟩ b _ hne]
      · exact (((HB9.out.setCell (Nat.le_refl _) _).setCell (Nat.le_refl _) _).setCell (Nat.le_refl _) _).setCell (Nat.le_refl _) _
end Go.Proofs.Ytgdlnjhbencjkaa
