/- The document's words of a key, walked. -/
import Derived.Test.YtohjnhekkifhbabAesRefC
import Derived.Test.YtohjnhekkifhbabAesF
import Derived.Test.YtohjnhekkifhbabAesAwake
namespace Go.Proofs.Ytohjnhekkifhbab
open Go.RowKit

theorem Try.rowsSl : Sl Try.prog 51 29 (.slice none 0 0) 24 := ⟨Try.underlying51, by kernel_rfl, rfl⟩

/-- The first n cells of block g are the bytes f. -/
structure Reads (w : World) (g n : Nat) (f : Nat → UInt8) : Prop where
  cell : ∀ j, j < n → w.cell? ⟨g, j, none⟩ = some (.int .u8 ((f j).toNat : Int))
  lt : g < w.heap.size
theorem Reads.of_block {w w' : World} {g n : Nat} {f : Nat → UInt8} (h : Reads w g n f) (e : w'.heap[g]? = w.heap[g]?) (hs : w.heap.size ≤ w'.heap.size) : Reads w' g n f :=
  ⟨fun j hj => by rw [← h.cell j hj]; exact World.cell?_of_block (w := w) e, Nat.lt_of_lt_of_le h.lt hs⟩
theorem Reads.later {w w' : World} {g n : Nat} {f : Nat → UInt8} (h : Reads w g n f) (hb : Below w.heap.size w w') : Reads w' g n f := h.of_block (hb.block g h.lt) hb.size
theorem Reads.below {w w' : World} {B g n : Nat} {f : Nat → UInt8} (h : Reads w g n f) (hb : Below B w w') (hg : g < B) : Reads w' g n f := h.of_block (hb.block g hg) hb.size
theorem Part.reads {w : World} {g n : Nat} {f : Nat → UInt8} (h : Part w g n f) : Reads w g n f := ⟨h.cell, h.lt⟩

def rowVs (L : List (Nat × Nat)) : List Value := L.map fun p => .slice (some ⟨p.1, 0, none⟩) 4 p.2
structure RowsOk (W : World) (L : List (Nat × Nat)) (KW : Nat → UInt8) : Prop where
  row : ∀ k p, L[k]? = some p → Reads W p.1 4 (fun j => KW (4 * k + j))
theorem RowsOk.later {w w' : World} {L : List (Nat × Nat)} {KW : Nat → UInt8} (h : RowsOk w L KW) (hb : Below w.heap.size w w') : RowsOk w' L KW := ⟨fun k p hp => (h.row k p hp).later hb⟩
theorem RowsOk.snoc {w : World} {L : List (Nat × Nat)} {KW : Nat → UInt8} (h : RowsOk w L KW) (p : Nat × Nat) (hp : Reads w p.1 4 (fun j => KW (4 * L.length + j))) : RowsOk w (L ++ [p]) KW := ⟨fun k q hq => by
  by_cases hk : k < L.length
  · rw [List.getElem?_append_left hk] at hq; exact h.row k q hq
  · rw [List.getElem?_append_right (by omega)] at hq
    have h0 : k - L.length = 0 := by
      have := (List.getElem?_eq_some_iff.1 hq).1
      simpa using this
    rw [h0] at hq
    have : k = L.length := by omega
    subst this
    have e : p = q := by simpa using hq
    subst e; exact hp⟩
theorem Owns.form {w : World} {B : Nat} {e : TypeId} {v : Value} {xs : List Value} (h : Owns w B e v xs) (hn : 0 < xs.length) : ∃ g cap, v = .slice (some ⟨g, 0, none⟩) xs.length cap := by
  rcases h.2 with ⟨_, h0⟩ | ⟨g, cap, cur, hv, _⟩
  · omega
  · exact ⟨g, cap, hv⟩
theorem Owns.cellg {w : World} {B : Nat} {e : TypeId} {g n cap : Nat} {xs : List Value} (h : Owns w B e (.slice (some ⟨g, 0, none⟩) n cap) xs) (j : Nat) (v : Value) (hj : xs[j]? = some v) : w.cell? ⟨g, j, none⟩ = some v := by
  have hn : n = xs.length := by
    rcases h.2 with ⟨hv, _⟩ | ⟨g', cap', cur, hv, _⟩
    · cases hv
    · cases hv; rfl
  subst hn
  have hl := (List.getElem?_eq_some_iff.1 hj).1
  have := World.ownsRow.cellAt h j (by simpa using hl)
  rw [this]; exact hj
theorem Owns.part {w : World} {B g n cap : Nat} {e : TypeId} {f : Nat → UInt8} (h : Owns w B e (.slice (some ⟨g, 0, none⟩) n cap) (arrL n (fun j => byteV (f j)))) : Part w g n f := by
  refine ⟨fun j hj => h.cellg j _ (arrL_get _ _ _ hj), fun j _ => ?_, ?_⟩
  · have hl : (arrL n (fun j => byteV (f j))).length = n := arrL_length _ _
    have h' : w.ownsRow B e 1 (.slice (some ⟨g, 0, none⟩) n cap) n (arrL n (fun j => byteV (f j))) := by
      have := h; unfold Owns at this; rw [hl] at this; exact this
    exact World.ownsRow.frozenAt h' j
  · exact (World.ownsRow.lt h g rfl).2
theorem Owns.emptyLit (w : World) (B : Nat) (e : TypeId) (hB : B ≤ w.heap.size) : Owns (w.alloc (.cells #[] e)) B e (.slice (some ⟨w.heap.size, 0, none⟩) 0 0) [] :=
  ⟨rfl, .inr ⟨w.heap.size, 0, #[], rfl, hB, heap_at_alloc w _, Nat.le_refl _, by unfold maxLen; omega, rfl, rfl⟩⟩

section
variable {P : Program} {w : World} {t e : TypeId} {z : Value} {bytes : Nat}
/-- append at a plain region's list: what is appended are cells that are known; just the row's own block is written. -/
theorem list_app_cells {ops : Array Oper} {rest : List Oper} {o : Oper} {a : Act} {Q : Exit → Act → World → Prop} (S : Sl P t e z bytes) (hgd : o.guard = none) (s x : Operand)
    (ho : o.op = .call { callee := .builtin .append, args := #[s, x], argTypes := #[t, t] })
    (B : Nat) (v : Value) (xs : List Value) (hs : a.eval s = v) (hown : Owns w B e v xs)
    (g0 m cp : Nat) (news : List Value) (hlen : news.length = m) (hx : a.eval x = .slice (some ⟨g0, 0, none⟩) m cp) (hc : ∀ j u, news[j]? = some u → w.cell? ⟨g0, j, none⟩ = some u) (h1 : ∀ u ∈ news, u.oneCell' = true)
    (hm : 0 < m) (h63 : xs.length + m ≤ maxLen) (hbytes : (xs.length + m) * bytes ≤ 140737488355328) (hbase : B ≤ w.heap.size)
    (h : ∀ g cap w', Owns w' B e (.slice (some ⟨g, 0, none⟩) (xs.length + m) cap) (xs ++ news) → w.grownBy w' v.ownBlock → (v.ownBlock = some g ∨ g = w.heap.size) → Below B w w' → wpList P ops Q rest (a.put o.dst (.slice (some ⟨g, 0, none⟩) (xs.length + m) cap)) w') :
    wpList P ops Q (o :: rest) a w := by
  obtain ⟨i, hi, hz, hsz, hby⟩ := info_parts S.info
  refine wpList_append_lies w hgd s x t ho B e i z 1 bytes S.und hi hz hsz hby S.zc (by omega) v xs.length xs hs hown ⟨g0, 0, none⟩ m cp news hx (by omega)
    (fun j u hu => by rw [Addr.add_mid, Nat.zero_add]; exact hc j u hu) h1 hm h63 hbytes hbase _ rfl ?_
  intro g cap w' h2 h3 h4 _
  refine h g cap w' ?_ h3 h4 (Below.ofGrown hown h3 hbase)
  unfold Owns; rw [List.length_append, hlen]; exact h2
end
theorem rowVs_get {L : List (Nat × Nat)} {k : Nat} {p : Nat × Nat} (h : L[k]? = some p) : (rowVs L)[k]? = some (.slice (some ⟨p.1, 0, none⟩) 4 p.2) := by simp [rowVs, h]
theorem rowVs_snoc (L : List (Nat × Nat)) (p : Nat × Nat) : rowVs L ++ [.slice (some ⟨p.1, 0, none⟩) 4 p.2] = rowVs (L ++ [p]) := by simp [rowVs]
theorem rowVs_length (L : List (Nat × Nat)) : (rowVs L).length = L.length := by simp [rowVs]
theorem get_some {L : List (Nat × Nat)} {k : Nat} (h : k < L.length) : ∃ p, L[k]? = some p := ⟨L[k], List.getElem?_eq_getElem h⟩
theorem Part.of_row {w : World} {g t n : Nat} {f : Nat → UInt8} (h : w.rowIs g t n (fun j => byteV (f j))) : Part w g n f := ⟨fun _ hj => h.cell hj, fun j _ => h.frozen j, h.lt⟩
def Apart (v : Value) (L : List (Nat × Nat)) : Prop := ∀ (k : Nat) (p : Nat × Nat), L[k]? = some p → v.ownBlock ≠ some p.1
theorem RowsOk.grown {w w' : World} {v : Value} {L : List (Nat × Nat)} {KW : Nat → UInt8} (h : RowsOk w L KW) (ha : Apart v L) (hg : w.grownBy w' v.ownBlock) : RowsOk w' L KW := ⟨fun k p hp =>
  (h.row k p hp).of_block (hg.block p.1 (h.row k p hp).lt (fun e => ha k p hp e.symm)) hg.size⟩

theorem Apart.snoc {v : Value} {L : List (Nat × Nat)} {g gv n cap : Nat} {p : Nat × Nat} (h : Apart v L) (hg : v.ownBlock = some g ∨ g = gv) (hL : ∀ (k : Nat) (q : Nat × Nat), L[k]? = some q → q.1 < gv) (hp : p.1 < gv) (hv : v.ownBlock ≠ some p.1) :
    Apart (.slice (some ⟨g, 0, none⟩) n cap) (L ++ [p]) := fun k q hq e => by
  have e' : g = q.1 := by simpa [Value.ownBlock] using e
  by_cases hk : k < L.length
  · rw [List.getElem?_append_left hk] at hq
    rcases hg with hg | hg
    · exact h k q hq (by rw [hg, e'])
    · have := hL k q hq; omega
  · rw [List.getElem?_append_right (by omega)] at hq
    have h0 : k - L.length = 0 := by
      have := (List.getElem?_eq_some_iff.1 hq).1
      simpa using this
    rw [h0] at hq
    have e2 : p = q := by simpa using hq
    subst e2
    rcases hg with hg | hg
    · exact hv (by rw [hg, e'])
    · omega
theorem Owns.block_lt {w : World} {B : Nat} {e : TypeId} {v : Value} {xs : List Value} (h : Owns w B e v xs) {g : Nat} (hv : v.ownBlock = some g) : g < w.heap.size := (World.ownsRow.lt h g hv).2

/-- What 'words' leaves. -/
def WordsPost (KW : Nat → UInt8) (w : World) (e : Ending) (w' : World) : Prop :=
  ∃ (L : List (Nat × Nat)) (g cap : Nat), e = .returned (.slice (some ⟨g, 0, none⟩) 44 cap) ∧ L.length = 44 ∧ Owns w' w.heap.size 29 (.slice (some ⟨g, 0, none⟩) 44 cap) (rowVs L) ∧ RowsOk w' L KW ∧ Below w.heap.size w w'
def boxT (j : Nat) : UInt8 := sb (UInt8.ofNat j)
theorem Reads.box {w : World} {g : Nat} (h : Reads w g 256 boxT) (x : UInt8) : w.cell? ⟨g, x.toNat, none⟩ = some (.int .u8 ((sb x).toNat : Int)) := by
  rw [h.cell x.toNat x.toNat_lt]; unfold boxT; rw [UInt8.ofNat_toNat]

set_option maxRecDepth 100000 in
set_option maxHeartbeats 4000000 in
theorem words_ref (key : ByteArray) (gb cb : Nat) (w : World) (hk : key.size = 16) (hbox : Reads w gb 256 boxT) :
    Calls Try.prog 23 #[.string key, .slice (some ⟨gb, 0, none⟩) 256 cb] w (WordsPost (KWf key.data.toList) w) := by
  obtain ⟨KW, hKW⟩ : ∃ KW, KWf key.data.toList = KW := ⟨_, rfl⟩
  have HKA : Hid (∀ n, n < 16 → KW n = blk key n) := Lib.hid (fun n hn => by rw [← hKW]; exact key_at key hk n hn)
  have HKN : Hid (∀ i j, 4 ≤ i → i < 44 → j < 4 → KW (4 * i + j) = KW (4 * (i - 4) + j) ^^^ (if i % 4 = 0 then (if j = 0 then sb (KW (4 * (i - 1) + 1)) ^^^ rc (i / 4 - 1) else sb (KW (4 * (i - 1) + (j + 1) % 4))) else KW (4 * (i - 1) + j))) := Lib.hid (fun i j h1 h2 h3 => by
    rw [← hKW]; exact KW_new _ (by simpa using hk) i j h1 h2 h3)
  rw [hKW]
  have k1 : key.size ≤ 16 := by omega
  have k2 : 16 ≤ key.size := by omega
  have hgb := hbox.lt
  clear hKW hk
  go_enter Try.func23, Try.ntmps23
  go_wp2_with fail
  go_loopw [5, 6] (fun vs iv wr => ∃ (i : Nat) (L : List (Nat × Nat)) (v : Value), v = vs ∧ i ≤ 4 ∧ iv = .int .i64 i ∧ L.length = i ∧ Owns wr w.heap.size 29 v (rowVs L) ∧ RowsOk wr L KW ∧ Apart v L ∧ Below w.heap.size w wr) (fun _ iv _ => 4 - (intOf iv).toNat)
  case atStart => exact ⟨0, [], _, rfl, by omega, rfl, rfl, Owns.nil _ _ _, ⟨fun k p hp => by simp at hp⟩, fun k p hp => by simp at hp, Below.refl _ _⟩
  case round =>
    obtain ⟨i, L, v, rfl, hi, rfl, hL, hown, hrows, hap, hb⟩ := hrel
    by_cases hlt : i < 4
    · have i0 : (0 : Int) ≤ 4 * (i : Int) := by omega
      have i1 : 4 * (i : Int) + 4 ≤ (key.size : Int) := by omega
      have i2 : 4 * (i : Int) ≤ 4 * (i : Int) + 4 := by omega
      have i3 : (0 : Int) ≤ 4 * (i : Int) + 4 := by omega
      have n1 : (4 * (i : Int)).toNat = 4 * i := by omega
      have n2 : (4 * (i : Int) + 4).toNat = 4 * i + 4 := by omega
      have hes : (key.extract (4 * i) (4 * i + 4)).size = 4 := by simp; omega
      have HES := Lib.hid hes
      clear hes
      go_wp2_with (first
        | (refine list_bytes (e := 5) Try.underlying9 Try.underlying29 Try.underlying5 rfl _ rfl (key.extract (4 * i) (4 * i + 4)) rfl ?_))
      intro cap w2 hp2 hb2
      have hm4 : min (4 * i + 4) key.size - 4 * i = 4 := by omega
      rw [hm4] at hp2 ⊢
      clear hm4
      have hp3 : Part w2 wr.heap.size 4 (fun j => KW (4 * i + j)) := by
        exact hp2.congr (fun j hj => by
          rw [HKA.out _ (by omega)]
          have h3 : key.data.size = key.size := rfl
          unfold blk
          rw [ByteArray.data_extract, Array.getElem?_extract, if_pos (by omega)])
      have hown2 := hown.later hb2
      have hrows2 := hrows.later hb2
      have hbx := belowNext hb hb2
      have hsx := hb2.size
      have hgx : wr.heap.size < w2.heap.size := hp3.lt
      have hvl : ∀ g, v.ownBlock = some g → g < wr.heap.size := fun g hg => hown.block_lt hg
      have hrl : (rowVs L).length ≤ 44 := by rw [rowVs_length]; omega
      have hLl : ∀ (k : Nat) (q : Nat × Nat), L[k]? = some q → q.1 < w2.heap.size := fun k q hq => (hrows2.row k q hq).lt
      clear hp2 hown hrows hb hb2
      go_wp2_with (first
        | (at_builtin; refine list_app_cells Try.rowsSl rfl _ _ rfl w.heap.size _ _ rfl (hown2.alloc _) w2.heap.size 1 1 [.slice (some ⟨wr.heap.size, 0, none⟩) 4 cap] rfl rfl (fun j u hu => by
            have := World.news_of_block (heap_at_alloc w2 (.cells #[.slice (some ⟨wr.heap.size, 0, none⟩) 4 cap] 29)) j u hu
            rwa [Addr.add_mid, Nat.zero_add] at this) (by simp [Value.oneCell']) (by omega) (by unfold maxLen; omega) (by omega) (by have := hbx.size; simp; omega) ?_))
      intro g3 cap3 w3 hown3 hg3 hor3 hb3
      have hrows3 : RowsOk w3 (L ++ [(wr.heap.size, cap)]) KW := by
        have h1 := (hrows2.later ((Below.refl _ _).alloc (Nat.le_refl _) (.cells #[.slice (some ⟨wr.heap.size, 0, none⟩) 4 cap] 29))).grown hap hg3
        refine h1.snoc (wr.heap.size, cap) ?_
        rw [hL]
        have hr := (hp3.alloc (.cells #[.slice (some ⟨wr.heap.size, 0, none⟩) 4 cap] 29)).reads
        exact hr.of_block (hg3.block wr.heap.size hr.lt (fun e => by have := hvl _ e.symm; omega)) hg3.size
      have hap3 : Apart (.slice (some ⟨g3, 0, none⟩) ((rowVs L).length + 1) cap3) (L ++ [(wr.heap.size, cap)]) :=
        hap.snoc (gv := w2.heap.size + 1) (by
          rcases hor3 with h | h
          · exact .inl h
          · exact .inr (by simpa using h)) (fun k q hq => Nat.lt_succ_of_lt (hLl k q hq)) (Nat.lt_succ_of_lt hgx) (fun e => by have := hvl _ e; omega)
      rw [rowVs_snoc L (wr.heap.size, cap)] at hown3
      have hb4 := (hbx.alloc hbx.size _).trans hb3
      clear hown2 hrows2 hbx hp3 hb3 hg3
      go_wp2_with fail
      go_roundw
      case rel => exact ⟨i + 1, L ++ [(wr.heap.size, cap)], _, rfl, by omega, by go_num, by simp; omega, hown3, hrows3, hap3, hb4⟩
      case measure => simp [intOf]; omega
    · have hi4 : i = 4 := by omega
      have hge : (4 : Int) ≤ (i : Int) := by omega
      have hL4 : L.length = 4 := by omega
      clear hlt hi hi4 hL
      go_wp2_with fail
      clear hge
      go_loopw [5, 7, 8] (fun vs rv iv wr => ∃ (i : Nat) (L : List (Nat × Nat)) (p : UInt8) (v : Value), v = vs ∧ 4 ≤ i ∧ i ≤ 44 ∧ iv = .int .i64 i ∧ L.length = i ∧ rv = .int .u8 (p.toNat : Int) ∧ Hid (p = rc ((i + 3) / 4 - 1)) ∧ Owns wr w.heap.size 29 v (rowVs L) ∧ RowsOk wr L KW ∧ Apart v L ∧ Below w.heap.size w wr) (fun _ _ iv _ => 44 - (intOf iv).toNat)
      case atStart => exact ⟨4, L, 1, _, rfl, by omega, by omega, rfl, hL4, rfl, Lib.hid rfl, hown, hrows, hap, hb⟩
      case round =>
        clear hown hrows hap hb hL4
        obtain ⟨i, L, p, v, rfl, hi4, hi44, rfl, hL, rfl, HP, hown, hrows, hap, hb⟩ := hrel
        obtain ⟨wo, hwo⟩ : ∃ x : World, x = wr := ⟨_, rfl⟩
        subst hwo
        have hrn : (rowVs L).length = i := by rw [rowVs_length]; exact hL
        obtain ⟨gv, cv, rfl⟩ := hown.form (by omega)
        rw [hrn] at hown hap ⊢
        have HRN := Lib.hid hrn
        clear hrn
        by_cases hlt : i < 44
        · obtain ⟨p1, hp1⟩ := get_some (L := L) (k := i - 1) (by omega)
          obtain ⟨p4, hp4⟩ := get_some (L := L) (k := i - 4) (by omega)
          have i0 : (0 : Int) ≤ (i : Int) := by omega
          have i1 : (1 : Int) ≤ (i : Int) := by omega
          have n1 : ((i : Int) - 1).toNat = i - 1 := by omega
          have cw := (hown.alloc (.cells #[] 5)).cellg (i - 1) _ (rowVs_get hp1)
          have hsrc := (hrows.row (i - 1) p1 hp1).later ((Below.refl _ _).alloc (Nat.le_refl _) (.cells #[] 5))
          go_wp2_with (first
            | (at_builtin; refine list_app_cells Try.bytesSl rfl _ _ rfl wo.heap.size _ [] rfl (Owns.emptyLit wo wo.heap.size 5 (Nat.le_refl _)) p1.1 4 p1.2 (arrL 4 (fun j => byteV (KW (4 * (i - 1) + j)))) (arrL_length _ _) rfl (fun j u hu => by
                have hj : j < 4 := by have := (List.getElem?_eq_some_iff.1 hu).1; simpa [arrL] using this
                rw [arrL_get _ _ _ hj] at hu
                rw [hsrc.cell j hj]; exact hu) (by intro u hu; simp [arrL] at hu; obtain ⟨j, _, rfl⟩ := hu; rfl) (by omega) (by simp; unfold maxLen; omega) (by simp) (by simp) ?_))
          intro gt ct w3 hownt hgt3 hort hbt3
          have hpt0 : Part w3 gt 4 (fun j => KW (4 * (i - 1) + j)) := Owns.part (n := 4) hownt
          have hbt0 : Below wo.heap.size wo w3 := ((Below.refl _ _).alloc (Nat.le_refl _) _).trans hbt3
          have hgt0 : wo.heap.size ≤ gt := (World.ownsRow.lt hownt gt rfl).1
          obtain ⟨T, hT⟩ : ∃ T : Nat → UInt8, (fun j => KW (4 * (i - 1) + j)) = T := ⟨_, rfl⟩
          rw [hT] at hpt0
          have HT := Lib.hid hT
          clear hT hownt hgt3 hort hbt3 hsrc cw
          by_cases h4 : i % 4 = 0
          · have ht : ((i : Int) % 4 == 0) = true := by
              have : (i : Int) % 4 = 0 := by omega
              rw [this]; rfl
            have H4 := Lib.hid h4
            have hbox3 := hbox.below (belowNext hb hbt0) hgb
            have c0 := hpt0.cell 0 (by omega)
            have c1 := hpt0.cell 1 (by omega)
            have c2 := hpt0.cell 2 (by omega)
            have c3 := hpt0.cell 3 (by omega)
            have b0 := hbox3.box (T 0)
            have b1 := hbox3.box (T 1)
            have b2 := hbox3.box (T 2)
            have b3 := hbox3.box (T 3)
            have l0 := (T 0).toNat_lt
            have l1 := (T 1).toNat_lt
            have l2 := (T 2).toNat_lt
            have l3 := (T 3).toNat_lt
            have v0 : ((T 0).toNat : Int) < 256 := by omega
            have v1 : ((T 1).toNat : Int) < 256 := by omega
            have v2 : ((T 2).toNat : Int) < 256 := by omega
            have v3 : ((T 3).toNat : Int) < 256 := by omega
            have u0 : (0 : Int) ≤ ((T 0).toNat : Int) := by omega
            have u1 : (0 : Int) ≤ ((T 1).toNat : Int) := by omega
            have u2 : (0 : Int) ≤ ((T 2).toNat : Int) := by omega
            have u3 : (0 : Int) ≤ ((T 3).toNat : Int) := by omega
            obtain ⟨y, hy, ey⟩ := xname (sb (T 1)) p
            have HY := Lib.hid hy
            obtain ⟨s0, hs0⟩ : ∃ s, sb (T 0) = s := ⟨_, rfl⟩
            obtain ⟨s2, hs2⟩ : ∃ s, sb (T 2) = s := ⟨_, rfl⟩
            obtain ⟨s3, hs3⟩ : ∃ s, sb (T 3) = s := ⟨_, rfl⟩
            rw [hs0] at b0
            rw [hs2] at b2
            rw [hs3] at b3
            have HS0 := Lib.hid hs0
            have HS2 := Lib.hid hs2
            have HS3 := Lib.hid hs3
            obtain ⟨p2, hp2⟩ : ∃ p2, dbl p = p2 := ⟨_, rfl⟩
            have HD : Hid (tm p 2 = p2) := Lib.hid (by rw [(tm_two p).2.1, hp2])
            have HP2 : Hid (p2 = rc ((i + 1 + 3) / 4 - 1)) := Lib.hid (by rw [← hp2, HP.out, show (i + 1 + 3) / 4 - 1 = ((i + 3) / 4 - 1) + 1 by omega]; rfl)
            have HP1 : Hid (p = rc (i / 4 - 1)) := Lib.hid (by rw [HP.out, show (i + 3) / 4 - 1 = i / 4 - 1 by omega])
            clear hy hs0 hs2 hs3 hp2 HP h4
            go_wp2_with fail
            go_still_tail 26, (by kernel_rfl)
            go_wp2_with fail
            refine (times_at p 2 _ _ p2 _ rfl rfl HD.out).mono ?_
            rintro e w' ⟨rfl, rfl⟩
            obtain ⟨T2, hT2⟩ : ∃ T2 : Nat → UInt8, (fun r => if r = 0 then y else if r = 1 then s2 else if r = 2 then s3 else s0) = T2 := ⟨_, rfl⟩
            have hpz : Part (w3.alloc (.cells #[.int .u8 (y.toNat : Int), .int .u8 (s2.toNat : Int), .int .u8 (s3.toNat : Int), .int .u8 (s0.toNat : Int)] 5)).drew w3.heap.size 4 T2 := by
              rw [← hT2]
              exact Part.of_row (World.rowIs.drew (rowIs_of_block (t := 5) ((heap_at_alloc w3 _).trans rfl)))
            have hbz : Below wo.heap.size wo (w3.alloc (.cells #[.int .u8 (y.toNat : Int), .int .u8 (s2.toNat : Int), .int .u8 (s3.toNat : Int), .int .u8 (s0.toNat : Int)] 5)).drew := (hbt0.alloc hbt0.size _).drew
            have HT2 : Hid (∀ r, r < 4 → KW (4 * i + r) = KW (4 * (i - 4) + r) ^^^ T2 r) := Lib.hid (fun r hr => by
              have hn := HKN.out i r hi4 hlt hr
              rw [if_pos H4.out] at hn
              rw [hn, ← hT2]
              have h5 : r = 0 ∨ r = 1 ∨ r = 2 ∨ r = 3 := by omega
              have e1 : ∀ m, KW (4 * (i - 1) + m) = T m := fun m => by rw [← HT.out]
              rcases h5 with rfl | rfl | rfl | rfl
              · rw [if_pos rfl, e1, ← HP1.out, HY.out]; rfl
              · rw [if_neg (by omega), e1]; exact congrArg (KW (4 * (i - 4) + 1) ^^^ ·) HS2.out
              · rw [if_neg (by omega), e1]; exact congrArg (KW (4 * (i - 4) + 2) ^^^ ·) HS3.out
              · rw [if_neg (by omega), e1]; exact congrArg (KW (4 * (i - 4) + 3) ^^^ ·) HS0.out)
            have hz3 := hbt0.size
            clear hT2 c0 c1 c2 c3 b0 b1 b2 b3 l0 l1 l2 l3 v0 v1 v2 v3 u0 u1 u2 u3 ey hbox3 ht hpt0 hbt0 hgt0
            generalize (w3.alloc (.cells #[.int .u8 (y.toNat : Int), .int .u8 (s2.toNat : Int), .int .u8 (s3.toNat : Int), .int .u8 (s0.toNat : Int)] 5)).drew = wz at hpz hbz ⊢
            obtain ⟨gt, hgt⟩ : ∃ g, w3.heap.size = g := ⟨_, rfl⟩
            rw [hgt] at hpz hz3 ⊢
            clear hgt
            have hpt := hpz
            have hbt := hbz
            clear hpz hbz
            go_wp2_with fail
            go_loopw [10] (fun jv WX => ∃ j : Nat, j ≤ 4 ∧ jv = .int .i64 j ∧ Part WX gt 4 (fun m => if m < j then KW (4 * i + m) else T2 m) ∧ Below wo.heap.size wo WX) (fun jv _ => 4 - (intOf jv).toNat)
            case atStart => exact ⟨0, by omega, rfl, hpt.congr (fun m _ => by simp), hbt⟩
            case round =>
              clear hpt hbt
              obtain ⟨j, hj, rfl, hpt, hbt⟩ := hrel
              by_cases hlj : j < 4
              · have j0 : (0 : Int) ≤ (j : Int) := by omega
                have j4 : (j : Int) < 4 := by omega
                have c1 := hpt.cell j hlj
                have f1 := hpt.frozen j hlj
                simp only [Nat.lt_irrefl, if_false] at c1
                have cw := (hown.later hbt).cellg (i - 4) _ (rowVs_get hp4)
                have c2 := ((hrows.later hbt).row (i - 4) p4 hp4).cell j hlj
                have q0 : IntKind.i64.wrap ((i : Int) - 4) = (i : Int) - 4 := IntWalk.i64_in _ (by omega)
                have a0 : (0 : Int) ≤ (i : Int) - 4 := by omega
                have a1 : (i : Int) - 4 < (i : Int) := by omega
                have a2 : (4 : Int) ≤ (i : Int) := by omega
                have n1 : ((i : Int) - 4).toNat = i - 4 := by omega
                obtain ⟨x, hx, ex⟩ := xname (T2 j) (KW (4 * (i - 4) + j))
                have HX : Hid (KW (4 * i + j) = x) := Lib.hid (by rw [HT2.out j hlj, UInt8.xor_comm, hx])
                clear hx
                go_wp2_with fail
                go_still_tail 16, (by kernel_rfl)
                go_wp2
                go_roundw
                case rel =>
                  refine ⟨j + 1, by omega, by go_num, Part.drew (hpt.set j x _ (fun m _ => ?_)), (hbt.setCell (by simp; omega) _).drew⟩
                  by_cases hm : m = j
                  · subst hm; rw [if_pos (by omega), if_pos rfl, HX.out]
                  · rw [if_neg hm]
                    by_cases hl : m < j
                    · rw [if_pos hl, if_pos (by omega)]
                    · rw [if_neg hl, if_neg (by omega)]
                case measure => simp [intOf]; omega
              · have hj4 : j = 4 := by omega
                have hpt4 : Part wr gt 4 (fun m => KW (4 * i + m)) := hpt.congr (fun m hm => by rw [if_pos (by omega)])
                have hge : (4 : Int) ≤ (j : Int) := by omega
                have hownx := hown.later hbt
                have hrowsx := hrows.later hbt
                have hbx := belowNext hb hbt
                have hsx := hbt.size
                have hvl : gv < wo.heap.size := hown.block_lt rfl
                have hLl : ∀ (k : Nat) (q : Nat × Nat), L[k]? = some q → q.1 < wr.heap.size := fun k q hq => (hrowsx.row k q hq).lt
                have hgx : gt < wr.heap.size := hpt4.lt
                have hrl : (rowVs L).length ≤ 44 := by rw [rowVs_length]; omega
                have hrn : (rowVs L).length = i := by rw [rowVs_length]; exact hL
                have HRN := Lib.hid hrn
                clear hpt hj4 hlj hown hrows hb hbt hrn
                go_wp2_with (first
                  | (at_builtin; refine list_app_cells Try.rowsSl rfl _ _ rfl w.heap.size _ _ rfl (hownx.alloc _) wr.heap.size 1 1 [.slice (some ⟨gt, 0, none⟩) 4 4] rfl rfl (fun j u hu => by
                      have := World.news_of_block (heap_at_alloc wr (.cells #[.slice (some ⟨gt, 0, none⟩) 4 4] 29)) j u hu
                      rwa [Addr.add_mid, Nat.zero_add] at this) (by simp [Value.oneCell']) (by omega) (by unfold maxLen; omega) (by omega) (by have := hbx.size; simp; omega) ?_))
                intro g2 cap2 w2 hown2 hg2 hor2 hb2
                have hrows2 : RowsOk w2 (L ++ [(gt, 4)]) KW := by
                  have h1 := (hrowsx.later ((Below.refl _ _).alloc (Nat.le_refl _) (.cells #[.slice (some ⟨gt, 0, none⟩) 4 4] 29))).grown hap hg2
                  refine h1.snoc (gt, 4) ?_
                  rw [hL]
                  have hr := (hpt4.alloc (.cells #[.slice (some ⟨gt, 0, none⟩) 4 4] 29)).reads
                  exact hr.of_block (hg2.block gt hr.lt (fun e => by
                    have : gv = gt := by simpa [Value.ownBlock] using e.symm
                    omega)) hg2.size
                have hap2 : Apart (.slice (some ⟨g2, 0, none⟩) ((rowVs L).length + 1) cap2) (L ++ [(gt, 4)]) :=
                  hap.snoc (gv := wr.heap.size + 1) (by
                    rcases hor2 with h | h
                    · exact .inl h
                    · exact .inr (by simpa using h)) (fun k q hq => Nat.lt_succ_of_lt (hLl k q hq)) (Nat.lt_succ_of_lt hgx) (fun e => by
                    have : gv = gt := by simpa [Value.ownBlock] using e
                    omega)
                rw [rowVs_snoc L (gt, 4)] at hown2
                have hb3 := (hbx.alloc hbx.size _).trans hb2
                clear hownx hrowsx hbx hpt4 hb2 hg2
                go_wp2_with fail
                go_roundw
                case rel => exact ⟨i + 1, L ++ [(gt, 4)], p2, _, rfl, by omega, by omega, by go_num, by simp; omega, rfl, HP2, hown2, hrows2, hap2, hb3⟩
                case measure => simp [intOf]; omega
          · have ht : ((i : Int) % 4 == 0) = false := by
              have : (i : Int) % 4 ≠ 0 := by omega
              simpa using this
            obtain ⟨T2, hT2⟩ : ∃ T2 : Nat → UInt8, T2 = T := ⟨_, rfl⟩
            have HT2 : Hid (∀ r, r < 4 → KW (4 * i + r) = KW (4 * (i - 4) + r) ^^^ T2 r) := Lib.hid (fun r hr => by
              have hn := HKN.out i r hi4 hlt hr
              rw [if_neg h4] at hn
              rw [hn, hT2, ← HT.out])
            rw [← hT2] at hpt0
            obtain ⟨p2, hp2⟩ : ∃ p2, p = p2 := ⟨_, rfl⟩
            have HP2 : Hid (p2 = rc ((i + 1 + 3) / 4 - 1)) := Lib.hid (by rw [← hp2, HP.out, show (i + 1 + 3) / 4 - 1 = (i + 3) / 4 - 1 by omega])
            rw [hp2]
            have H4 := Lib.hid h4
            clear hp2 HP hT2 h4
            have hpt := hpt0
            have hbt := hbt0
            have hz3 := hgt0
            clear hpt0 hbt0 hgt0
            go_wp2_with fail
            go_loopw [10] (fun jv WX => ∃ j : Nat, j ≤ 4 ∧ jv = .int .i64 j ∧ Part WX gt 4 (fun m => if m < j then KW (4 * i + m) else T2 m) ∧ Below wo.heap.size wo WX) (fun jv _ => 4 - (intOf jv).toNat)
            case atStart => exact ⟨0, by omega, rfl, hpt.congr (fun m _ => by simp), hbt⟩
            case round =>
              clear hpt hbt
              obtain ⟨j, hj, rfl, hpt, hbt⟩ := hrel
              by_cases hlj : j < 4
              · have j0 : (0 : Int) ≤ (j : Int) := by omega
                have j4 : (j : Int) < 4 := by omega
                have c1 := hpt.cell j hlj
                have f1 := hpt.frozen j hlj
                simp only [Nat.lt_irrefl, if_false] at c1
                have cw := (hown.later hbt).cellg (i - 4) _ (rowVs_get hp4)
                have c2 := ((hrows.later hbt).row (i - 4) p4 hp4).cell j hlj
                have q0 : IntKind.i64.wrap ((i : Int) - 4) = (i : Int) - 4 := IntWalk.i64_in _ (by omega)
                have a0 : (0 : Int) ≤ (i : Int) - 4 := by omega
                have a1 : (i : Int) - 4 < (i : Int) := by omega
                have a2 : (4 : Int) ≤ (i : Int) := by omega
                have n1 : ((i : Int) - 4).toNat = i - 4 := by omega
                obtain ⟨x, hx, ex⟩ := xname (T2 j) (KW (4 * (i - 4) + j))
                have HX : Hid (KW (4 * i + j) = x) := Lib.hid (by rw [HT2.out j hlj, UInt8.xor_comm, hx])
                clear hx
                go_wp2_with fail
                go_still_tail 16, (by kernel_rfl)
                go_wp2
                go_roundw
                case rel =>
                  refine ⟨j + 1, by omega, by go_num, Part.drew (hpt.set j x _ (fun m _ => ?_)), (hbt.setCell (by simp; omega) _).drew⟩
                  by_cases hm : m = j
                  · subst hm; rw [if_pos (by omega), if_pos rfl, HX.out]
                  · rw [if_neg hm]
                    by_cases hl : m < j
                    · rw [if_pos hl, if_pos (by omega)]
                    · rw [if_neg hl, if_neg (by omega)]
                case measure => simp [intOf]; omega
              · have hj4 : j = 4 := by omega
                have hpt4 : Part wr gt 4 (fun m => KW (4 * i + m)) := hpt.congr (fun m hm => by rw [if_pos (by omega)])
                have hge : (4 : Int) ≤ (j : Int) := by omega
                have hownx := hown.later hbt
                have hrowsx := hrows.later hbt
                have hbx := belowNext hb hbt
                have hsx := hbt.size
                have hvl : gv < wo.heap.size := hown.block_lt rfl
                have hLl : ∀ (k : Nat) (q : Nat × Nat), L[k]? = some q → q.1 < wr.heap.size := fun k q hq => (hrowsx.row k q hq).lt
                have hgx : gt < wr.heap.size := hpt4.lt
                have hrl : (rowVs L).length ≤ 44 := by rw [rowVs_length]; omega
                have hrn : (rowVs L).length = i := by rw [rowVs_length]; exact hL
                have HRN := Lib.hid hrn
                clear hpt hj4 hlj hown hrows hb hbt hrn
                go_wp2_with (first
                  | (at_builtin; refine list_app_cells Try.rowsSl rfl _ _ rfl w.heap.size _ _ rfl (hownx.alloc _) wr.heap.size 1 1 [.slice (some ⟨gt, 0, none⟩) 4 ct] rfl rfl (fun j u hu => by
                      have := World.news_of_block (heap_at_alloc wr (.cells #[.slice (some ⟨gt, 0, none⟩) 4 ct] 29)) j u hu
                      rwa [Addr.add_mid, Nat.zero_add] at this) (by simp [Value.oneCell']) (by omega) (by unfold maxLen; omega) (by omega) (by have := hbx.size; simp; omega) ?_))
                intro g2 cap2 w2 hown2 hg2 hor2 hb2
                have hrows2 : RowsOk w2 (L ++ [(gt, ct)]) KW := by
                  have h1 := (hrowsx.later ((Below.refl _ _).alloc (Nat.le_refl _) (.cells #[.slice (some ⟨gt, 0, none⟩) 4 ct] 29))).grown hap hg2
                  refine h1.snoc (gt, ct) ?_
                  rw [hL]
                  have hr := (hpt4.alloc (.cells #[.slice (some ⟨gt, 0, none⟩) 4 ct] 29)).reads
                  exact hr.of_block (hg2.block gt hr.lt (fun e => by
                    have : gv = gt := by simpa [Value.ownBlock] using e.symm
                    omega)) hg2.size
                have hap2 : Apart (.slice (some ⟨g2, 0, none⟩) ((rowVs L).length + 1) cap2) (L ++ [(gt, ct)]) :=
                  hap.snoc (gv := wr.heap.size + 1) (by
                    rcases hor2 with h | h
                    · exact .inl h
                    · exact .inr (by simpa using h)) (fun k q hq => Nat.lt_succ_of_lt (hLl k q hq)) (Nat.lt_succ_of_lt hgx) (fun e => by
                    have : gv = gt := by simpa [Value.ownBlock] using e
                    omega)
                rw [rowVs_snoc L (gt, ct)] at hown2
                have hb3 := (hbx.alloc hbx.size _).trans hb2
                clear hownx hrowsx hbx hpt4 hb2 hg2
                go_wp2_with fail
                go_roundw
                case rel => exact ⟨i + 1, L ++ [(gt, ct)], p2, _, rfl, by omega, by omega, by go_num, by simp; omega, rfl, HP2, hown2, hrows2, hap2, hb3⟩
                case measure => simp [intOf]; omega
        · have hge : (44 : Int) ≤ (i : Int) := by omega
          have hi : i = 44 := by omega
          have HI := Lib.hid hi
          clear hlt hi
          go_wp2_with fail
          go_ret
          have h1 := hown
          rw [HI.out] at h1
          exact ⟨L, gv, cv, by rw [HI.out]; rfl, by rw [hL, HI.out], h1, hrows, hb⟩
end Go.Proofs.Ytohjnhekkifhbab
