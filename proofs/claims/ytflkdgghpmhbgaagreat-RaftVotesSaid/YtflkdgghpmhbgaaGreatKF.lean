/- log in general: Compact, Install. -/
import Derived.Test.YtflkdgghpmhbgaaGreatKE
import Derived.Lib.SliceRun
import Derived.Test.YtflkdgghpmhbgaaGreatKD
namespace Go.Proofs.YtflkdgghpmhbgaaGreat
open Go.RowKit

theorem ESl.drop {w : World} {a : Option Addr} {n cp : Nat} {l : List Ent} (h : ESl w (.slice a n cp) l) (k : Nat) (hk : k ≤ n) : ESl w (.slice (if cp = k then a else a.map (·.add (k * 2))) (n - k) (cp - k)) (l.drop k) := by
  obtain ⟨a', c', he, hc, hcells⟩ := h
  injection he with h1 h2 h3
  subst h1 h2 h3
  refine ⟨_, _, by rw [List.length_drop], by rw [List.length_drop]; omega, fun hne => ?_⟩
  have hlt : k < l.length := by
    rcases Nat.lt_or_ge k l.length with h | h
    · exact h
    · exact absurd (List.drop_eq_nil_of_le h) hne
  obtain ⟨g, o, rfl, hg, hcs⟩ := hcells (fun e => by rw [e] at hlt; simp at hlt)
  refine ⟨g, o + k * 2, ?_, hg, fun i x hx => ?_⟩
  · rw [if_neg (by omega)]
    simp only [Option.map_some, Addr.add]
    split
    · rename_i h0; rw [h0]; rfl
    · rfl
  · rw [List.getElem?_drop] at hx
    have := hcs _ _ hx
    have e1 : o + k * 2 + i * 2 = o + (k + i) * 2 := by omega
    rw [e1]
    exact this
theorem slice_fromU (a : Option Addr) (n cp l : Nat) (h : l ≤ n) (W : World) : (Instr.slice 38 (.slice a n cp) (some (.int .u64 (l : Int))) none none).run Tryz.prog W =
    .ok (.slice (if cp = l then a else a.map (·.add (l * 2))) (n - l) (cp - l)) W := by
  simp [Instr.slice, Instr.sliceBounds, Instr.sliceBound, asIntOf, run_underlying Tryz.underlying38, h]
theorem EOwn.made (w : World) (o : Array Value) (ho : o.size = 0) : EOwn (w.alloc (.cells o 70)) w.heap.size (.slice (some ⟨w.heap.size, 0, none⟩) 0 0) [] :=
  World.ownsRow_made w o 0 (Nat.le_refl _) (Nat.zero_le _) (by rw [ho])

set_option maxHeartbeats 1000000 in
set_option maxRecDepth 100000 in
theorem eclone_prog (sv : Value) (l : List Ent) (w : World) (h : ESl w sv l) (hl : l.length ≤ 1000000000) :
    Calls Tryz.prog 169 #[sv] w fun e w' => ∃ v', e = .returned v' ∧ EOwn w' w.heap.size v' l ∧ Below w.heap.size w w' := by
  have q : ∀ (w : World) (a : Option Addr) (n c n' c' : Nat), (binOp .eql 38 (.slice a n c) (.slice none n' c')).run Tryz.prog w = .ok (.bool a.isNone) w := fun w a n c n' c' => Lib.run_eql_slice_nil w _ _ a n c n' c' Tryz.underlying38
  obtain ⟨a, c, rfl, hc, hcells⟩ := id h
  cases a with
  | none =>
    have hnil : l = [] := by
      by_cases e : l = []
      · exact e
      · obtain ⟨_, _, e2, _⟩ := hcells e
        cases e2
    subst hnil
    clear h hcells hl hc
    go_enter Tryz.func169, Tryz.ntmps169
    go_wp2_with fail
    go_ret
    exact ⟨_, rfl, EOwn.nil _ _, Below.refl _ _⟩
  | some a =>
    have H := Lib.hid (h.later ((Below.refl w.heap.size w).alloc (Nat.le_refl _) (.cells #[] 70)))
    have HM := Lib.hid (EOwn.made w #[] rfl)
    have HL := Lib.hid hl
    have HB := Lib.hid ((Below.refl w.heap.size w).alloc (Nat.le_refl _) (.cells #[] 70))
    clear h hcells hl hc
    go_enter Tryz.func169, Tryz.ntmps169
    go_wp2_with (first | (at_builtin; refine list_appE rfl _ _ rfl w.heap.size _ _ rfl HM.out _ _ rfl H.out (by simpa using HL.out) (by simp) ?_))
    intro v' w' ho hg
    have HO := Lib.hid ho
    have HG := Lib.hid (hg.below (B := w.heap.size) (by simp) (fun k hk => by simp [Value.ownBlock] at hk; omega))
    clear ho hg
    go_wp2_with fail
    go_ret
    exact ⟨v', rfl, HO.out, HB.out.trans HG.out⟩
end Go.Proofs.YtflkdgghpmhbgaaGreat
namespace Go.Proofs.YtflkdgghpmhbgaaGreat
open Go.RowKit

/-- The content with that base; the entries behind it stay if the term there was that. -/
def CT.rebase (c : CT) (i t : Nat) (st : ByteArray) : CT := { c with base := i, bterm := t, state := st, ents := if c.termAt i = some t then c.ents.drop (i - c.base) else [] }
def LgS.rebase (s : LgS) (i t : Nat) (st : ByteArray) : LgS × Int :=
  if (s.swap (wholeB (s.c.rebase i t st))).2 = true then ({ (s.swap (wholeB (s.c.rebase i t st))).1 with c := s.c.rebase i t st }, 0)
  else ({ (s.swap (wholeB (s.c.rebase i t st))).1 with dn := true }, 3)
theorem termAt_in {c : CT} {i x : Nat} (h : c.termAt i = some x) : c.base ≤ i ∧ i ≤ c.base + c.ents.length := by
  unfold CT.termAt at h
  split at h
  · omega
  · unfold CT.at at h
    split at h
    · cases h
    · omega
theorem entsL_drop (E : List Ent) (k : Nat) : (entsL (E.drop k)).length ≤ (entsL E).length := by
  have h : entsL E = entsL (E.take k) ++ entsL (E.drop k) := by rw [← entsL_append, List.take_append_drop]
  rw [h, List.length_append]; omega
theorem rebase_ok {c : CT} {i t : Nat} {st : ByteArray} (h : c.Ok) (hi : i < m64) (ht : t < m64) (hs : st.size < m64) : (c.rebase i t st).Ok := by
  unfold CT.rebase
  by_cases hk : c.termAt i = some t
  · obtain ⟨h1, h2⟩ := termAt_in hk
    rw [if_pos hk]
    exact ⟨h.term, h.vote, h.votet, by have := h.base; simp only [List.length_drop]; omega, ht, hs, fun x hx => h.ents x (List.mem_of_mem_drop hx)⟩
  · rw [if_neg hk]
    exact ⟨h.term, h.vote, h.votet, by simpa using hi, ht, hs, fun x hx => by cases hx⟩
theorem rebase_size (c : CT) (i t : Nat) (st : ByteArray) : (wholeB (c.rebase i t st)).size ≤ (wholeB c).size + st.size := by
  rw [wholeB_len, wholeB_len]
  unfold CT.rebase
  have h1 := entsL_drop c.ents (i - c.base)
  split
  · simp only; omega
  · have h0 : entsL [] = [] := rfl
    simp only [h0, List.length_nil]; omega

/-- The four stores into the local content. -/
def set4 (w : World) (G : Nat) (b2 b3 b4 b5 : Value) : World := (((w.setCell ⟨G, 2, none⟩ b2).setCell ⟨G, 3, none⟩ b3).setCell ⟨G, 4, none⟩ b4).setCell ⟨G, 5, none⟩ b5
theorem set4_heap {w : World} {G : Nat} {a0 a1 a2 a3 a4 a5 : Value} {ty : TypeId} (h : w.heap[G]? = some (.cells #[a0, a1, a2, a3, a4, a5] ty (0, 0))) (b2 b3 b4 b5 : Value) :
    (set4 w G b2 b3 b4 b5).heap[G]? = some (.cells #[a0, a1, b2, b3, b4, b5] ty (0, 0)) := by
  have h2 := heap_setCell_same w G 2 _ _ b2 h
  have h3 := heap_setCell_same _ G 3 _ _ b3 h2
  have h4 := heap_setCell_same _ G 4 _ _ b4 h3
  have h5 := heap_setCell_same _ G 5 _ _ b5 h4
  simpa [set4] using h5
theorem set4_below {w : World} {G B : Nat} (hB : B ≤ G) (b2 b3 b4 b5 : Value) : Below B w (set4 w G b2 b3 b4 b5) :=
  ((((Below.refl B w).setCell hB _).setCell hB _).setCell hB _).setCell hB _
/-- The six stores into the log. -/
def setC (w : World) (H : Nat) (c : CT) (v : Value) : World := (((((w.setCell ⟨H, 0, none⟩ (.int .u64 (c.term : Int))).setCell ⟨H, 1, none⟩ (.int .i64 c.vote)).setCell ⟨H, 2, none⟩ (.int .u64 (c.base : Int))).setCell ⟨H, 3, none⟩ (.int .u64 (c.bterm : Int))).setCell ⟨H, 4, none⟩ (.string c.state)).setCell ⟨H, 5, none⟩ v
theorem setC_other (w : World) (H : Nat) (c : CT) (v : Value) (j : Nat) (hj : j ≠ H) : (setC w H c v).heap[j]? = w.heap[j]? := by
  unfold setC
  rw [heap_setCell_other _ ⟨H, 5, none⟩ j _ hj, heap_setCell_other _ ⟨H, 4, none⟩ j _ hj, heap_setCell_other _ ⟨H, 3, none⟩ j _ hj, heap_setCell_other _ ⟨H, 2, none⟩ j _ hj, heap_setCell_other _ ⟨H, 1, none⟩ j _ hj, heap_setCell_other _ ⟨H, 0, none⟩ j _ hj]
theorem setC_size (w : World) (H : Nat) (c : CT) (v : Value) : (setC w H c v).heap.size = w.heap.size := by simp [setC]
theorem setC_below (w : World) (H : Nat) (c : CT) (v : Value) : Below 0 w (setC w H c v) :=
  ((((((Below.refl 0 w).setCell (Nat.zero_le _) _).setCell (Nat.zero_le _) _).setCell (Nat.zero_le _) _).setCell (Nat.zero_le _) _).setCell (Nat.zero_le _) _).setCell (Nat.zero_le _) _
theorem LgAt.put {w : World} {lb db room : Nat} {dn : Bool} {v v2 : Value} {c c2 : CT} (h : LgAt w lb db dn room v c) (ho : EOwn w 0 v2 c2.ents) (hne : v2.ownBlock ≠ some lb) : LgAt (setC w lb c2 v2) lb db dn room v2 c2 := by
  refine ⟨?_, ho.mv fun k hk => setC_other _ _ _ _ _ (fun e => hne (by rw [hk, e])), hne⟩
  have h0 := heap_setCell_same w lb 0 _ _ (.int .u64 (c2.term : Int)) h.1
  have h1 := heap_setCell_same _ lb 1 _ _ (.int .i64 c2.vote) h0
  have h2 := heap_setCell_same _ lb 2 _ _ (.int .u64 (c2.base : Int)) h1
  have h3 := heap_setCell_same _ lb 3 _ _ (.int .u64 (c2.bterm : Int)) h2
  have h4 := heap_setCell_same _ lb 4 _ _ (.string c2.state) h3
  have h5 := heap_setCell_same _ lb 5 _ _ v2 h4
  simpa [ctL, setC] using h5
section
variable {w w' : World} {lb db : Nat} {v dv v' dv' : Value} {s : LgS}
theorem LW.put {c2 : CT} {v2 : Value} (h : LW w lb db v dv s) (ho : EOwn w 0 v2 c2.ents) (hne : v2.ownBlock ≠ some lb) : LW (setC w lb c2 v2) lb db v2 dv { s with c := c2 } :=
  ⟨h.log.put ho hne, Dk.keep h.disk (setC_other _ _ _ _ _ h.two.ne.symm) fun j hj => setC_other _ _ _ _ _ (fun e => h.two.dv_lb (by rw [hj, e]))⟩
theorem LCh.put {w0 : World} {v0 dv0 v2 : Value} {c2 : CT} (hc : LCh lb db v0 dv0 w0 w v dv) (hv : ∀ j, v2.ownBlock = some j → w0.heap.size ≤ j) : LCh lb db v0 dv0 w0 (setC w lb c2 v2) v2 dv :=
  ⟨(setC_below w lb c2 v2).os.trans hc.os, (setC_below w lb c2 v2).tape.trans hc.tape, (setC_below w lb c2 v2).output.trans hc.output, by rw [setC_size]; exact hc.size, fun j hj h1 h2 h3 h4 => (setC_other _ _ _ _ _ h1).trans (hc.block j hj h1 h2 h3 h4), fun j hj => .inr (hv j hj), hc.dloc⟩
end
end Go.Proofs.YtflkdgghpmhbgaaGreat
namespace Go.Proofs.YtflkdgghpmhbgaaGreat
open Go.RowKit

section
variable {w w' : World} {lb db : Nat} {v dv v' dv' : Value} {s : LgS}
/-- What stands when the local content is laid: the log as it was, the local content, its entries. -/
structure RebAt (w : World) (G : Nat) (lb db : Nat) (v dv : Value) (s : LgS) (i t : Nat) (st : ByteArray) (nx : CT) (v5 : Value) (W : World) : Prop where
  log : LW W lb db v dv s
  loc : W.heap[G]? = some (.cells #[.int .u64 (s.c.term : Int), .int .i64 s.c.vote, .int .u64 (i : Int), .int .u64 (t : Int), .string st, v5] 116 (0, 0))
  own : EOwn W 0 v5 nx.ents
  low : ∀ j, v5.ownBlock = some j → w.heap.size ≤ j
  below : Below w.heap.size w W
theorem LW.lts (h : LW w lb db v dv s) : lb < w.heap.size ∧ db < w.heap.size ∧ (∀ k, v.ownBlock = some k → k < w.heap.size) ∧ (∀ k, dv.ownBlock = some k → k < w.heap.size) := ⟨CtAt.lt h.log, Dk.lt h.disk, h.log.2.1.lt, h.disk.2.1.lt⟩
theorem RebAt.later {G i t : Nat} {st : ByteArray} {nx : CT} {v5 : Value} {W W' : World} (h : RebAt w G lb db v dv s i t st nx v5 W) (hb : Below W.heap.size W W') : RebAt w G lb db v dv s i t st nx v5 W' :=
  ⟨h.log.later hb, by rw [hb.block _ (block_lt h.loc)]; exact h.loc, h.own.later hb, h.low, h.below.trans (hb.mono h.below.size)⟩

set_option maxHeartbeats 1000000 in
set_option maxRecDepth 100000 in
theorem hrebase_prog (h : LW w lb db v dv s) (hf : s.Fit) (i t : Nat) (st : ByteArray) (hi : i < m64) (ht : t < m64) (hst : st.size ≤ 100000000) :
    Calls Tryz.prog 152 #[.pointer (some ⟨lb, 0, none⟩), .int .u64 (i : Int), .int .u64 (t : Int), .string st] w fun e w' => e = .returned (.int .i64 (s.rebase i t st).2) ∧ LO lb db v dv w (s.rebase i t st).1 w' := by
  have hok := rebase_ok (st := st) hf.ok hi ht (by unfold m64; omega)
  have hsz := rebase_size s.c i t st
  have hwh := hf.whole
  have hsum : (s.c.rebase i t st).state.size + (entsL (s.c.rebase i t st).ents).length ≤ 5000000000 := by
    rw [wholeB_len] at hsz; omega
  have hlts := h.lts
  have hfew := ents_few hf.whole
  have hlast := hf.ok.base
  have K1 := Lib.hid (fun W => clone_prog st W (by omega))
  have K2 := Lib.hid (fun W (hW : LW W lb db v dv s) => termAt_prog lb v s.c i W hW.log (by omega) hf.ok.base)
  have K6 : Hid (∀ W v5, EOwn W 0 v5 (s.c.rebase i t st).ents → Calls Tryz.prog 171 #[.agg #[.int .u64 (s.c.term : Int), .int .i64 s.c.vote, .int .u64 (i : Int), .int .u64 (t : Int), .string st, v5]] W fun e w' => e = .returned (.string (wholeB (s.c.rebase i t st))) ∧ Below W.heap.size W w') :=
    Lib.hid (fun W v5 hW => whole_prog (s.c.rebase i t st) v5 W hok hW.sl hsum)
  have K7 := Lib.hid (fun W (hW : LW W lb db v dv s) => hswap_prog hW hf.k (wholeB (s.c.rebase i t st)) (by omega))
  have e1 : s.rebase i t st = if (s.swap (wholeB (s.c.rebase i t st))).2 = true then ({ (s.swap (wholeB (s.c.rebase i t st))).1 with c := s.c.rebase i t st }, 0) else ({ (s.swap (wholeB (s.c.rebase i t st))).1 with dn := true }, 3) := rfl
  rw [e1]
  have hents : (s.c.rebase i t st).ents = if s.c.termAt i = some t then s.c.ents.drop (i - s.c.base) else [] := rfl
  have HPUT : Hid (∀ W v5 (s2 : LgS) dv8, LW W lb db v dv8 s2 → EOwn W 0 v5 (s.c.rebase i t st).ents → v5.ownBlock ≠ some lb → LW (setC W lb ⟨s.c.term, s.c.vote, i, t, st, (s.c.rebase i t st).ents⟩ v5) lb db v5 dv8 { s2 with c := s.c.rebase i t st }) :=
    Lib.hid (fun W v5 s2 dv8 hW ho hne => hW.put (c2 := s.c.rebase i t st) ho hne)
  have HI1 : Hid (∀ x, s.c.termAt i = some x → s.c.base ≤ i ∧ i ≤ s.c.base + s.c.ents.length) := Lib.hid (fun x hx => termAt_in hx)
  obtain ⟨nx, hnx⟩ : ∃ nx, s.c.rebase i t st = nx := ⟨_, rfl⟩
  rw [hnx] at K6 K7 hents HPUT ⊢
  obtain ⟨Q, hQ⟩ : ∃ Q, wholeB nx = Q := ⟨_, rfl⟩
  rw [hQ] at K6 K7 ⊢
  obtain ⟨⟨s2, ok⟩, hR⟩ : ∃ R, s.swap Q = R := ⟨_, rfl⟩
  rw [hR] at K7 ⊢
  dsimp only at K7 ⊢
  obtain ⟨x, hx⟩ : ∃ x, s.c.termAt i = x := ⟨_, rfl⟩
  rw [hx] at K2 hents HI1
  obtain ⟨m0, m1, m2, m3, m4, m5⟩ := CtAt.cells h.log
  have hvs := h.log.2.1.shape
  have hsl := h.log.2.1.sl
  have H := Lib.hid h
  clear h hf hok hsz hwh hsum e1 hnx hQ hR hx hst
  cases x with
  | none =>
    have hnil : nx.ents = [] := by rw [hents]; rfl
    unfold numV at K2
    clear hents HI1
    obtain ⟨va, vc, rfl, _⟩ := id hvs
    obtain ⟨G, hG⟩ : ∃ G, w.heap.size = G := ⟨_, rfl⟩
    obtain ⟨W1, hW1⟩ : ∃ W1, W1 = w.alloc (.cells #[.int .u64 (s.c.term : Int), .int .i64 s.c.vote, .int .u64 (s.c.base : Int), .int .u64 (s.c.bterm : Int), .string s.c.state, .slice va s.c.ents.length vc] 116) := ⟨_, rfl⟩
    have hb1 : Below w.heap.size w W1 := by rw [hW1]; exact (Below.refl _ _).alloc (Nat.le_refl _) _
    have hz1 : W1.heap[G]? = some (.cells #[.int .u64 (s.c.term : Int), .int .i64 s.c.vote, .int .u64 (s.c.base : Int), .int .u64 (s.c.bterm : Int), .string s.c.state, .slice va s.c.ents.length vc] 116 (0, 0)) := by rw [hW1, ← hG]; exact heap_alloc_new _ _
    have HL1 := Lib.hid (H.out.later hb1)
    have HB1 := Lib.hid hb1
    have HZ1 := Lib.hid hz1
    have K1' := Lib.hid (K1.out W1)
    have HSL := Lib.hid hsl
    have HVS := Lib.hid hlts
    have HG := Lib.hid hG
    clear hb1 hz1 hvs hsl hlts K1
    go_enter Tryz.func152, Tryz.ntmps152
    go_wp2_with fail
    rw [← hW1]
    clear hW1 hG m0 m1 m2 m3 m4 m5
    refine K1'.out.mono ?_
    rintro e w2 ⟨rfl, hb2⟩
    have hz2 : w2.heap[G]? = some (.cells #[.int .u64 (s.c.term : Int), .int .i64 s.c.vote, .int .u64 (s.c.base : Int), .int .u64 (s.c.bterm : Int), .string s.c.state, .slice va s.c.ents.length vc] 116 (0, 0)) := by rw [hb2.block _ (block_lt HZ1.out)]; exact HZ1.out
    obtain ⟨m0, m1, m2, m3, m4, m5⟩ := cells6 hz2
    have z2 : w2.frozen? ⟨G, 2, none⟩ = false := by simp [World.frozen?, hz2]
    have z3 : w2.frozen? ⟨G, 3, none⟩ = false := by simp [World.frozen?, hz2]
    have z4 : w2.frozen? ⟨G, 4, none⟩ = false := by simp [World.frozen?, hz2]
    have z5 : w2.frozen? ⟨G, 5, none⟩ = false := by simp [World.frozen?, hz2]
    obtain ⟨W3, hW3⟩ : ∃ W3, W3 = set4 w2 G (.int .u64 (i : Int)) (.int .u64 (t : Int)) (.string st) (.slice none 0 0) := ⟨_, rfl⟩
    have hs4 : Below w.heap.size w2 W3 := by rw [hW3]; exact set4_below (by have := HG.out; omega) _ _ _ _
    have hb3 : Below w.heap.size w W3 := (HB1.out.trans (hb2.mono HB1.out.size)).trans hs4
    have hr3 : RebAt w G lb db (.slice va s.c.ents.length vc) dv s i t st (nx := { nx with ents := [] }) (.slice none 0 0) W3 :=
      ⟨H.out.later hb3, by rw [hW3]; exact set4_heap hz2 _ _ _ _, EOwn.nil _ _, (fun j hj => by simp [Value.ownBlock] at hj), hb3⟩
    unfold set4 at hW3
    have K2' := Lib.hid (K2.out W3 hr3.log)
    have HR3 := Lib.hid hr3
    clear hb2 hz2 hs4 hb3 hr3 K1' K2 HL1 HB1 HZ1
    go_wp2_with fail
    rw [← hW3]
    clear hW3 m0 m1 m2 m3 m4 m5 z2 z3 z4 z5
    refine K2'.out.mono ?_
    rintro e w4 ⟨rfl, hb4⟩
    have hr4 := HR3.out.later hb4
    have HR : Hid (RebAt w G lb db (.slice va s.c.ents.length vc) dv s i t st nx (.slice none 0 0) w4) := Lib.hid ⟨hr4.log, hr4.loc, by rw [hnil]; exact EOwn.nil _ _, hr4.low, hr4.below⟩
    clear hb4 hr4 K2' HR3 hnil
    have K6' := Lib.hid (K6.out w4 _ HR.out.own)
    obtain ⟨m0, m1, m2, m3, m4, m5⟩ := cells6 HR.out.loc
    clear K6
    go_wp2_with fail
    refine K6'.out.mono ?_
    rintro e w7 ⟨rfl, hb7⟩
    have hr7 := HR.out.later hb7
    have K7' := Lib.hid (K7.out w7 hr7.log)
    have HR7 := Lib.hid hr7
    clear hb7 hr7 K6' K7 HR m0 m1 m2 m3 m4 m5
    go_wp2_with fail
    refine K7'.out.mono ?_
    rintro e w8 ⟨rfl, dv8, hl8, hc8⟩
    obtain ⟨l1, l2, l3, l4⟩ := HVS.out
    have hsz7 := HR7.out.below.size
    have hG7 := block_lt HR7.out.loc
    have hGe := HG.out
    have hz8 : w8.heap[G]? = some (.cells #[.int .u64 (s.c.term : Int), .int .i64 s.c.vote, .int .u64 (i : Int), .int .u64 (t : Int), .string st, .slice none 0 0] 116 (0, 0)) := by
      rw [hc8.block G hG7 (by omega) (by omega) (fun e => by have := l3 _ e; omega) (fun e => by have := l4 _ e; omega)]; exact HR7.out.loc
    have ho8 : EOwn w8 0 (.slice none 0 0) nx.ents := HR7.out.own.mv fun k hk => by
      have h1 := HR7.out.low k hk
      have h2 := HR7.out.own.lt k hk
      exact hc8.block k h2 (by omega) (by omega) (fun e => by have := l3 _ e; omega) (fun e => by have := l4 _ e; omega)
    have HC8 := Lib.hid ((LCh.ofBelow lb db (.slice va s.c.ents.length vc) dv HR7.out.below).trans hc8)
    have HLOW := Lib.hid HR7.out.low
    have HO8 := Lib.hid ho8
    have HL8 := Lib.hid hl8
    obtain ⟨m0, m1, m2, m3, m4, m5⟩ := cells6 hz8
    obtain ⟨p0, p1, p2, p3, p4, p5⟩ := CtAt.cells hl8.log
    obtain ⟨p6, p7, p8⟩ := hl8.log.more
    have z := CtAt.free hl8.log
    have z0 := z 0
    have z1 := z 1
    have z2 := z 2
    have z3 := z 3
    have z4 := z 4
    have z5 := z 5
    have z7 := z 7
    have HNE : Hid ((Value.ownBlock (.slice none 0 0)) ≠ some lb) := Lib.hid (fun e => by have := HLOW.out _ e; omega)
    clear z hl8 hc8 hz8 ho8 hsz7 hG7 hGe l1 l2 l3 l4 HR7 K7' p6 p8
    cases ok
    · clear m0 m1 m2 m3 m4 m5 p0 p1 p2 p3 p4 p5 z0 z1 z2 z3 z4 z5
      go_wp2_with fail
      go_ret
      exact ⟨rfl, LO.of (HL8.out.set7 true) (HC8.out.trans (LCh.cell lb db _ _ _ 7 _))⟩
    · have hfin := LO.of (HPUT.out w8 _ s2 dv8 HL8.out HO8.out HNE.out) (HC8.out.put (c2 := ⟨s.c.term, s.c.vote, i, t, st, nx.ents⟩) HLOW.out)
      unfold setC at hfin
      dsimp only at hfin
      have HFIN := Lib.hid hfin
      clear p7 z7 hfin HPUT HL8 HO8 HNE HC8 HLOW
      go_wp2_with fail
      go_ret
      exact ⟨rfl, HFIN.out⟩
  | some y =>
    unfold numV at K2
    by_cases hyt : y = t
    · subst hyt
      have hdr : nx.ents = s.c.ents.drop (i - s.c.base) := by rw [hents, if_pos rfl]
      obtain ⟨hi1, hi2⟩ := HI1.out y rfl
      clear hents HI1
      obtain ⟨va, vc, rfl, _⟩ := id hvs
      obtain ⟨G, hG⟩ : ∃ G, w.heap.size = G := ⟨_, rfl⟩
      obtain ⟨W1, hW1⟩ : ∃ W1, W1 = w.alloc (.cells #[.int .u64 (s.c.term : Int), .int .i64 s.c.vote, .int .u64 (s.c.base : Int), .int .u64 (s.c.bterm : Int), .string s.c.state, .slice va s.c.ents.length vc] 116) := ⟨_, rfl⟩
      have hb1 : Below w.heap.size w W1 := by rw [hW1]; exact (Below.refl _ _).alloc (Nat.le_refl _) _
      have hz1 : W1.heap[G]? = some (.cells #[.int .u64 (s.c.term : Int), .int .i64 s.c.vote, .int .u64 (s.c.base : Int), .int .u64 (s.c.bterm : Int), .string s.c.state, .slice va s.c.ents.length vc] 116 (0, 0)) := by rw [hW1, ← hG]; exact heap_alloc_new _ _
      have HL1 := Lib.hid (H.out.later hb1)
      have HB1 := Lib.hid hb1
      have HZ1 := Lib.hid hz1
      have K1' := Lib.hid (K1.out W1)
      have HSL := Lib.hid hsl
      have HVS := Lib.hid hlts
      have HG := Lib.hid hG
      clear hb1 hz1 hvs hsl hlts K1
      go_enter Tryz.func152, Tryz.ntmps152
      go_wp2_with fail
      rw [← hW1]
      clear hW1 hG m0 m1 m2 m3 m4 m5
      refine K1'.out.mono ?_
      rintro e w2 ⟨rfl, hb2⟩
      have hz2 : w2.heap[G]? = some (.cells #[.int .u64 (s.c.term : Int), .int .i64 s.c.vote, .int .u64 (s.c.base : Int), .int .u64 (s.c.bterm : Int), .string s.c.state, .slice va s.c.ents.length vc] 116 (0, 0)) := by rw [hb2.block _ (block_lt HZ1.out)]; exact HZ1.out
      obtain ⟨m0, m1, m2, m3, m4, m5⟩ := cells6 hz2
      have z2 : w2.frozen? ⟨G, 2, none⟩ = false := by simp [World.frozen?, hz2]
      have z3 : w2.frozen? ⟨G, 3, none⟩ = false := by simp [World.frozen?, hz2]
      have z4 : w2.frozen? ⟨G, 4, none⟩ = false := by simp [World.frozen?, hz2]
      have z5 : w2.frozen? ⟨G, 5, none⟩ = false := by simp [World.frozen?, hz2]
      obtain ⟨W3, hW3⟩ : ∃ W3, W3 = set4 w2 G (.int .u64 (i : Int)) (.int .u64 (y : Int)) (.string st) (.slice none 0 0) := ⟨_, rfl⟩
      have hs4 : Below w.heap.size w2 W3 := by rw [hW3]; exact set4_below (by have := HG.out; omega) _ _ _ _
      have hb3 : Below w.heap.size w W3 := (HB1.out.trans (hb2.mono HB1.out.size)).trans hs4
      have hr3 : RebAt w G lb db (.slice va s.c.ents.length vc) dv s i y st (nx := { nx with ents := [] }) (.slice none 0 0) W3 :=
        ⟨H.out.later hb3, by rw [hW3]; exact set4_heap hz2 _ _ _ _, EOwn.nil _ _, (fun j hj => by simp [Value.ownBlock] at hj), hb3⟩
      unfold set4 at hW3
      have K2' := Lib.hid (K2.out W3 hr3.log)
      have HR3 := Lib.hid hr3
      clear hb2 hz2 hs4 hb3 hr3 K1' K2 HL1 HB1 HZ1
      go_wp2_with fail
      rw [← hW3]
      clear hW3 m0 m1 m2 m3 m4 m5 z2 z3 z4 z5
      refine K2'.out.mono ?_
      rintro e w4 ⟨rfl, hb4⟩
      have hr4 := HR3.out.later hb4
      have HR4 := Lib.hid hr4
      obtain ⟨g0, g1, g2, g3, g4, g5⟩ := cells6 hr4.loc
      obtain ⟨p0, p1, p2, p3, p4, p5⟩ := CtAt.cells hr4.log.log
      have y5 : w4.frozen? ⟨G, 5, none⟩ = false := by simp [World.frozen?, hr4.loc]
      obtain ⟨k, hk⟩ : ∃ k, k = i - s.c.base := ⟨_, rfl⟩
      have hsub : IntKind.u64.wrap ((i : Int) - (s.c.base : Int)) = (k : Int) := by
        have e : ∀ x : Int, IntKind.u64.wrap x = x % 18446744073709551616 := fun x => by simp [IntKind.wrap, IntKind.signed, IntKind.bits]
        rw [e]; unfold m64 at hi; omega
      have hsub2 : (i : Int) - (s.c.base : Int) = (k : Int) := by omega
      have hkn : k ≤ s.c.ents.length := by omega
      have hwk : IntKind.u64.wrap (k : Int) = (k : Int) := u64_nat' k (by omega)
      clear hsub
      have hsf := slice_fromU va s.c.ents.length vc k hkn w4.drew
      have HD : Hid (∀ W, Below w4.heap.size w4 W → Calls Tryz.prog 169 #[.slice (if vc = k then va else va.map (·.add (k * 2))) (s.c.ents.length - k) (vc - k)] W fun e w' => ∃ a5 c5, e = .returned (.slice a5 (s.c.ents.length - k) c5) ∧
          Hid (EOwn w' w4.heap.size (.slice a5 (s.c.ents.length - k) c5) (s.c.ents.drop k)) ∧ Hid (Below w4.heap.size w4 w') ∧ w'.cell? ⟨G, 5, none⟩ = some (.slice none 0 0) ∧ w'.frozen? ⟨G, 5, none⟩ = false) := Lib.hid (fun W hW => by
        refine (eclone_prog _ _ W ((hr4.log.log.2.1.sl.drop k hkn).later hW) (by rw [List.length_drop]; omega)).mono ?_
        rintro e w5 ⟨v5, rfl, ho5, hb5⟩
        have hbw : Below w4.heap.size w4 w5 := hW.trans (hb5.mono hW.size)
        obtain ⟨a5, c5, rfl, _⟩ := ho5.shape
        rw [List.length_drop] at ho5 ⊢
        have hzz := hr4.loc
        rw [← hbw.block _ (block_lt hzz)] at hzz
        exact ⟨a5, c5, rfl, Lib.hid (ho5.base fun j hj => Nat.le_trans hW.size (ho5.low j hj)), Lib.hid hbw, (cells6 hzz).2.2.2.2.2, by simp [World.frozen?, hzz]⟩)
      rw [← hk] at hdr
      have HDR := Lib.hid hdr
      obtain ⟨ad, had⟩ : ∃ ad, (if vc = k then va else va.map (·.add (k * 2))) = ad := ⟨_, rfl⟩
      obtain ⟨rn, hrn⟩ : ∃ rn, s.c.ents.length - k = rn := ⟨_, rfl⟩
      obtain ⟨rc, hrc⟩ : ∃ rc, vc - k = rc := ⟨_, rfl⟩
      rw [had, hrn, hrc] at hsf HD
      clear had hrn hrc hkn
      clear hr4 hb4 K2' HR3 hk hdr hi1 hi2 g0 g1 g2 g3 g4 p0 p1 p3 p4
      go_upto_region 6 with fail
      go_cut [52] from 38 to 52 (fun s52 wx => s52 = .pointer (some ⟨G, 5, none⟩) ∧ ∃ a5 c5 w5, wx = w5.setCell ⟨G, 5, none⟩ (.slice a5 rn c5) ∧ Hid (EOwn w5 w4.heap.size (.slice a5 rn c5) (s.c.ents.drop k)) ∧ Hid (Below w4.heap.size w4 w5))
      case first =>
        go_region_with ((go_at_call 169; (with_reducible refine (HD.out w4.drew ((Below.refl _ _).drew)).mono ?_); rintro e w5 ⟨a5, c5, rfl, ho5, hb5, g5', y5'⟩))
        all_goals
          go_wp2_with fail
          go_meet
          exact ⟨rfl, _, _, _, rfl, ho5, hb5⟩
      case rest =>
        obtain ⟨rfl, a5, c5, w5, rfl, HO5, HB5⟩ := hcut
        have hz5 := HR4.out.loc
        have hzl := block_lt hz5
        have hsz4 := HR4.out.below.size
        have hGq := HG.out
        rw [← HB5.out.block _ hzl] at hz5
        have hz6 := heap_setCell_same w5 G 5 _ _ (.slice a5 rn c5) hz5
        have hne5 : ∀ j, (Value.slice a5 rn c5).ownBlock = some j → w4.heap.size ≤ j := HO5.out.low
        have hb6 : Below w.heap.size w (w5.setCell ⟨G, 5, none⟩ (.slice a5 rn c5)) := (HR4.out.below.trans (HB5.out.mono hsz4)).setCell (Nat.le_of_eq hGq) _
        have hr6 : RebAt w G lb db (.slice va s.c.ents.length vc) dv s i y st nx (.slice a5 rn c5) (w5.setCell ⟨G, 5, none⟩ (.slice a5 rn c5)) :=
          ⟨H.out.later hb6, by simpa using hz6, by rw [HDR.out]; exact (HO5.out.base (fun j _ => Nat.zero_le j)).mv (fun j hj => heap_setCell_other w5 ⟨G, 5, none⟩ j _ (by have := hne5 j hj; show j ≠ G; omega)), fun j hj => Nat.le_trans hsz4 (hne5 j hj), hb6⟩
        obtain ⟨W6, hW6⟩ : ∃ W6, w5.setCell ⟨G, 5, none⟩ (.slice a5 rn c5) = W6 := ⟨_, rfl⟩
        rw [hW6] at hr6 ⊢
        have HR := Lib.hid hr6
        clear hz5 hzl hsz4 hGq hz6 hne5 hb6 hr6 hW6 HO5 HB5 HDR HR4 HD hsf hsub2 hwk p2 p5 g5 y5
        have K6' := Lib.hid (K6.out W6 _ HR.out.own)
        obtain ⟨m0, m1, m2, m3, m4, m5⟩ := cells6 HR.out.loc
        clear K6
        go_wp2_with fail
        refine K6'.out.mono ?_
        rintro e w7 ⟨rfl, hb7⟩
        have hr7 := HR.out.later hb7
        have K7' := Lib.hid (K7.out w7 hr7.log)
        have HR7 := Lib.hid hr7
        clear hb7 hr7 K6' K7 HR m0 m1 m2 m3 m4 m5
        go_wp2_with fail
        refine K7'.out.mono ?_
        rintro e w8 ⟨rfl, dv8, hl8, hc8⟩
        obtain ⟨l1, l2, l3, l4⟩ := HVS.out
        have hsz7 := HR7.out.below.size
        have hG7 := block_lt HR7.out.loc
        have hGe := HG.out
        have hz8 : w8.heap[G]? = some (.cells #[.int .u64 (s.c.term : Int), .int .i64 s.c.vote, .int .u64 (i : Int), .int .u64 (y : Int), .string st, .slice a5 rn c5] 116 (0, 0)) := by
          rw [hc8.block G hG7 (by omega) (by omega) (fun e => by have := l3 _ e; omega) (fun e => by have := l4 _ e; omega)]; exact HR7.out.loc
        have ho8 : EOwn w8 0 (.slice a5 rn c5) nx.ents := HR7.out.own.mv fun k hk => by
          have h1 := HR7.out.low k hk
          have h2 := HR7.out.own.lt k hk
          exact hc8.block k h2 (by omega) (by omega) (fun e => by have := l3 _ e; omega) (fun e => by have := l4 _ e; omega)
        have HC8 := Lib.hid ((LCh.ofBelow lb db (.slice va s.c.ents.length vc) dv HR7.out.below).trans hc8)
        have HLOW := Lib.hid HR7.out.low
        have HO8 := Lib.hid ho8
        have HL8 := Lib.hid hl8
        obtain ⟨m0, m1, m2, m3, m4, m5⟩ := cells6 hz8
        obtain ⟨p0, p1, p2, p3, p4, p5⟩ := CtAt.cells hl8.log
        obtain ⟨p6, p7, p8⟩ := hl8.log.more
        have z := CtAt.free hl8.log
        have z0 := z 0
        have z1 := z 1
        have z2 := z 2
        have z3 := z 3
        have z4 := z 4
        have z5 := z 5
        have z7 := z 7
        have HNE : Hid ((Value.ownBlock (.slice a5 rn c5)) ≠ some lb) := Lib.hid (fun e => by have := HLOW.out _ e; omega)
        clear z hl8 hc8 hz8 ho8 hsz7 hG7 hGe l1 l2 l3 l4 HR7 K7' p6 p8
        cases ok
        · clear m0 m1 m2 m3 m4 m5 p0 p1 p2 p3 p4 p5 z0 z1 z2 z3 z4 z5
          go_wp2_with fail
          go_ret
          exact ⟨rfl, LO.of (HL8.out.set7 true) (HC8.out.trans (LCh.cell lb db _ _ _ 7 _))⟩
        · have hfin := LO.of (HPUT.out w8 _ s2 dv8 HL8.out HO8.out HNE.out) (HC8.out.put (c2 := ⟨s.c.term, s.c.vote, i, y, st, nx.ents⟩) HLOW.out)
          unfold setC at hfin
          dsimp only at hfin
          have HFIN := Lib.hid hfin
          clear p7 z7 hfin HPUT HL8 HO8 HNE HC8 HLOW
          go_wp2_with fail
          go_ret
          exact ⟨rfl, HFIN.out⟩
    · have hnil : nx.ents = [] := by rw [hents, if_neg (fun e => hyt (by injection e))]
      have hytI : ((y : Int) == (t : Int)) = false := by simp; omega
      clear hents HI1 hyt
      obtain ⟨va, vc, rfl, _⟩ := id hvs
      obtain ⟨G, hG⟩ : ∃ G, w.heap.size = G := ⟨_, rfl⟩
      obtain ⟨W1, hW1⟩ : ∃ W1, W1 = w.alloc (.cells #[.int .u64 (s.c.term : Int), .int .i64 s.c.vote, .int .u64 (s.c.base : Int), .int .u64 (s.c.bterm : Int), .string s.c.state, .slice va s.c.ents.length vc] 116) := ⟨_, rfl⟩
      have hb1 : Below w.heap.size w W1 := by rw [hW1]; exact (Below.refl _ _).alloc (Nat.le_refl _) _
      have hz1 : W1.heap[G]? = some (.cells #[.int .u64 (s.c.term : Int), .int .i64 s.c.vote, .int .u64 (s.c.base : Int), .int .u64 (s.c.bterm : Int), .string s.c.state, .slice va s.c.ents.length vc] 116 (0, 0)) := by rw [hW1, ← hG]; exact heap_alloc_new _ _
      have HL1 := Lib.hid (H.out.later hb1)
      have HB1 := Lib.hid hb1
      have HZ1 := Lib.hid hz1
      have K1' := Lib.hid (K1.out W1)
      have HSL := Lib.hid hsl
      have HVS := Lib.hid hlts
      have HG := Lib.hid hG
      clear hb1 hz1 hvs hsl hlts K1
      go_enter Tryz.func152, Tryz.ntmps152
      go_wp2_with fail
      rw [← hW1]
      clear hW1 hG m0 m1 m2 m3 m4 m5
      refine K1'.out.mono ?_
      rintro e w2 ⟨rfl, hb2⟩
      have hz2 : w2.heap[G]? = some (.cells #[.int .u64 (s.c.term : Int), .int .i64 s.c.vote, .int .u64 (s.c.base : Int), .int .u64 (s.c.bterm : Int), .string s.c.state, .slice va s.c.ents.length vc] 116 (0, 0)) := by rw [hb2.block _ (block_lt HZ1.out)]; exact HZ1.out
      obtain ⟨m0, m1, m2, m3, m4, m5⟩ := cells6 hz2
      have z2 : w2.frozen? ⟨G, 2, none⟩ = false := by simp [World.frozen?, hz2]
      have z3 : w2.frozen? ⟨G, 3, none⟩ = false := by simp [World.frozen?, hz2]
      have z4 : w2.frozen? ⟨G, 4, none⟩ = false := by simp [World.frozen?, hz2]
      have z5 : w2.frozen? ⟨G, 5, none⟩ = false := by simp [World.frozen?, hz2]
      obtain ⟨W3, hW3⟩ : ∃ W3, W3 = set4 w2 G (.int .u64 (i : Int)) (.int .u64 (t : Int)) (.string st) (.slice none 0 0) := ⟨_, rfl⟩
      have hs4 : Below w.heap.size w2 W3 := by rw [hW3]; exact set4_below (by have := HG.out; omega) _ _ _ _
      have hb3 : Below w.heap.size w W3 := (HB1.out.trans (hb2.mono HB1.out.size)).trans hs4
      have hr3 : RebAt w G lb db (.slice va s.c.ents.length vc) dv s i t st (nx := { nx with ents := [] }) (.slice none 0 0) W3 :=
        ⟨H.out.later hb3, by rw [hW3]; exact set4_heap hz2 _ _ _ _, EOwn.nil _ _, (fun j hj => by simp [Value.ownBlock] at hj), hb3⟩
      unfold set4 at hW3
      have K2' := Lib.hid (K2.out W3 hr3.log)
      have HR3 := Lib.hid hr3
      clear hb2 hz2 hs4 hb3 hr3 K1' K2 HL1 HB1 HZ1
      go_wp2_with fail
      rw [← hW3]
      clear hW3 m0 m1 m2 m3 m4 m5 z2 z3 z4 z5
      refine K2'.out.mono ?_
      rintro e w4 ⟨rfl, hb4⟩
      have hr4 := HR3.out.later hb4
      have HR : Hid (RebAt w G lb db (.slice va s.c.ents.length vc) dv s i t st nx (.slice none 0 0) w4) := Lib.hid ⟨hr4.log, hr4.loc, by rw [hnil]; exact EOwn.nil _ _, hr4.low, hr4.below⟩
      clear hb4 hr4 K2' HR3 hnil
      have K6' := Lib.hid (K6.out w4 _ HR.out.own)
      obtain ⟨m0, m1, m2, m3, m4, m5⟩ := cells6 HR.out.loc
      clear K6
      go_wp2_with fail
      refine K6'.out.mono ?_
      rintro e w7 ⟨rfl, hb7⟩
      have hr7 := HR.out.later hb7
      have K7' := Lib.hid (K7.out w7 hr7.log)
      have HR7 := Lib.hid hr7
      clear hb7 hr7 K6' K7 HR m0 m1 m2 m3 m4 m5
      go_wp2_with fail
      refine K7'.out.mono ?_
      rintro e w8 ⟨rfl, dv8, hl8, hc8⟩
      obtain ⟨l1, l2, l3, l4⟩ := HVS.out
      have hsz7 := HR7.out.below.size
      have hG7 := block_lt HR7.out.loc
      have hGe := HG.out
      have hz8 : w8.heap[G]? = some (.cells #[.int .u64 (s.c.term : Int), .int .i64 s.c.vote, .int .u64 (i : Int), .int .u64 (t : Int), .string st, .slice none 0 0] 116 (0, 0)) := by
        rw [hc8.block G hG7 (by omega) (by omega) (fun e => by have := l3 _ e; omega) (fun e => by have := l4 _ e; omega)]; exact HR7.out.loc
      have ho8 : EOwn w8 0 (.slice none 0 0) nx.ents := HR7.out.own.mv fun k hk => by
        have h1 := HR7.out.low k hk
        have h2 := HR7.out.own.lt k hk
        exact hc8.block k h2 (by omega) (by omega) (fun e => by have := l3 _ e; omega) (fun e => by have := l4 _ e; omega)
      have HC8 := Lib.hid ((LCh.ofBelow lb db (.slice va s.c.ents.length vc) dv HR7.out.below).trans hc8)
      have HLOW := Lib.hid HR7.out.low
      have HO8 := Lib.hid ho8
      have HL8 := Lib.hid hl8
      obtain ⟨m0, m1, m2, m3, m4, m5⟩ := cells6 hz8
      obtain ⟨p0, p1, p2, p3, p4, p5⟩ := CtAt.cells hl8.log
      obtain ⟨p6, p7, p8⟩ := hl8.log.more
      have z := CtAt.free hl8.log
      have z0 := z 0
      have z1 := z 1
      have z2 := z 2
      have z3 := z 3
      have z4 := z 4
      have z5 := z 5
      have z7 := z 7
      have HNE : Hid ((Value.ownBlock (.slice none 0 0)) ≠ some lb) := Lib.hid (fun e => by have := HLOW.out _ e; omega)
      clear z hl8 hc8 hz8 ho8 hsz7 hG7 hGe l1 l2 l3 l4 HR7 K7' p6 p8
      cases ok
      · clear m0 m1 m2 m3 m4 m5 p0 p1 p2 p3 p4 p5 z0 z1 z2 z3 z4 z5
        go_wp2_with fail
        go_ret
        exact ⟨rfl, LO.of (HL8.out.set7 true) (HC8.out.trans (LCh.cell lb db _ _ _ 7 _))⟩
      · have hfin := LO.of (HPUT.out w8 _ s2 dv8 HL8.out HO8.out HNE.out) (HC8.out.put (c2 := ⟨s.c.term, s.c.vote, i, t, st, nx.ents⟩) HLOW.out)
        unfold setC at hfin
        dsimp only at hfin
        have HFIN := Lib.hid hfin
        clear p7 z7 hfin HPUT HL8 HO8 HNE HC8 HLOW
        go_wp2_with fail
        go_ret
        exact ⟨rfl, HFIN.out⟩
end
end Go.Proofs.YtflkdgghpmhbgaaGreat
namespace Go.Proofs.YtflkdgghpmhbgaaGreat
open Go.RowKit

section
variable {w : World} {lb db room : Nat} {dn : Bool} {v : Value} {c : CT}
set_option maxRecDepth 100000 in
theorem gterm_prog (h : LgAt w lb db dn room v c) : Calls Tryz.prog 28 #[.pointer (some ⟨lb, 0, none⟩)] w fun e w' => e = .returned (.int .u64 (c.term : Int)) ∧ w' = w := by
  obtain ⟨m0, m1, m2, m3, m4, m5⟩ := CtAt.cells h
  clear h m1 m2 m3 m4 m5
  go_enter Tryz.func28, Tryz.ntmps28
  go_wp2_with fail
  go_ret
  exact ⟨rfl, rfl⟩
set_option maxRecDepth 100000 in
theorem gvote_prog (h : LgAt w lb db dn room v c) : Calls Tryz.prog 98 #[.pointer (some ⟨lb, 0, none⟩)] w fun e w' => e = .returned (.int .i64 c.vote) ∧ w' = w := by
  obtain ⟨m0, m1, m2, m3, m4, m5⟩ := CtAt.cells h
  clear h m0 m2 m3 m4 m5
  go_enter Tryz.func98, Tryz.ntmps98
  go_wp2_with fail
  go_ret
  exact ⟨rfl, rfl⟩
set_option maxRecDepth 100000 in
theorem gbase_prog (h : LgAt w lb db dn room v c) : Calls Tryz.prog 30 #[.pointer (some ⟨lb, 0, none⟩)] w fun e w' => e = .returned (.tuple #[.int .u64 (c.base : Int), .int .u64 (c.bterm : Int), .string c.state]) ∧ Same w w' := by
  obtain ⟨m0, m1, m2, m3, m4, m5⟩ := CtAt.cells h
  clear h m0 m1 m5
  go_enter Tryz.func30, Tryz.ntmps30
  go_wp2_with fail
  go_quiet (fail)
  go_wp2_with fail
  go_ret3
  exact ⟨rfl, _, rfl⟩
set_option maxRecDepth 100000 in
theorem glast_prog (h : LgAt w lb db dn room v c) (hl : c.ents.length ≤ 10000000000) : Calls Tryz.prog 31 #[.pointer (some ⟨lb, 0, none⟩)] w fun e w' => e = .returned (.int .u64 (c.lastN : Int)) ∧ Same w w' := by
  have K := Lib.hid (last_prog lb v c w h hl)
  clear h hl
  go_enter Tryz.func31, Tryz.ntmps31
  go_wp2_with fail
  refine K.out.mono ?_
  rintro e w1 ⟨rfl, hs⟩
  go_wp2_with fail
  go_ret
  exact ⟨rfl, hs⟩
set_option maxRecDepth 100000 in
theorem gtermAt_prog (i : Nat) (h : LgAt w lb db dn room v c) (hl : c.ents.length ≤ 10000000000) (hc : c.base + c.ents.length < m64) : Calls Tryz.prog 100 #[.pointer (some ⟨lb, 0, none⟩), .int .u64 (i : Int)] w fun e w' => e = .returned (.tuple #[numV (c.termAt i), .bool (c.termAt i).isSome]) ∧ Below w.heap.size w w' := by
  have K := Lib.hid (termAt_prog lb v c i w h hl hc)
  obtain ⟨x, hx⟩ : ∃ x, c.termAt i = x := ⟨_, rfl⟩
  rw [hx] at K ⊢
  clear h hl hc hx
  cases x
  all_goals
    unfold numV at K ⊢
    go_enter Tryz.func100, Tryz.ntmps100
    go_wp2_with fail
    refine K.out.mono ?_
    rintro e w1 ⟨rfl, hb⟩
    have HB := Lib.hid hb
    clear hb
    go_wp2_with fail
    go_ret2
    exact ⟨rfl, HB.out⟩
theorem results_ent {tmps : Array Value} {w : World} {H : Nat} {cs : Array Value} {x : Value} (h2 : tmps.getD 4 undef = .pointer (some ⟨H, 0, none⟩)) (h3 : tmps.getD 5 undef = x)
    (hg : w.heap[H]? = some (.cells cs 70 (0, 0))) (hs : cs.size = 2) : (results Tryz.f32 tmps).run Tryz.prog w = .ok (.tuple #[.agg cs, x]) w := by
  have hi : (Tryz.prog.info? 70).map (·.size) = some cs.size := by rw [hs]; kernel_rfl
  rw [results_cell_tmp rfl, h2, h3]
  simp [asAddr, Result.andThen, run_loadVar_row w H 70 70 cs (0, 0) _ hg Tryz.underlying70 rfl hi]
set_option maxRecDepth 100000 in
theorem gat_prog (i : Nat) (h : LgAt w lb db dn room v c) (hl : c.ents.length ≤ 10000000000) (hc : c.base + c.ents.length < m64) : Calls Tryz.prog 32 #[.pointer (some ⟨lb, 0, none⟩), .int .u64 (i : Int)] w fun e w' => e = .returned (.tuple #[entV (c.at i), .bool (c.at i).isSome]) ∧ Below w.heap.size w w' := by
  have h0 := CtAt.later h ((Below.refl _ _).alloc (Nat.le_refl _) (.cells #[.int .u64 0, .string ⟨#[]⟩] 70))
  have K := Lib.hid (at_prog lb v c i _ h0 hl hc)
  obtain ⟨x, hx⟩ : ∃ x, c.at i = x := ⟨_, rfl⟩
  rw [hx] at K ⊢
  clear h hl hc hx h0
  have go : ∀ (t : Nat) (q : ByteArray) (bl : Bool), Calls Tryz.prog 81 #[.pointer (some ⟨lb, 0, none⟩), .int .u64 (i : Int)] (w.alloc (.cells #[.int .u64 0, .string ⟨#[]⟩] 70)) (fun e w' => e = .returned (.tuple #[.agg #[.int .u64 (t : Int), .string q], .bool bl]) ∧ Below (w.alloc (.cells #[.int .u64 0, .string ⟨#[]⟩] 70)).heap.size (w.alloc (.cells #[.int .u64 0, .string ⟨#[]⟩] 70)) w') →
      Calls Tryz.prog 32 #[.pointer (some ⟨lb, 0, none⟩), .int .u64 (i : Int)] w fun e w' => e = .returned (.tuple #[.agg #[.int .u64 (t : Int), .string q], .bool bl]) ∧ Below w.heap.size w w' := by
    intro t q bl hk
    have HK := Lib.hid hk
    clear hk K x
    go_enter Tryz.func32, Tryz.ntmps32
    go_wp2_with fail
    refine HK.out.mono ?_
    rintro e w1 ⟨rfl, hb⟩
    have hblk : w1.heap[w.heap.size]? = some (.cells #[.int .u64 0, .string ⟨#[]⟩] 70 (0, 0)) := by rw [hb.block _ (by simp)]; exact heap_alloc_new _ _
    have c0 : w1.cell? ⟨w.heap.size, 0, none⟩ = some (.int .u64 0) := by simp [World.cell?, hblk]
    have c1 : w1.cell? ⟨w.heap.size, 1, none⟩ = some (.string ⟨#[]⟩) := by simp [World.cell?, hblk]
    have z0 : w1.frozen? ⟨w.heap.size, 0, none⟩ = false := by simp [World.frozen?, hblk]
    have z1 : w1.frozen? ⟨w.heap.size, 1, none⟩ = false := by simp [World.frozen?, hblk]
    have hb1 := (((Below.refl w.heap.size w).alloc (Nat.le_refl _) (.cells #[.int .u64 0, .string ⟨#[]⟩] 70)).trans (hb.mono (by simp)))
    have HB := Lib.hid hb1
    have HBL := Lib.hid (heap_setCell_same _ w.heap.size 1 _ _ (.string q) (heap_setCell_same w1 w.heap.size 0 _ _ (.int .u64 (t : Int)) hblk))
    clear hb hblk hb1
    go_wp2_with fail
    exact bodyPost_ret (results_ent rfl rfl HBL.out rfl) rfl ⟨rfl, (HB.out.setCell (Nat.le_refl _) _).setCell (Nat.le_refl _) _⟩
  cases x with
  | none => exact go 0 ⟨#[]⟩ false K.out
  | some y => exact go y.1 y.2 true K.out
end
end Go.Proofs.YtflkdgghpmhbgaaGreat
namespace Go.Proofs.YtflkdgghpmhbgaaGreat
open Go.RowKit

def LgS.compact (s : LgS) (i : Nat) (st : ByteArray) : LgS × Int := if (s.dn || s.d.dn) = true then (s.down, 3) else match s.c.termAt i with
  | none => (s.down, 1)
  | some t => s.down.rebase i t st
def LgS.install (s : LgS) (i t : Nat) (st : ByteArray) : LgS × Int := if (s.dn || s.d.dn) = true then (s.down, 3) else if i < s.c.base ∨ (i = s.c.base ∧ t ≠ s.c.bterm) then (s.down, 1) else s.down.rebase i t st
section
variable {w w' : World} {lb db : Nat} {v dv v' dv' : Value} {s : LgS}
theorem termAt_lt {c : CT} {i t : Nat} (h : c.Ok) (ht : c.termAt i = some t) : t < m64 := by
  unfold CT.termAt at ht
  split at ht
  · injection ht with e; rw [← e]; exact h.bterm
  · cases hx : c.at i with
    | none => rw [hx] at ht; cases ht
    | some x =>
      rw [hx] at ht
      injection ht with e
      rw [← e]
      unfold CT.at at hx
      split at hx
      · cases hx
      · exact (h.ents x (List.mem_of_getElem? hx)).1
set_option maxHeartbeats 1000000 in
set_option maxRecDepth 100000 in
theorem hcompact_prog (h : LW w lb db v dv s) (hf : s.Fit) (i : Nat) (st : ByteArray) (hi : i < m64) (hst : st.size ≤ 100000000) :
    Calls Tryz.prog 115 #[.pointer (some ⟨lb, 0, none⟩), .int .u64 (i : Int), .string st] w fun e w' => e = .returned (.int .i64 (s.compact i st).2) ∧ LO lb db v dv w (s.compact i st).1 w' := by
  have hfew := ents_few hf.whole
  have K1 := Lib.hid (hdown_prog h)
  have K2 := Lib.hid (fun W (hW : LW W lb db v dv s.down) => gtermAt_prog i hW.log (by show s.c.ents.length ≤ 10000000000; omega) hf.ok.base)
  have K3 := Lib.hid (fun t (ht : t < m64) W (hW : LW W lb db v dv s.down) => hrebase_prog hW hf.down i t st hi ht hst)
  have HT := Lib.hid (fun t (ht : s.c.termAt i = some t) => termAt_lt hf.ok ht)
  have e1 : s.compact i st = if (s.dn || s.d.dn) = true then (s.down, 3) else match s.c.termAt i with
    | none => (s.down, 1)
    | some t => s.down.rebase i t st := rfl
  rw [e1]
  have e2 : s.down.c.termAt i = s.c.termAt i := rfl
  rw [e2] at K2
  obtain ⟨s1, h1⟩ : ∃ s1, s.down = s1 := ⟨_, rfl⟩
  rw [h1] at K1 K2 K3 ⊢
  obtain ⟨dn, hdn⟩ : ∃ dn, (s.dn || s.d.dn) = dn := ⟨_, rfl⟩
  obtain ⟨x, hx⟩ : ∃ x, s.c.termAt i = x := ⟨_, rfl⟩
  rw [hdn] at K1 ⊢
  rw [hx] at K2 HT ⊢
  clear h hf hi hst e1 e2 h1 hdn hx hfew
  cases dn
  · cases x with
    | none =>
      clear K3 HT
      unfold numV at K2
      go_enter Tryz.func115, Tryz.ntmps115
      go_wp2_with fail
      refine K1.out.mono ?_
      rintro e w1 ⟨rfl, hl1, hc1⟩
      have K2' := Lib.hid (K2.out w1 hl1)
      have HL1 := Lib.hid hl1
      have HC1 := Lib.hid (LCh.ofLog db dv hc1)
      clear hl1 hc1 K1 K2
      go_wp2_with fail
      refine K2'.out.mono ?_
      rintro e w2 ⟨rfl, hb2⟩
      have HL2 := Lib.hid (HL1.out.later hb2)
      have HC2 := Lib.hid (HC1.out.trans (LCh.ofBelow lb db v dv hb2))
      clear hb2 K2'
      go_wp2_with fail
      go_ret
      exact ⟨rfl, LO.of HL2.out HC2.out⟩
    | some t =>
      have K3' := Lib.hid (K3.out t (HT.out t rfl))
      dsimp only
      obtain ⟨⟨s2, q⟩, hR⟩ : ∃ R, s1.rebase i t st = R := ⟨_, rfl⟩
      rw [hR] at K3' ⊢
      dsimp only at K3'
      clear K3 HT hR
      unfold numV at K2
      go_enter Tryz.func115, Tryz.ntmps115
      go_wp2_with fail
      refine K1.out.mono ?_
      rintro e w1 ⟨rfl, hl1, hc1⟩
      have K2' := Lib.hid (K2.out w1 hl1)
      have HL1 := Lib.hid hl1
      have HC1 := Lib.hid (LCh.ofLog db dv hc1)
      clear hl1 hc1 K1 K2
      go_wp2_with fail
      refine K2'.out.mono ?_
      rintro e w2 ⟨rfl, hb2⟩
      have K4 := Lib.hid (K3'.out w2 (HL1.out.later hb2))
      have HC2 := Lib.hid (HC1.out.trans (LCh.ofBelow lb db v dv hb2))
      clear hb2 K2' K3'
      go_wp2_with fail
      refine K4.out.mono ?_
      rintro e w4 ⟨rfl, ho4⟩
      have HO4 := Lib.hid ho4
      clear ho4 K4
      go_wp2_with fail
      go_ret
      exact ⟨rfl, LO.trans HC2.out HO4.out⟩
  · clear K2 K3 HT
    go_enter Tryz.func115, Tryz.ntmps115
    go_wp2_with fail
    refine K1.out.mono ?_
    rintro e w1 ⟨rfl, hl1, hc1⟩
    have HL1 := Lib.hid hl1
    have HC1 := Lib.hid (LCh.ofLog db dv hc1)
    clear hl1 hc1 K1
    go_wp2_with fail
    go_ret
    exact ⟨rfl, LO.of HL1.out HC1.out⟩

set_option maxHeartbeats 1000000 in
set_option maxRecDepth 100000 in
theorem hinstall_prog (h : LW w lb db v dv s) (hf : s.Fit) (i t : Nat) (st : ByteArray) (hi : i < m64) (ht : t < m64) (hst : st.size ≤ 100000000) :
    Calls Tryz.prog 155 #[.pointer (some ⟨lb, 0, none⟩), .int .u64 (i : Int), .int .u64 (t : Int), .string st] w fun e w' => e = .returned (.int .i64 (s.install i t st).2) ∧ LO lb db v dv w (s.install i t st).1 w' := by
  have K1 := Lib.hid (hdown_prog h)
  have K3 := Lib.hid (fun W (hW : LW W lb db v dv s.down) => hrebase_prog hW hf.down i t st hi ht hst)
  have HM : Hid (∀ W, LW W lb db v dv s.down → W.cell? ⟨lb, 2, none⟩ = some (.int .u64 (s.c.base : Int)) ∧ W.cell? ⟨lb, 3, none⟩ = some (.int .u64 (s.c.bterm : Int))) := Lib.hid (fun W hW => ⟨(CtAt.cells hW.log).2.2.1, (CtAt.cells hW.log).2.2.2.1⟩)
  have e1 : s.install i t st = if (s.dn || s.d.dn) = true then (s.down, 3) else if i < s.c.base ∨ (i = s.c.base ∧ t ≠ s.c.bterm) then (s.down, 1) else s.down.rebase i t st := rfl
  rw [e1]
  obtain ⟨s1, h1⟩ : ∃ s1, s.down = s1 := ⟨_, rfl⟩
  rw [h1] at K1 K3 HM ⊢
  obtain ⟨dn, hdn⟩ : ∃ dn, (s.dn || s.d.dn) = dn := ⟨_, rfl⟩
  rw [hdn] at K1 ⊢
  obtain ⟨b, hb⟩ : ∃ b, s.c.base = b := ⟨_, rfl⟩
  obtain ⟨bt, hbt⟩ : ∃ bt, s.c.bterm = bt := ⟨_, rfl⟩
  rw [hb, hbt] at HM ⊢
  obtain ⟨⟨s2, q⟩, hR⟩ : ∃ R, s1.rebase i t st = R := ⟨_, rfl⟩
  rw [hR] at K3 ⊢
  dsimp only at K3
  clear h hf hi ht hst e1 h1 hdn hb hbt hR
  cases dn
  · rcases Nat.lt_trichotomy i b with h1 | h1 | h1
    · have hI : (i : Int) < (b : Int) := by omega
      rw [if_neg (by simp), if_pos (.inl h1)]
      clear K3 h1
      go_enter Tryz.func155, Tryz.ntmps155
      go_wp2_with fail
      refine K1.out.mono ?_
      rintro e w1 ⟨rfl, hl1, hc1⟩
      obtain ⟨m2, m3⟩ := HM.out w1 hl1
      have HL1 := Lib.hid hl1
      have HC1 := Lib.hid (LCh.ofLog db dv hc1)
      clear hl1 hc1 K1
      go_wp2_with fail
      go_ret
      exact ⟨rfl, LO.of HL1.out HC1.out⟩
    · subst h1
      have hI : ¬ (i : Int) < (i : Int) := by omega
      by_cases h2 : t = bt
      · subst h2
        rw [if_neg (by simp), if_neg (by rintro (h | ⟨_, h⟩); exact absurd h (Nat.lt_irrefl _); exact h rfl)]
        go_enter Tryz.func155, Tryz.ntmps155
        go_wp2_with fail
        refine K1.out.mono ?_
        rintro e w1 ⟨rfl, hl1, hc1⟩
        obtain ⟨m2, m3⟩ := HM.out w1 hl1
        have K4 := Lib.hid (K3.out w1 hl1)
        have HC1 := Lib.hid (LCh.ofLog db dv hc1)
        clear hl1 hc1 K1 K3
        go_wp2_with fail
        refine K4.out.mono ?_
        rintro e w4 ⟨rfl, ho4⟩
        have HO4 := Lib.hid ho4
        clear ho4 K4
        go_wp2_with fail
        go_ret
        exact ⟨rfl, LO.trans HC1.out HO4.out⟩
      · have h2I : ((t : Int) != (bt : Int)) = true := by simp; omega
        have h2J : ((t : Int) == (bt : Int)) = false := by simp; omega
        rw [if_neg (by simp), if_pos (.inr ⟨rfl, h2⟩)]
        clear K3
        go_enter Tryz.func155, Tryz.ntmps155
        go_wp2_with fail
        refine K1.out.mono ?_
        rintro e w1 ⟨rfl, hl1, hc1⟩
        obtain ⟨m2, m3⟩ := HM.out w1 hl1
        have HL1 := Lib.hid hl1
        have HC1 := Lib.hid (LCh.ofLog db dv hc1)
        clear hl1 hc1 K1 h2
        go_wp2_with fail
        go_ret
        exact ⟨rfl, LO.of HL1.out HC1.out⟩
    · have hI : ¬ (i : Int) < (b : Int) := by omega
      have hJ : ((i : Int) == (b : Int)) = false := by simp; omega
      rw [if_neg (by simp), if_neg (by omega)]
      clear h1
      go_enter Tryz.func155, Tryz.ntmps155
      go_wp2_with fail
      refine K1.out.mono ?_
      rintro e w1 ⟨rfl, hl1, hc1⟩
      obtain ⟨m2, m3⟩ := HM.out w1 hl1
      have K4 := Lib.hid (K3.out w1 hl1)
      have HC1 := Lib.hid (LCh.ofLog db dv hc1)
      clear hl1 hc1 K1 K3
      go_wp2_with fail
      refine K4.out.mono ?_
      rintro e w4 ⟨rfl, ho4⟩
      have HO4 := Lib.hid ho4
      clear ho4 K4
      go_wp2_with fail
      go_ret
      exact ⟨rfl, LO.trans HC1.out HO4.out⟩
  · clear K3
    go_enter Tryz.func155, Tryz.ntmps155
    go_wp2_with fail
    refine K1.out.mono ?_
    rintro e w1 ⟨rfl, hl1, hc1⟩
    have HL1 := Lib.hid hl1
    have HC1 := Lib.hid (LCh.ofLog db dv hc1)
    clear hl1 hc1 K1
    go_wp2_with fail
    go_ret
    exact ⟨rfl, LO.of HL1.out HC1.out⟩
end
end Go.Proofs.YtflkdgghpmhbgaaGreat
