/- net: Take. -/
import Derived.Test.YtgdlnjhbencjkaaNAt
namespace Go.Proofs.Ytgdlnjhbencjkaa
open Go.RowKit
theorem drew_heap (X : World) : X.drew.heap = X.heap := rfl
theorem Below.drewR {B : Nat} {a b : World} (h : Below B a b) : Below B a b.drew := h.trans (Below.refl _ _).drew
theorem NW.set10 {w : World} {nb : Nat} {v : Value} {all : Nat} {l : List (Nat × Mg)} {G : Nat} {cs : Array Value} (h : NW w nb v all l) (hB : NB w v G) (hg : w.heap[G]? = some (.cells cs 32 (0, 0))) (b0 b1 b2 b3 b4 b5 b6 b7 b8 b9 : Value) :
    NW (set10 w G b0 b1 b2 b3 b4 b5 b6 b7 b8 b9) nb v all l := by
  have ho := set10_other w G b0 b1 b2 b3 b4 b5 b6 b7 b8 b9
  obtain ⟨q, h1, h2, h3⟩ := h.way
  refine ⟨(ho nb (ty_ne h.net hg (by decide))).trans h.net, q, h1.mv fun k hk => ho k (by obtain ⟨c, hc⟩ := h1.typ k hk; exact ty_ne hc hg (by decide)), h2, fun i x hx => ?_⟩
  obtain ⟨m, e1, ev, e2, e3⟩ := h3 i x hx
  have hlt := hB q h1 x (List.mem_of_getElem? hx)
  exact ⟨m, e1, ev, (ho x.2 (by omega)).trans e2, e3.mv fun k hk => ho k (by obtain ⟨c, hc⟩ := e3.typ k hk; exact ty_ne hc hg (by decide))⟩
theorem NCh.set10 {w w2 : World} {nb : Nat} {v v2 : Value} {G : Nat} (h : NCh nb v w w2 v2) (hG : w.heap.size ≤ G) (b0 b1 b2 b3 b4 b5 b6 b7 b8 b9 : Value) : NCh nb v w (set10 w2 G b0 b1 b2 b3 b4 b5 b6 b7 b8 b9) v2 := by
  have hb := set10_below (w := w2) (Nat.le_refl G) b0 b1 b2 b3 b4 b5 b6 b7 b8 b9
  exact ⟨hb.os.trans h.os, hb.tape.trans h.tape, hb.output.trans h.output, Nat.le_trans h.size hb.size, fun j hj h1 h2 => (set10_other w2 G b0 b1 b2 b3 b4 b5 b6 b7 b8 b9 j (by omega)).trans (h.block j hj h1 h2), h.loc⟩
section
variable {w : World} {nb : Nat} {v : Value} {all : Nat} {l : List (Nat × Mg)}
set_option maxHeartbeats 4000000 in
set_option maxRecDepth 100000 in
theorem take_no (h : NW w nb v all l) (i : Int) (hi : ¬ (0 ≤ i ∧ i < (l.length : Int))) :
    Calls Try.prog 13 #[.pointer (some ⟨nb, 0, none⟩), .int .i64 i] w fun e w' => e = .returned (.tuple #[.agg (mgL mgNil (.slice none 0 0)).toArray, .bool false]) ∧ Below w.heap.size w w' := by
  obtain ⟨W0, hW0⟩ : ∃ W0, W0 = w.alloc (.cells #[.int .i64 0, .int .i64 0, .int .i64 0, .int .u64 0, .int .u64 0, .int .u64 0, .int .u64 0, .bool false, .slice none 0 0, .string ⟨#[]⟩] 32) := ⟨_, rfl⟩
  have hb0 : Below w.heap.size w W0 := by rw [hW0]; exact (Below.refl _ _).alloc (Nat.le_refl _) _
  have hz0 : W0.heap[w.heap.size]? = some (.cells #[.int .i64 0, .int .i64 0, .int .i64 0, .int .u64 0, .int .u64 0, .int .u64 0, .int .u64 0, .bool false, .slice none 0 0, .string ⟨#[]⟩] 32 (0, 0)) := by rw [hW0]; exact heap_alloc_new _ _
  have K := Lib.hid (at_no (h.later hb0) i hi)
  have eM : (mgL mgNil (.slice none 0 0)).toArray = #[.int .i64 0, .int .i64 0, .int .i64 0, .int .u64 0, .int .u64 0, .int .u64 0, .int .u64 0, .bool false, .slice none 0 0, .string ⟨#[]⟩] := rfl
  rw [eM] at K ⊢
  have HZ := Lib.hid hz0
  have HB := Lib.hid hb0
  clear h hi eM hz0 hb0
  go_enter Try.func13, Try.ntmps13
  go_wp2_with fail
  simp only [← hW0]
  clear hW0
  refine K.out.mono ?_
  rintro e w1 ⟨rfl, hb1⟩
  have hz1 := block_kept HZ.out (block_lt HZ.out) hb1
  have HB1 := Lib.hid (HB.out.trans (hb1.mono HB.out.size))
  clear K hb1
  obtain ⟨W2, hW2⟩ : ∃ W2, W2 = w1.alloc (.cells #[.int .i64 0, .int .i64 0, .int .i64 0, .int .u64 0, .int .u64 0, .int .u64 0, .int .u64 0, .bool false, .slice none 0 0, .string ⟨#[]⟩] 32) := ⟨_, rfl⟩
  have hlt1 := block_lt hz1
  have hb2 : Below w1.heap.size w1 W2 := by rw [hW2]; exact (Below.refl _ _).alloc (Nat.le_refl _) _
  have hz2 := (hb2.block _ hlt1).trans hz1
  have hy2 : W2.heap[w1.heap.size]? = some (.cells #[.int .i64 0, .int .i64 0, .int .i64 0, .int .u64 0, .int .u64 0, .int .u64 0, .int .u64 0, .bool false, .slice none 0 0, .string ⟨#[]⟩] 32 (0, 0)) := by rw [hW2]; exact heap_alloc_new _ _
  obtain ⟨g0, g1, g2, g3, g4, g5, g6, g7, g8, g9⟩ := cells10 hz2
  obtain ⟨k0, k1, k2, k3, k4, k5, k6, k7, k8, k9⟩ := free10 hz2
  obtain ⟨y0, y1, y2, y3, y4, y5, y6, y7, y8, y9⟩ := cells10 hy2
  obtain ⟨f0, f1, f2, f3, f4, f5, f6, f7, f8, f9⟩ := free10 hy2
  have HZ2 := Lib.hid hz2
  have HB2 := Lib.hid (HB1.out.trans (hb2.mono HB1.out.size))
  have HNE := Lib.hid (show w.heap.size ≠ w1.heap.size by omega)
  have HY2 := Lib.hid hy2
  clear hz1 hlt1 hb2 hz2 hy2
  go_wp2_with fail
  simp only [← hW2]
  clear hW2
  go_region
  go_wp2_with fail
  obtain ⟨W5, hW5⟩ : ∃ W5, W5 = (set10 W2 w.heap.size (.int .i64 0) (.int .i64 0) (.int .i64 0) (.int .u64 0) (.int .u64 0) (.int .u64 0) (.int .u64 0) (.bool false) (.slice none 0 0) (.string ⟨#[]⟩)).drew := ⟨_, rfl⟩
  have hz5 : W5.heap[w.heap.size]? = some (.cells #[.int .i64 0, .int .i64 0, .int .i64 0, .int .u64 0, .int .u64 0, .int .u64 0, .int .u64 0, .bool false, .slice none 0 0, .string ⟨#[]⟩] 32 (0, 0)) := by rw [hW5, drew_heap]; exact set10_heap (w := W2) HZ2.out (.int .i64 0) (.int .i64 0) (.int .i64 0) (.int .u64 0) (.int .u64 0) (.int .u64 0) (.int .u64 0) (.bool false) (.slice none 0 0) (.string ⟨#[]⟩)
  have hb5 : Below w.heap.size w W5 := by rw [hW5]; exact Below.drewR (HB2.out.trans (set10_below (Nat.le_refl _) _ _ _ _ _ _ _ _ _ _))
  unfold set10 at hW5
  rw [← hW5]
  exact bodyPost_ret (results_take rfl rfl rfl hz5 rfl) rfl ⟨rfl, hb5⟩
set_option maxHeartbeats 8000000 in
set_option maxRecDepth 100000 in
theorem take_yes (h : NW w nb v all l) (i : Nat) (k : Nat) (m : Mg) (hi : l[i]? = some (k, m)) (hl : l.length < 1000000) (hm : m.ents.length ≤ 1000) :
    Calls Try.prog 13 #[.pointer (some ⟨nb, 0, none⟩), .int .i64 (i : Int)] w fun e w' => ∃ ev, e = .returned (.tuple #[.agg (mgL m ev).toArray, .bool true]) ∧ EOwn w' w.heap.size ev m.ents ∧ ∃ v', NW w' nb v' all (l.eraseIdx i) ∧ NCh nb v w w' v' := by
  obtain ⟨W0, hW0⟩ : ∃ W0, W0 = w.alloc (.cells #[.int .i64 0, .int .i64 0, .int .i64 0, .int .u64 0, .int .u64 0, .int .u64 0, .int .u64 0, .bool false, .slice none 0 0, .string ⟨#[]⟩] 32) := ⟨_, rfl⟩
  have hb0 : Below w.heap.size w W0 := by rw [hW0]; exact (Below.refl _ _).alloc (Nat.le_refl _) _
  have hz0 : W0.heap[w.heap.size]? = some (.cells #[.int .i64 0, .int .i64 0, .int .i64 0, .int .u64 0, .int .u64 0, .int .u64 0, .int .u64 0, .bool false, .slice none 0 0, .string ⟨#[]⟩] 32 (0, 0)) := by rw [hW0]; exact heap_alloc_new _ _
  have hil := (List.getElem?_eq_some_iff.1 hi).1
  have K := Lib.hid (at_yes (h.later hb0) i k m hi hm)
  have HD := Lib.hid (fun W (hW : NW W nb v all l) => drop_yes hW i hil hl)
  have H0 := Lib.hid (h.later hb0)
  have HZ := Lib.hid hz0
  have HB := Lib.hid hb0
  have HLT := Lib.hid h.nb
  obtain ⟨qq, hqq, _⟩ := h.way
  have HQQ := Lib.hid hqq
  unfold mgL at K ⊢
  clear h hi hz0 hb0 hil hl hm hqq
  go_enter Try.func13, Try.ntmps13
  go_wp2_with fail
  simp only [← hW0]
  clear hW0
  refine K.out.mono ?_
  rintro e w1 ⟨ev, rfl, ho1, hb1⟩
  have hz1 := block_kept HZ.out (block_lt HZ.out) hb1
  have HB1 := Lib.hid (HB.out.trans (hb1.mono HB.out.size))
  have H1 := Lib.hid (H0.out.later hb1)
  obtain ⟨ea, ec, rfl, _⟩ := ho1.shape
  have HO1 : Hid (EOwn w1 w.heap.size (.slice ea m.ents.length ec) m.ents) := Lib.hid (EOwn.base (B := W0.heap.size) ho1 (fun k hk => Nat.le_trans HB.out.size (EOwn.low (B := W0.heap.size) ho1 k hk)))
  clear K hb1 ho1 H0
  obtain ⟨W3, hW3⟩ : ∃ W3, W3 = w1.alloc (.cells #[.int .i64 m.kind, .int .i64 m.src, .int .i64 m.dst, .int .u64 (m.term : Int), .int .u64 (m.index : Int), .int .u64 (m.lterm : Int), .int .u64 (m.commit : Int), .bool m.ok, .slice ea m.ents.length ec, .string m.state] 32) := ⟨_, rfl⟩
  have hb3 : Below w1.heap.size w1 W3 := by rw [hW3]; exact (Below.refl _ _).alloc (Nat.le_refl _) _
  have hy3 : W3.heap[w1.heap.size]? = some (.cells #[.int .i64 m.kind, .int .i64 m.src, .int .i64 m.dst, .int .u64 (m.term : Int), .int .u64 (m.index : Int), .int .u64 (m.lterm : Int), .int .u64 (m.commit : Int), .bool m.ok, .slice ea m.ents.length ec, .string m.state] 32 (0, 0)) := by rw [hW3]; exact heap_alloc_new _ _
  have hlt1 := block_lt hz1
  have HNE := Lib.hid (show w.heap.size ≠ w1.heap.size by omega)
  have hz3 := (hb3.block _ hlt1).trans hz1
  have HB3 := Lib.hid (HB1.out.trans (hb3.mono HB1.out.size))
  have H3 := Lib.hid (H1.out.later hb3)
  have HO3 := Lib.hid (HO1.out.later hb3)
  clear HO1 H1 hz1 hlt1 hb3 HB1
  go_wp2_with fail
  simp only [← hW3]
  clear hW3
  obtain ⟨g0, g1, g2, g3, g4, g5, g6, g7, g8, g9⟩ := cells10 hz3
  obtain ⟨k0, k1, k2, k3, k4, k5, k6, k7, k8, k9⟩ := free10 hz3
  obtain ⟨y0, y1, y2, y3, y4, y5, y6, y7, y8, y9⟩ := cells10 hy3
  have HY3 := Lib.hid hy3
  have HZ3 := Lib.hid hz3
  have HC0 : Hid (W3.cell? ⟨w1.heap.size, 0, none⟩ = some (.int .i64 m.kind) ∧ W3.cell? ⟨w1.heap.size, 1, none⟩ = some (.int .i64 m.src) ∧ W3.cell? ⟨w1.heap.size, 2, none⟩ = some (.int .i64 m.dst) ∧ W3.cell? ⟨w1.heap.size, 3, none⟩ = some (.int .u64 (m.term : Int)) ∧ W3.cell? ⟨w1.heap.size, 4, none⟩ = some (.int .u64 (m.index : Int)) ∧ W3.cell? ⟨w1.heap.size, 5, none⟩ = some (.int .u64 (m.lterm : Int)) ∧ W3.cell? ⟨w1.heap.size, 6, none⟩ = some (.int .u64 (m.commit : Int)) ∧ W3.cell? ⟨w1.heap.size, 7, none⟩ = some (.bool m.ok) ∧ W3.cell? ⟨w1.heap.size, 8, none⟩ = some (.slice ea m.ents.length ec) ∧ W3.cell? ⟨w1.heap.size, 9, none⟩ = some (.string m.state)) := Lib.hid ⟨y0, y1, y2, y3, y4, y5, y6, y7, y8, y9⟩
  have HC1 : Hid (W3.drew.cell? ⟨w1.heap.size, 0, none⟩ = some (.int .i64 m.kind) ∧ W3.drew.cell? ⟨w1.heap.size, 1, none⟩ = some (.int .i64 m.src) ∧ W3.drew.cell? ⟨w1.heap.size, 2, none⟩ = some (.int .i64 m.dst) ∧ W3.drew.cell? ⟨w1.heap.size, 3, none⟩ = some (.int .u64 (m.term : Int)) ∧ W3.drew.cell? ⟨w1.heap.size, 4, none⟩ = some (.int .u64 (m.index : Int)) ∧ W3.drew.cell? ⟨w1.heap.size, 5, none⟩ = some (.int .u64 (m.lterm : Int)) ∧ W3.drew.cell? ⟨w1.heap.size, 6, none⟩ = some (.int .u64 (m.commit : Int)) ∧ W3.drew.cell? ⟨w1.heap.size, 7, none⟩ = some (.bool m.ok) ∧ W3.drew.cell? ⟨w1.heap.size, 8, none⟩ = some (.slice ea m.ents.length ec) ∧ W3.drew.cell? ⟨w1.heap.size, 9, none⟩ = some (.string m.state)) := Lib.hid ⟨y0, y1, y2, y3, y4, y5, y6, y7, y8, y9⟩
  have HD3 := Lib.hid (HD.out W3.drew (H3.out.later (Below.refl _ _).drew))
  clear hz3 hy3 HD
  go_region_held3 (fun w' => w'.cell? ⟨w1.heap.size, 0, none⟩ = some (.int .i64 m.kind) ∧ w'.cell? ⟨w1.heap.size, 1, none⟩ = some (.int .i64 m.src) ∧ w'.cell? ⟨w1.heap.size, 2, none⟩ = some (.int .i64 m.dst) ∧ w'.cell? ⟨w1.heap.size, 3, none⟩ = some (.int .u64 (m.term : Int)) ∧ w'.cell? ⟨w1.heap.size, 4, none⟩ = some (.int .u64 (m.index : Int)) ∧ w'.cell? ⟨w1.heap.size, 5, none⟩ = some (.int .u64 (m.lterm : Int)) ∧ w'.cell? ⟨w1.heap.size, 6, none⟩ = some (.int .u64 (m.commit : Int)) ∧ w'.cell? ⟨w1.heap.size, 7, none⟩ = some (.bool m.ok) ∧ w'.cell? ⟨w1.heap.size, 8, none⟩ = some (.slice ea m.ents.length ec) ∧ w'.cell? ⟨w1.heap.size, 9, none⟩ = some (.string m.state))
    (first | with_reducible exact HC0.out | with_reducible exact HC1.out | with_reducible exact hcs | with_reducible exact ⟨set10_cellN hcs.1 HNE.out.symm _ _ _ _ _ _ _ _ _ _, set10_cellN hcs.2.1 HNE.out.symm _ _ _ _ _ _ _ _ _ _, set10_cellN hcs.2.2.1 HNE.out.symm _ _ _ _ _ _ _ _ _ _, set10_cellN hcs.2.2.2.1 HNE.out.symm _ _ _ _ _ _ _ _ _ _, set10_cellN hcs.2.2.2.2.1 HNE.out.symm _ _ _ _ _ _ _ _ _ _, set10_cellN hcs.2.2.2.2.2.1 HNE.out.symm _ _ _ _ _ _ _ _ _ _, set10_cellN hcs.2.2.2.2.2.2.1 HNE.out.symm _ _ _ _ _ _ _ _ _ _, set10_cellN hcs.2.2.2.2.2.2.2.1 HNE.out.symm _ _ _ _ _ _ _ _ _ _, set10_cellN hcs.2.2.2.2.2.2.2.2.1 HNE.out.symm _ _ _ _ _ _ _ _ _ _, set10_cellN hcs.2.2.2.2.2.2.2.2.2 HNE.out.symm _ _ _ _ _ _ _ _ _ _⟩)
    ((go_at_call 17; refine HD3.out.mono ?_; rintro e w2 ⟨rfl, v2, hn2, hc2, hB2⟩; have hh3 := hc2.msgs (H3.out.later (Below.refl _ _).drew) _ _ _ HY3.out (by decide) (by decide); have hcs := cells10 (hh3.trans HY3.out); have hz4 := (hc2.msgs (H3.out.later (Below.refl _ _).drew) _ _ _ HZ3.out (by decide) (by decide)).trans HZ3.out; obtain ⟨t0, t1, t2, t3, t4, t5, t6, t7, t8, t9⟩ := cells10 hz4; obtain ⟨u0, u1, u2, u3, u4, u5, u6, u7, u8, u9⟩ := free10 hz4))
  have hze := hz4
  have hzE := (EOwn.mv HO3.out (w' := w2) (fun kk hk => by obtain ⟨cc, hcc⟩ := EOwn.typ HO3.out kk hk; exact hc2.msgs (H3.out.later (Below.refl _ _).drew) kk cc _ hcc (by decide) (by decide)))
  have hlo := EOwn.typ hzE
  have hc3 : NCh nb v w w2 v2 := ((NCh.ofBelow nb v HB3.out).trans (NCh.ofBelow nb v (Below.refl _ _).drew)).trans hc2
  have hBG := hB2 w.heap.size (HLT.out.later HQQ.out (fun k hk => HB3.out.block k (HQQ.out.lt k hk)))
  clear hc2 hh3 hB2
  obtain ⟨W5, hW5⟩ : ∃ W5, W5 = set10 w2 w.heap.size (.int .i64 m.kind) (.int .i64 m.src) (.int .i64 m.dst) (.int .u64 (m.term : Int)) (.int .u64 (m.index : Int)) (.int .u64 (m.lterm : Int)) (.int .u64 (m.commit : Int)) (.bool m.ok) (.slice ea m.ents.length ec) (.string m.state) := ⟨_, rfl⟩
  have hz5 : W5.heap[w.heap.size]? = some (.cells #[.int .i64 m.kind, .int .i64 m.src, .int .i64 m.dst, .int .u64 (m.term : Int), .int .u64 (m.index : Int), .int .u64 (m.lterm : Int), .int .u64 (m.commit : Int), .bool m.ok, .slice ea m.ents.length ec, .string m.state] 32 (0, 0)) := by rw [hW5]; exact set10_heap hze (.int .i64 m.kind) (.int .i64 m.src) (.int .i64 m.dst) (.int .u64 (m.term : Int)) (.int .u64 (m.index : Int)) (.int .u64 (m.lterm : Int)) (.int .u64 (m.commit : Int)) (.bool m.ok) (.slice ea m.ents.length ec) (.string m.state)
  have hE5 : EOwn W5 w.heap.size (.slice ea m.ents.length ec) m.ents := by rw [hW5]; exact hzE.mv fun kk hk => set10_other w2 w.heap.size (.int .i64 m.kind) (.int .i64 m.src) (.int .i64 m.dst) (.int .u64 (m.term : Int)) (.int .u64 (m.index : Int)) (.int .u64 (m.lterm : Int)) (.int .u64 (m.commit : Int)) (.bool m.ok) (.slice ea m.ents.length ec) (.string m.state) kk (by obtain ⟨cc, hcc⟩ := hlo kk hk; exact ty_ne hcc hze (by decide))
  have hN5 : NW W5 nb v2 all (l.eraseIdx i) := by rw [hW5]; exact hn2.set10 hBG hze (.int .i64 m.kind) (.int .i64 m.src) (.int .i64 m.dst) (.int .u64 (m.term : Int)) (.int .u64 (m.index : Int)) (.int .u64 (m.lterm : Int)) (.int .u64 (m.commit : Int)) (.bool m.ok) (.slice ea m.ents.length ec) (.string m.state)
  have hC5 : NCh nb v w W5 v2 := by rw [hW5]; exact hc3.set10 (Nat.le_refl _) (.int .i64 m.kind) (.int .i64 m.src) (.int .i64 m.dst) (.int .u64 (m.term : Int)) (.int .u64 (m.index : Int)) (.int .u64 (m.lterm : Int)) (.int .u64 (m.commit : Int)) (.bool m.ok) (.slice ea m.ents.length ec) (.string m.state)
  unfold set10 at hW5
  clear hcs hzE hlo hc3 hBG hn2 hze
  go_wp2_with fail
  simp only [← hW5]
  exact bodyPost_ret (results_take rfl rfl rfl hz5 rfl) rfl ⟨_, rfl, hE5, v2, hN5, hC5⟩
end
end Go.Proofs.Ytgdlnjhbencjkaa
