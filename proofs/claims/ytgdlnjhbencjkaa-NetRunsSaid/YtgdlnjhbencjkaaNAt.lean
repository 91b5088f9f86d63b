/- net: At, Take. -/
import Derived.Test.YtgdlnjhbencjkaaNOps
import Derived.Laws.ResultCell
namespace Go.Proofs.Ytgdlnjhbencjkaa
open Go.RowKit

theorem results_at {f : Func} {k a b : Nat} {tmps : Array Value} {w : World} {H : Nat} {cs : Array Value} {x y : Value} (hf : f.results = #[.cell k 32, .tmp a, .tmp b]) (h2 : tmps.getD k undef = .pointer (some ⟨H, 0, none⟩)) (h3 : tmps.getD a undef = x) (h4 : tmps.getD b undef = y)
    (hg : w.heap[H]? = some (.cells cs 32 (0, 0))) (hs : cs.size = 10) : (results f tmps).run Try.prog w = .ok (.tuple #[.agg cs, x, y]) w := by
  have hi : (Try.prog.info? 32).map (·.size) = some cs.size := by rw [hs]; kernel_rfl
  have e2 : tmps[k]?.getD undef = .pointer (some ⟨H, 0, none⟩) := by simpa using h2
  have e3 : tmps[a]?.getD undef = x := by simpa using h3
  have e4 : tmps[b]?.getD undef = y := by simpa using h4
  simp only [results, hf]
  simp [e2, e3, e4, asAddr, Result.andThen, run_loadVar_row w H 32 32 cs (0, 0) _ hg Try.underlying32 rfl hi]
theorem results_take {f : Func} {k a : Nat} {tmps : Array Value} {w : World} {H : Nat} {cs : Array Value} {x : Value} (hf : f.results = #[.cell k 32, .tmp a]) (h2 : tmps.getD k undef = .pointer (some ⟨H, 0, none⟩)) (h3 : tmps.getD a undef = x)
    (hg : w.heap[H]? = some (.cells cs 32 (0, 0))) (hs : cs.size = 10) : (results f tmps).run Try.prog w = .ok (.tuple #[.agg cs, x]) w := by
  have hi : (Try.prog.info? 32).map (·.size) = some cs.size := by rw [hs]; kernel_rfl
  rw [results_cell_tmp hf, h2, h3]
  simp [asAddr, Result.andThen, run_loadVar_row w H 32 32 cs (0, 0) _ hg Try.underlying32 rfl hi]
/-- The message of nothing. -/
def mgNil : Mg := ⟨0, 0, 0, 0, 0, 0, 0, false, [], ⟨#[]⟩⟩
theorem set10_cell {w : World} {G b o : Nat} {u : Value} (h : w.cell? ⟨b, o, none⟩ = some u) (hne : b ≠ G) (b0 b1 b2 b3 b4 b5 b6 b7 b8 b9 : Value) : (set10 w G b0 b1 b2 b3 b4 b5 b6 b7 b8 b9).cell? ⟨b, o, none⟩ = some u := by
  rw [← h]; exact World.cell?_of_block (w := w) (a := ⟨b, o, none⟩) (set10_other w G b0 b1 b2 b3 b4 b5 b6 b7 b8 b9 b hne)
theorem set10_cellN {w : World} {G b o : Nat} {u : Value} (h : w.cell? ⟨b, o, none⟩ = some u) (hne : b ≠ G) (b0 b1 b2 b3 b4 b5 b6 b7 b8 b9 : Value) :
    ((((((((((w.setCell ⟨G, 0, none⟩ b0).setCell ⟨G, 1, none⟩ b1).setCell ⟨G, 2, none⟩ b2).setCell ⟨G, 3, none⟩ b3).setCell ⟨G, 4, none⟩ b4).setCell ⟨G, 5, none⟩ b5).setCell ⟨G, 6, none⟩ b6).setCell ⟨G, 7, none⟩ b7).setCell ⟨G, 8, none⟩ b8).setCell ⟨G, 9, none⟩ b9).cell? ⟨b, o, none⟩ = some u := set10_cell h hne b0 b1 b2 b3 b4 b5 b6 b7 b8 b9
section
variable {w : World} {nb : Nat} {v : Value} {all : Nat} {l : List (Nat × Mg)}
set_option maxHeartbeats 2000000 in
set_option maxRecDepth 100000 in
theorem at_no (h : NW w nb v all l) (i : Int) (hi : ¬ (0 ≤ i ∧ i < (l.length : Int))) :
    Calls Try.prog 18 #[.pointer (some ⟨nb, 0, none⟩), .int .i64 i] w fun e w' => e = .returned (.tuple #[.agg (mgL mgNil (.slice none 0 0)).toArray, .int .u64 0, .bool false]) ∧ Below w.heap.size w w' := by
  obtain ⟨W0, hW0⟩ : ∃ W0, W0 = w.alloc (.cells #[.int .i64 0, .int .i64 0, .int .i64 0, .int .u64 0, .int .u64 0, .int .u64 0, .int .u64 0, .bool false, .slice none 0 0, .string ⟨#[]⟩] 32) := ⟨_, rfl⟩
  have hb0 : Below w.heap.size w W0 := by rw [hW0]; exact (Below.refl _ _).alloc (Nat.le_refl _) _
  have hz0 : W0.heap[w.heap.size]? = some (.cells #[.int .i64 0, .int .i64 0, .int .i64 0, .int .u64 0, .int .u64 0, .int .u64 0, .int .u64 0, .bool false, .slice none 0 0, .string ⟨#[]⟩] 32 (0, 0)) := by rw [hW0]; exact heap_alloc_new _ _
  have K := Lib.hid (there_prog (h.later hb0) i)
  have e1 : (decide (0 ≤ i) && decide (i < (l.length : Int))) = false := by simp; omega
  rw [e1] at K
  have eM : (mgL mgNil (.slice none 0 0)).toArray = #[.int .i64 0, .int .i64 0, .int .i64 0, .int .u64 0, .int .u64 0, .int .u64 0, .int .u64 0, .bool false, .slice none 0 0, .string ⟨#[]⟩] := rfl
  rw [eM]
  have HZ := Lib.hid hz0
  have HB := Lib.hid hb0
  clear h hi e1 eM hz0 hb0
  go_enter Try.func18, Try.ntmps18
  go_wp2_with fail
  simp only [← hW0]
  clear hW0
  refine K.out.mono ?_
  rintro e w1 ⟨rfl, rfl⟩
  obtain ⟨g0, g1, g2, g3, g4, g5, g6, g7, g8, g9⟩ := cells10 HZ.out
  obtain ⟨k0, k1, k2, k3, k4, k5, k6, k7, k8, k9⟩ := free10 HZ.out
  clear K
  go_wp2_with fail
  refine bodyPost_ret (results_at rfl rfl rfl rfl (set10_heap (w := W0) HZ.out _ _ _ _ _ _ _ _ _ _) rfl) rfl ⟨rfl, HB.out.trans (set10_below (Nat.le_refl _) _ _ _ _ _ _ _ _ _ _)⟩
set_option maxHeartbeats 8000000 in
set_option maxRecDepth 100000 in
theorem at_yes (h : NW w nb v all l) (i : Nat) (k : Nat) (m : Mg) (hi : l[i]? = some (k, m)) (hm : m.ents.length ≤ 1000) :
    Calls Try.prog 18 #[.pointer (some ⟨nb, 0, none⟩), .int .i64 (i : Int)] w fun e w' => ∃ ev, e = .returned (.tuple #[.agg (mgL m ev).toArray, .int .u64 (k : Int), .bool true]) ∧ EOwn w' w.heap.size ev m.ents ∧ Below w.heap.size w w' := by
  obtain ⟨W0, hW0⟩ : ∃ W0, W0 = w.alloc (.cells #[.int .i64 0, .int .i64 0, .int .i64 0, .int .u64 0, .int .u64 0, .int .u64 0, .int .u64 0, .bool false, .slice none 0 0, .string ⟨#[]⟩] 32) := ⟨_, rfl⟩
  have hb0 : Below w.heap.size w W0 := by rw [hW0]; exact (Below.refl _ _).alloc (Nat.le_refl _) _
  have hz0 : W0.heap[w.heap.size]? = some (.cells #[.int .i64 0, .int .i64 0, .int .i64 0, .int .u64 0, .int .u64 0, .int .u64 0, .int .u64 0, .bool false, .slice none 0 0, .string ⟨#[]⟩] 32 (0, 0)) := by rw [hW0]; exact heap_alloc_new _ _
  have h0 := h.later hb0
  have hnW : nb ≠ w.heap.size := fun e => by have := h.lt; omega
  have hil := (List.getElem?_eq_some_iff.1 hi).1
  have K := Lib.hid (there_prog h0 (i : Int))
  have e1 : (decide ((0 : Int) ≤ (i : Int)) && decide ((i : Int) < (l.length : Int))) = true := by simp; omega
  rw [e1] at K
  obtain ⟨q, hq, hql, hqm⟩ := h.way
  have hqi : ∃ x, q[i]? = some x := ⟨_, List.getElem?_eq_getElem (by omega)⟩
  obtain ⟨⟨k', b⟩, hx⟩ := hqi
  obtain ⟨m', e2, hmt0⟩ := hqm i _ hx
  have hbW : b ≠ w.heap.size := fun e => by obtain ⟨_, h1, _⟩ := hmt0; have := block_lt h1; simp only at this; omega
  have hmt := hmt0.later hb0
  have hq0 := hq.mv (w' := W0) fun k hk => hb0.block k (hq.lt k hk)
  rw [hi] at e2
  injection e2 with e2
  injection e2 with e2 e3
  subst e2 e3
  obtain ⟨ev0, hmb, hme⟩ := hmt
  obtain ⟨g, o, cap, hv, z0, z1⟩ := hq0.cells i _ hx
  have hgW : g ≠ w.heap.size := fun e => by have := hq.lt g (by rw [hv]; rfl); omega
  simp only at z0 z1 hmb
  obtain ⟨c0, c1, f0, f1⟩ := h0.cells
  obtain ⟨n, hn⟩ : ∃ n, q.length = n := ⟨_, rfl⟩
  have hiI : (i : Int) < (n : Int) := by omega
  rw [hn] at hv
  subst hv
  have KC := Lib.hid (fun W (hW : Below W0.heap.size W0 W) => copied_prog m ev0 W (hme.sl.later hW) hm)
  unfold mgL at hmb KC ⊢
  obtain ⟨y0, y1, y2, y3, y4, y5, y6, y7, y8, y9⟩ := cells10 hmb
  have HB0 := Lib.hid hb0
  have HZ0 := Lib.hid hz0
  obtain ⟨r0, r1, r2, r3, r4, r5, r6, r7, r8, r9⟩ := cells10 hz0
  obtain ⟨s0, s1, s2, s3, s4, s5, s6, s7, s8, s9⟩ := free10 hz0
  clear h h0 hq hq0 hmt0 hql hqm hi hn hil hm hx hmb hme hb0 hz0 e1
  go_enter Try.func18, Try.ntmps18
  go_wp2_with fail
  simp only [← hW0]
  clear hW0
  refine K.out.mono ?_
  rintro e w1 ⟨rfl, rfl⟩
  clear K
  go_wp2_with fail
  have HC0 : Hid (W0.cell? ⟨nb, 0, none⟩ = some (.slice (some ⟨g, o * 2, none⟩) n cap) ∧ W0.cell? ⟨g, o * 2 + i * 2, none⟩ = some (.int .u64 (k : Int)) ∧ W0.cell? ⟨g, o * 2 + i * 2 + 1, none⟩ = some (.pointer (some ⟨b, 0, none⟩)) ∧ W0.cell? ⟨b, 0, none⟩ = some (.int .i64 m.kind) ∧ W0.cell? ⟨b, 1, none⟩ = some (.int .i64 m.src) ∧ W0.cell? ⟨b, 2, none⟩ = some (.int .i64 m.dst) ∧ W0.cell? ⟨b, 3, none⟩ = some (.int .u64 (m.term : Int)) ∧ W0.cell? ⟨b, 4, none⟩ = some (.int .u64 (m.index : Int)) ∧ W0.cell? ⟨b, 5, none⟩ = some (.int .u64 (m.lterm : Int)) ∧ W0.cell? ⟨b, 6, none⟩ = some (.int .u64 (m.commit : Int)) ∧ W0.cell? ⟨b, 7, none⟩ = some (.bool m.ok) ∧ W0.cell? ⟨b, 8, none⟩ = some (ev0) ∧ W0.cell? ⟨b, 9, none⟩ = some (.string m.state)) := Lib.hid ⟨c0, z0, z1, y0, y1, y2, y3, y4, y5, y6, y7, y8, y9⟩
  have HC1 : Hid (W0.drew.cell? ⟨nb, 0, none⟩ = some (.slice (some ⟨g, o * 2, none⟩) n cap) ∧ W0.drew.cell? ⟨g, o * 2 + i * 2, none⟩ = some (.int .u64 (k : Int)) ∧ W0.drew.cell? ⟨g, o * 2 + i * 2 + 1, none⟩ = some (.pointer (some ⟨b, 0, none⟩)) ∧ W0.drew.cell? ⟨b, 0, none⟩ = some (.int .i64 m.kind) ∧ W0.drew.cell? ⟨b, 1, none⟩ = some (.int .i64 m.src) ∧ W0.drew.cell? ⟨b, 2, none⟩ = some (.int .i64 m.dst) ∧ W0.drew.cell? ⟨b, 3, none⟩ = some (.int .u64 (m.term : Int)) ∧ W0.drew.cell? ⟨b, 4, none⟩ = some (.int .u64 (m.index : Int)) ∧ W0.drew.cell? ⟨b, 5, none⟩ = some (.int .u64 (m.lterm : Int)) ∧ W0.drew.cell? ⟨b, 6, none⟩ = some (.int .u64 (m.commit : Int)) ∧ W0.drew.cell? ⟨b, 7, none⟩ = some (.bool m.ok) ∧ W0.drew.cell? ⟨b, 8, none⟩ = some (ev0) ∧ W0.drew.cell? ⟨b, 9, none⟩ = some (.string m.state)) := Lib.hid ⟨c0, z0, z1, y0, y1, y2, y3, y4, y5, y6, y7, y8, y9⟩
  go_region_held3 (fun w' => w'.cell? ⟨nb, 0, none⟩ = some (.slice (some ⟨g, o * 2, none⟩) n cap) ∧ w'.cell? ⟨g, o * 2 + i * 2, none⟩ = some (.int .u64 (k : Int)) ∧ w'.cell? ⟨g, o * 2 + i * 2 + 1, none⟩ = some (.pointer (some ⟨b, 0, none⟩)) ∧ w'.cell? ⟨b, 0, none⟩ = some (.int .i64 m.kind) ∧ w'.cell? ⟨b, 1, none⟩ = some (.int .i64 m.src) ∧ w'.cell? ⟨b, 2, none⟩ = some (.int .i64 m.dst) ∧ w'.cell? ⟨b, 3, none⟩ = some (.int .u64 (m.term : Int)) ∧ w'.cell? ⟨b, 4, none⟩ = some (.int .u64 (m.index : Int)) ∧ w'.cell? ⟨b, 5, none⟩ = some (.int .u64 (m.lterm : Int)) ∧ w'.cell? ⟨b, 6, none⟩ = some (.int .u64 (m.commit : Int)) ∧ w'.cell? ⟨b, 7, none⟩ = some (.bool m.ok) ∧ w'.cell? ⟨b, 8, none⟩ = some (ev0) ∧ w'.cell? ⟨b, 9, none⟩ = some (.string m.state))
    (first | with_reducible exact HC0.out | with_reducible exact HC1.out | with_reducible exact hcs | with_reducible exact ⟨set10_cellN hcs.1 hnW _ _ _ _ _ _ _ _ _ _, set10_cellN hcs.2.1 hgW _ _ _ _ _ _ _ _ _ _, set10_cellN hcs.2.2.1 hgW _ _ _ _ _ _ _ _ _ _, set10_cellN hcs.2.2.2.1 hbW _ _ _ _ _ _ _ _ _ _, set10_cellN hcs.2.2.2.2.1 hbW _ _ _ _ _ _ _ _ _ _, set10_cellN hcs.2.2.2.2.2.1 hbW _ _ _ _ _ _ _ _ _ _, set10_cellN hcs.2.2.2.2.2.2.1 hbW _ _ _ _ _ _ _ _ _ _, set10_cellN hcs.2.2.2.2.2.2.2.1 hbW _ _ _ _ _ _ _ _ _ _, set10_cellN hcs.2.2.2.2.2.2.2.2.1 hbW _ _ _ _ _ _ _ _ _ _, set10_cellN hcs.2.2.2.2.2.2.2.2.2.1 hbW _ _ _ _ _ _ _ _ _ _, set10_cellN hcs.2.2.2.2.2.2.2.2.2.2.1 hbW _ _ _ _ _ _ _ _ _ _, set10_cellN hcs.2.2.2.2.2.2.2.2.2.2.2.1 hbW _ _ _ _ _ _ _ _ _ _, set10_cellN hcs.2.2.2.2.2.2.2.2.2.2.2.2 hbW _ _ _ _ _ _ _ _ _ _⟩)
    ((go_at_call 24; refine (KC.out (W0.drew) ((Below.refl _ _).drew)).mono ?_; rintro e w2 ⟨ev, rfl, ho2, hb2⟩; obtain ⟨ea, ec, rfl, _⟩ := ho2.shape; have hb2' : Below W0.heap.size W0 w2 := (Below.refl _ _).drew.trans hb2; have hcs := And.intro (cellB hb2' c0) (And.intro (cellB hb2' z0) (And.intro (cellB hb2' z1) (And.intro (cellB hb2' y0) (And.intro (cellB hb2' y1) (And.intro (cellB hb2' y2) (And.intro (cellB hb2' y3) (And.intro (cellB hb2' y4) (And.intro (cellB hb2' y5) (And.intro (cellB hb2' y6) (And.intro (cellB hb2' y7) (And.intro (cellB hb2' y8) (cellB hb2' y9)))))))))))); have t0 := cellB hb2' r0; have t1 := cellB hb2' r1; have t2 := cellB hb2' r2; have t3 := cellB hb2' r3; have t4 := cellB hb2' r4; have t5 := cellB hb2' r5; have t6 := cellB hb2' r6; have t7 := cellB hb2' r7; have t8 := cellB hb2' r8; have t9 := cellB hb2' r9; obtain ⟨u0, u1, u2, u3, u4, u5, u6, u7, u8, u9⟩ := free10 (block_kept HZ0.out (block_lt HZ0.out) hb2')))
  have hend : EOwn w2 w.heap.size (.slice ea m.ents.length ec) m.ents := EOwn.base (B := W0.heap.size) ho2 (fun k hk => Nat.le_trans HB0.out.size (EOwn.low (B := W0.heap.size) ho2 k hk))
  have hbe : Below w.heap.size w w2 := HB0.out.trans (hb2'.mono HB0.out.size)
  have hze := block_kept HZ0.out (block_lt HZ0.out) hb2'
  have hlo := EOwn.low (B := W0.heap.size) ho2
  have hWs : w.heap.size < W0.heap.size := block_lt HZ0.out
  go_wp2_with fail
  refine bodyPost_ret (results_at rfl rfl rfl rfl (set10_heap (w := w2) hze _ _ _ _ _ _ _ _ _ _) rfl) rfl ⟨_, rfl, ?_, hbe.trans (set10_below (Nat.le_refl _) _ _ _ _ _ _ _ _ _ _)⟩
  exact hend.mv fun k hk => set10_other _ _ _ _ _ _ _ _ _ _ _ _ k (fun e => by have := hlo k hk; omega)
end
end Go.Proofs.Ytgdlnjhbencjkaa
