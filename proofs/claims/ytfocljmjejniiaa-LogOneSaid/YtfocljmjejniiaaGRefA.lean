/- log: the reference's New and Add. -/
import Derived.Test.YtfocljmjejniiaaGSm
import Derived.Test.YtfocljmjejniiaaGAwk
namespace Go.Proofs.Ytfocljmjejniiaa
open Go.RowKit

theorem results_rnew {tmps : Array Value} {w : World} {H : Nat} {cs : Array Value} (h2 : tmps.getD 0 undef = .pointer (some ⟨H, 0, none⟩))
    (hg : w.heap[H]? = some (.cells cs 39 (0, 0))) (hs : cs.size = 6) : (results Try.f9 tmps).run Try.prog w = .ok (.agg cs) w :=
  results_cell_row rfl tmps w H 39 cs (0, 0) _ h2 hg Try.underlying39 rfl (by rw [hs]; kernel_rfl)
set_option maxRecDepth 100000 in
theorem rnew_prog (w : World) : Calls Try.prog 9 #[] w fun e w' => e = .returned (.agg (ctC (cE 0 (-1) []) (.slice none 0 0))) ∧ Below w.heap.size w w' := by
  go_enter Try.func9, Try.ntmps9
  go_wp2_with fail
  exact bodyPost_ret (results_rnew rfl (heap_alloc_new _ _) rfl) rfl ⟨rfl, (Below.refl _ _).alloc (Nat.le_refl _) _⟩

theorem results_radd {tmps : Array Value} {w : World} {H : Nat} {cs : Array Value} {x : Value} (h2 : tmps.getD 6 undef = .pointer (some ⟨H, 0, none⟩)) (h3 : tmps.getD 7 undef = x)
    (hg : w.heap[H]? = some (.cells cs 39 (0, 0))) (hs : cs.size = 6) : (results Try.f10 tmps).run Try.prog w = .ok (.tuple #[.agg cs, x]) w := by
  have hi : (Try.prog.info? 39).map (·.size) = some cs.size := by rw [hs]; kernel_rfl
  rw [results_cell_tmp rfl, h2, h3]
  simp [asAddr, Result.andThen, run_loadVar_row w H 39 39 cs (0, 0) _ hg Try.underlying39 rfl hi]
set_option maxHeartbeats 4000000 in
set_option maxRecDepth 100000 in
theorem radd_prog (sv : Value) (E : List Ent) (w : World) (hs : ESl w sv E) (hE : SmE E) :
    Calls Try.prog 10 #[.agg (ctC (cE 0 (-1) []) (.slice none 0 0)), .int .u64 0, sv] w fun e w' => ∃ v', e = .returned (.tuple #[.agg (ctC (cE 0 (-1) E) v'), .int .i64 0]) ∧ EOwn w' w.heap.size v' E ∧ Below w.heap.size w w' := by
  have K5 := Lib.hid (fun W => rlast_prog (cE 0 (-1) []) (.slice none 0 0) W ⟨none, 0, 0, rfl, rfl⟩ (by decide))
  have HS := Lib.hid hs
  have HE := Lib.hid hE
  clear hs hE
  have e0 : ctC (cE 0 (-1) []) (.slice none 0 0) = #[.int .u64 0, .int .i64 (-1), .int .u64 0, .int .u64 0, .string ⟨#[]⟩, .slice none 0 0] := rfl
  have e1 : ((cE 0 (-1) []).lastN : Int) = 0 := rfl
  rw [e0, e1] at K5
  rw [e0]
  clear e0 e1
  go_enter Try.func10, Try.ntmps10
  go_wp2_with fail
  obtain ⟨H, hH⟩ : ∃ H, w.heap.size = H := ⟨_, rfl⟩
  obtain ⟨W0, hW0⟩ : ∃ W0, W0 = (w.alloc (.cells #[.int .u64 0, .int .i64 (-1), .int .u64 0, .int .u64 0, .string ⟨#[]⟩, .slice none 0 0] 39)).alloc (.cells #[.int .u64 0, .int .i64 0, .int .u64 0, .int .u64 0, .string ⟨#[]⟩, .slice none 0 0] 39) := ⟨_, rfl⟩
  have hb0 : Below w.heap.size w W0 := by rw [hW0]; exact ((Below.refl _ _).alloc (Nat.le_refl _) _).alloc (by simp) _
  have hz0 : W0.heap[H]? = some (.cells #[.int .u64 0, .int .i64 (-1), .int .u64 0, .int .u64 0, .string ⟨#[]⟩, .slice none 0 0] 39 (0, 0)) := by
    rw [hW0, ← hH]; rw [Lib.alloc_old _ _ _ (by simp)]; exact heap_alloc_new _ _
  have hy0 : W0.heap[H + 1]? = some (.cells #[.int .u64 0, .int .i64 0, .int .u64 0, .int .u64 0, .string ⟨#[]⟩, .slice none 0 0] 39 (0, 0)) := by
    have := heap_alloc_new (w.alloc (.cells #[.int .u64 0, .int .i64 (-1), .int .u64 0, .int .u64 0, .string ⟨#[]⟩, .slice none 0 0] 39)) (.cells #[.int .u64 0, .int .i64 0, .int .u64 0, .int .u64 0, .string ⟨#[]⟩, .slice none 0 0] 39)
    rw [hW0, ← hH]; simpa using this
  have hs0 : W0.heap.size = H + 2 := by rw [hW0, ← hH]; simp
  rw [← hW0]
  simp only [hH]
  rw [hH] at hb0
  have HB0 := Lib.hid hb0
  have HZ0 := Lib.hid hz0
  have HY0 := Lib.hid hy0
  have HS0 := Lib.hid hs0
  have HH := Lib.hid hH
  clear hW0 hb0 hz0 hy0 hs0 hH
  try go_wp2_with fail
  refine (K5.out W0).mono ?_
  rintro e w1 ⟨rfl, hb1⟩
  have hz1 := (hb1.block H (by have := HS0.out; omega)).trans HZ0.out
  have hy1 := (hb1.block (H + 1) (by have := HS0.out; omega)).trans HY0.out
  have hl1 : H + 2 ≤ w1.heap.size := by have := HS0.out; have := hb1.size; omega
  obtain ⟨m0, m1, m2, m3, m4, m5⟩ := cells6 hz1
  obtain ⟨n0, n1, n2, n3, n4, n5⟩ := cells6 hy1
  have HZ1 := Lib.hid hz1
  have HY1 := Lib.hid hy1
  have HB1 := Lib.hid (HB0.out.trans (hb1.mono (by have := HS0.out; omega)))
  have HL1 := Lib.hid hl1
  have hHl : H < w1.heap.size := by omega
  have hHl2 : H + 1 < w1.heap.size := by omega
  clear hb1 hz1 hy1 hl1 HZ0 HY0 HB0 K5
  have ha : Below w1.heap.size w1 (w1.alloc (.cells #[] 37)) := (Below.refl _ _).alloc (Nat.le_refl _) _
  have hown0 : EOwn (w1.alloc (.cells #[] 37)) w1.heap.size (.slice (some ⟨w1.heap.size, 0, none⟩) 0 0) [] :=
    ⟨rfl, .inr ⟨w1.heap.size, 0, #[], rfl, Nat.le_refl _, heap_alloc_new _ _, Nat.le_refl _, by decide, rfl, rfl⟩⟩
  have HSV := Lib.hid ((HS.out.later (by have := HB1.out; rw [HH.out]; exact this)).later ha)
  obtain ⟨sa, sc, rfl, _⟩ := HS.out
  have HOW := Lib.hid hown0
  have HA := Lib.hid ha
  clear ha hown0
  go_wp2_with (at_builtin; refine list_appE rfl _ _ rfl w1.heap.size _ [] rfl HOW.out _ E rfl HSV.out (by have := HE.out.len; simp; omega) (by simp) ?_)
  intro v' w2 hown hgrew
  change EOwn w2 w1.heap.size v' E at hown
  have hb2 : Below w1.heap.size w1 w2 := HA.out.trans (hgrew.below (by simp) HOW.out.low)
  obtain ⟨va, vc, rfl, _⟩ := hown.shape
  have hz2 := (hb2.block H hHl).trans HZ1.out
  have hy2 := (hb2.block (H + 1) hHl2).trans HY1.out
  clear m0 m1 m2 m3 m4 m5 n0 n1 n2 n3 n4 n5
  obtain ⟨m0, m1, m2, m3, m4, m5⟩ := cells6 hz2
  obtain ⟨n0, n1, n2, n3, n4, n5⟩ := cells6 hy2
  have y0 : ∀ o, w2.frozen? ⟨H + 1, o, none⟩ = false := fun o => by simp [World.frozen?, hy2]
  have y00 := y0 0
  have y01 := y0 1
  have y02 := y0 2
  have y03 := y0 3
  have y04 := y0 4
  have y05 := y0 5
  have z5 : w2.frozen? ⟨H, 5, none⟩ = false := by simp [World.frozen?, hz2]
  have hGH : H ≠ H + 1 := by omega
  have hHG : H + 1 ≠ H := by omega
  have HB2 := Lib.hid (HB1.out.trans (hb2.mono (by have := HL1.out; omega)))
  have HO2 := Lib.hid hown
  have HY2 := Lib.hid ((heap_setCell_other w2 ⟨H, 5, none⟩ (H + 1) (.slice va E.length vc) hHG).trans hy2)
  clear y0 hb2 hz2 hy2 hgrew HOW HA HSV hown
  go_wp2_with fail
  rw [HH.out]
  have hlow := HO2.out.low
  have hl1 := HL1.out
  have hb9 := HB2.out.trans ((Below.refl H w2).setCell (p := ⟨H, 5, none⟩) (Nat.le_refl H) (.slice va E.length vc))
  refine bodyPost_ret (results_radd rfl rfl (set6_heap HY2.out (.int .u64 0) (.int .i64 (-1)) (.int .u64 0) (.int .u64 0) (.string ⟨#[]⟩) (.slice va E.length vc)) rfl) rfl
    ⟨.slice va E.length vc, rfl, ?_, hb9.trans (set6_below (Nat.le_succ H) (.int .u64 0) (.int .i64 (-1)) (.int .u64 0) (.int .u64 0) (.string ⟨#[]⟩) (.slice va E.length vc))⟩
  refine (HO2.out.base (B' := H) (fun k hk => by have := hlow k hk; omega)).mv fun k hk => ?_
  have hk1 : k ≠ H := by have := hlow k hk; omega
  have hk2 : k ≠ H + 1 := by have := hlow k hk; omega
  rw [heap_setCell_other _ ⟨H + 1, 5, none⟩ k _ hk2, heap_setCell_other _ ⟨H + 1, 4, none⟩ k _ hk2, heap_setCell_other _ ⟨H + 1, 3, none⟩ k _ hk2, heap_setCell_other _ ⟨H + 1, 2, none⟩ k _ hk2, heap_setCell_other _ ⟨H + 1, 1, none⟩ k _ hk2, heap_setCell_other _ ⟨H + 1, 0, none⟩ k _ hk2, heap_setCell_other _ ⟨H, 5, none⟩ k _ hk1]
end Go.Proofs.Ytfocljmjejniiaa
