/- log: what a log tells: Term, Vote, Base, Last, At, TermAt. -/
import Derived.Test.YtfocljmjejniiaaGOps
namespace Go.Proofs.Ytfocljmjejniiaa
open Go.RowKit

section
variable {w : World} {lb db room : Nat} {dn : Bool} {v : Value} {c : CT}
set_option maxRecDepth 100000 in
theorem gterm_prog (h : LgAt w lb db dn room v c) : Calls Try.prog 16 #[.pointer (some ⟨lb, 0, none⟩)] w fun e w' => e = .returned (.int .u64 (c.term : Int)) ∧ w' = w := by
  obtain ⟨m0, m1, m2, m3, m4, m5⟩ := CtAt.cells h
  clear h m1 m2 m3 m4 m5
  go_enter Try.func16, Try.ntmps16
  go_wp2_with fail
  go_ret
  exact ⟨rfl, rfl⟩
set_option maxRecDepth 100000 in
theorem gvote_prog (h : LgAt w lb db dn room v c) : Calls Try.prog 17 #[.pointer (some ⟨lb, 0, none⟩)] w fun e w' => e = .returned (.int .i64 c.vote) ∧ w' = w := by
  obtain ⟨m0, m1, m2, m3, m4, m5⟩ := CtAt.cells h
  clear h m0 m2 m3 m4 m5
  go_enter Try.func17, Try.ntmps17
  go_wp2_with fail
  go_ret
  exact ⟨rfl, rfl⟩
set_option maxRecDepth 100000 in
theorem gbase_prog (h : LgAt w lb db dn room v c) : Calls Try.prog 28 #[.pointer (some ⟨lb, 0, none⟩)] w fun e w' => e = .returned (.tuple #[.int .u64 (c.base : Int), .int .u64 (c.bterm : Int), .string c.state]) ∧ Same w w' := by
  obtain ⟨m0, m1, m2, m3, m4, m5⟩ := CtAt.cells h
  clear h m0 m1 m5
  go_enter Try.func28, Try.ntmps28
  go_wp2_with fail
  go_quiet (fail)
  go_wp2_with fail
  go_ret3
  exact ⟨rfl, _, rfl⟩
set_option maxRecDepth 100000 in
theorem glast_prog (h : LgAt w lb db dn room v c) (hl : c.ents.length ≤ 1000000) : Calls Try.prog 15 #[.pointer (some ⟨lb, 0, none⟩)] w fun e w' => e = .returned (.int .u64 (c.lastN : Int)) ∧ Same w w' := by
  have K := Lib.hid (last_prog lb v c w h hl)
  clear h hl
  go_enter Try.func15, Try.ntmps15
  go_wp2_with fail
  refine K.out.mono ?_
  rintro e w1 ⟨rfl, hs⟩
  go_wp2_with fail
  go_ret
  exact ⟨rfl, hs⟩
set_option maxRecDepth 100000 in
theorem gtermAt_prog (i : Nat) (h : LgAt w lb db dn room v c) (hl : c.ents.length ≤ 1000000) (hc : c.base + c.ents.length < m64) : Calls Try.prog 29 #[.pointer (some ⟨lb, 0, none⟩), .int .u64 (i : Int)] w fun e w' => e = .returned (.tuple #[numV (c.termAt i), .bool (c.termAt i).isSome]) ∧ Below w.heap.size w w' := by
  have K := Lib.hid (termAt_prog lb v c i w h hl hc)
  obtain ⟨x, hx⟩ : ∃ x, c.termAt i = x := ⟨_, rfl⟩
  rw [hx] at K ⊢
  clear h hl hc hx
  cases x
  all_goals
    unfold numV at K ⊢
    go_enter Try.func29, Try.ntmps29
    go_wp2_with fail
    refine K.out.mono ?_
    rintro e w1 ⟨rfl, hb⟩
    have HB := Lib.hid hb
    clear hb
    go_wp2_with fail
    go_ret2
    exact ⟨rfl, HB.out⟩
theorem results_ent {tmps : Array Value} {w : World} {H : Nat} {cs : Array Value} {x : Value} (h2 : tmps.getD 4 undef = .pointer (some ⟨H, 0, none⟩)) (h3 : tmps.getD 5 undef = x)
    (hg : w.heap[H]? = some (.cells cs 37 (0, 0))) (hs : cs.size = 2) : (results Try.f14 tmps).run Try.prog w = .ok (.tuple #[.agg cs, x]) w := by
  have hi : (Try.prog.info? 37).map (·.size) = some cs.size := by rw [hs]; kernel_rfl
  rw [results_cell_tmp rfl, h2, h3]
  simp [asAddr, Result.andThen, run_loadVar_row w H 37 37 cs (0, 0) _ hg Try.underlying37 rfl hi]
set_option maxRecDepth 100000 in
theorem gat_prog (i : Nat) (h : LgAt w lb db dn room v c) (hl : c.ents.length ≤ 1000000) (hc : c.base + c.ents.length < m64) : Calls Try.prog 14 #[.pointer (some ⟨lb, 0, none⟩), .int .u64 (i : Int)] w fun e w' => e = .returned (.tuple #[entV (c.at i), .bool (c.at i).isSome]) ∧ Below w.heap.size w w' := by
  have h0 := CtAt.later h ((Below.refl _ _).alloc (Nat.le_refl _) (.cells #[.int .u64 0, .string ⟨#[]⟩] 37))
  have K := Lib.hid (at_prog lb v c i _ h0 hl hc)
  obtain ⟨x, hx⟩ : ∃ x, c.at i = x := ⟨_, rfl⟩
  rw [hx] at K ⊢
  clear h hl hc hx h0
  have go : ∀ (t : Nat) (q : ByteArray) (bl : Bool), Calls Try.prog 32 #[.pointer (some ⟨lb, 0, none⟩), .int .u64 (i : Int)] (w.alloc (.cells #[.int .u64 0, .string ⟨#[]⟩] 37)) (fun e w' => e = .returned (.tuple #[.agg #[.int .u64 (t : Int), .string q], .bool bl]) ∧ Below (w.alloc (.cells #[.int .u64 0, .string ⟨#[]⟩] 37)).heap.size (w.alloc (.cells #[.int .u64 0, .string ⟨#[]⟩] 37)) w') →
      Calls Try.prog 14 #[.pointer (some ⟨lb, 0, none⟩), .int .u64 (i : Int)] w fun e w' => e = .returned (.tuple #[.agg #[.int .u64 (t : Int), .string q], .bool bl]) ∧ Below w.heap.size w w' := by
    intro t q bl hk
    have HK := Lib.hid hk
    clear hk K x
    go_enter Try.func14, Try.ntmps14
    go_wp2_with fail
    refine HK.out.mono ?_
    rintro e w1 ⟨rfl, hb⟩
    have hblk : w1.heap[w.heap.size]? = some (.cells #[.int .u64 0, .string ⟨#[]⟩] 37 (0, 0)) := by rw [hb.block _ (by simp)]; exact heap_alloc_new _ _
    have c0 : w1.cell? ⟨w.heap.size, 0, none⟩ = some (.int .u64 0) := by simp [World.cell?, hblk]
    have c1 : w1.cell? ⟨w.heap.size, 1, none⟩ = some (.string ⟨#[]⟩) := by simp [World.cell?, hblk]
    have z0 : w1.frozen? ⟨w.heap.size, 0, none⟩ = false := by simp [World.frozen?, hblk]
    have z1 : w1.frozen? ⟨w.heap.size, 1, none⟩ = false := by simp [World.frozen?, hblk]
    have hb1 := (((Below.refl w.heap.size w).alloc (Nat.le_refl _) (.cells #[.int .u64 0, .string ⟨#[]⟩] 37)).trans (hb.mono (by simp)))
    have HB := Lib.hid hb1
    have HBL := Lib.hid (heap_setCell_same _ w.heap.size 1 _ _ (.string q) (heap_setCell_same w1 w.heap.size 0 _ _ (.int .u64 (t : Int)) hblk))
    clear hb hblk hb1
    go_wp2_with fail
    exact bodyPost_ret (results_ent rfl rfl HBL.out rfl) rfl ⟨rfl, (HB.out.setCell (Nat.le_refl _) _).setCell (Nat.le_refl _) _⟩
  cases x with
  | none => exact go 0 ⟨#[]⟩ false K.out
  | some y => exact go y.1 y.2 true K.out
end
end Go.Proofs.Ytfocljmjejniiaa
