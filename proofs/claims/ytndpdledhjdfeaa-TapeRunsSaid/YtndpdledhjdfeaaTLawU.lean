/- TapeRuns. -/
import Derived.Test.YtndpdledhjdfeaaTLawA
namespace Go.Proofs.Ytndpdledhjdfeaa
open Go.RowKit

def RuRel (s : ByteArray) (w : World) (bt br ln : Nat) (i : Value) (wr : World) : Prop :=
  ∃ k x : Nat, i = .int .i64 k ∧ k ≤ ln ∧ Tp wr bt s x ∧ Rp wr br s x ∧ x ≤ s.size ∧ Below w.heap.size w wr

set_option maxRecDepth 30000 in
set_option maxHeartbeats 2000000 in
theorem runs_law (s : ByteArray) (la : Option Addr) (ln lc : Nat) (w : World) (hs : s.size ≤ maxLen) (hl : ln ≤ maxLen) (hu : Pairs w la ln) :
    Calls Try.prog 3 #[.string s, .slice la ln lc] w fun e w' => e = .returned (.bool true) ∧ Below w.heap.size w w' := by
  unfold maxLen at hs hl
  have HU := Lib.hid hu
  clear hu
  by_cases hbig : 2000 < s.size
  · have hI : (2000 : Int) < (s.size : Int) := by omega
    go_enter Try.func3, Try.ntmps3
    go_wp2_with fail
    refine (awake_prog w).mono ?_
    rintro e w1 ⟨rfl, hb1⟩
    go_wp2_with fail
    go_ret
    exact ⟨rfl, hb1⟩
  have hI : ¬ (2000 : Int) < (s.size : Int) := by omega
  by_cases hbig2 : 60 < ln
  · have hI2 : (60 : Int) < (ln : Int) := by omega
    go_enter Try.func3, Try.ntmps3
    go_wp2_with fail
    refine (awake_prog w).mono ?_
    rintro e w1 ⟨rfl, hb1⟩
    go_wp2_with fail
    go_ret
    exact ⟨rfl, hb1⟩
  have hI2 : ¬ (60 : Int) < (ln : Int) := by omega
  go_enter Try.func3, Try.ntmps3
  go_wp2_with fail
  refine (awake_prog w).mono ?_
  rintro e w1 ⟨rfl, hb1⟩
  go_wp2_with fail
  refine (new_prog s w1 (by omega)).mono ?_
  rintro e w2 ⟨bt, rfl, hbt, ht, hw2⟩
  have hs1 := hb1.size
  have hs2 := hw2.size
  have hlt := tp_lt ht
  have hbt0 : w.heap.size ≤ bt := by omega
  have hbr0 : w.heap.size ≤ w2.heap.size := by omega
  have hb2 : Below w.heap.size w w2 := hb1.trans (hw2.mono hs1)
  obtain ⟨w3, hw3⟩ : ∃ w3, w3 = w2.alloc (.cells #[.string s, .int .i64 0] 28) := ⟨_, rfl⟩
  obtain ⟨br, hbr⟩ : ∃ br, br = w2.heap.size := ⟨_, rfl⟩
  have hne : bt ≠ br := by omega
  have ht3 : Tp w3 bt s 0 := by rw [hw3]; exact tp_below ht ((Below.refl _ _).alloc (Nat.le_refl _) _)
  have hr3 : Rp w3 br s 0 := by rw [hw3, hbr]; exact heap_at_alloc w2 _
  have hb3 : Below w.heap.size w w3 := by rw [hw3]; exact hb2.alloc hbr0 _
  go_wp2_with fail
  rw [← hw3, ← hbr]
  rw [← hbr] at hbr0
  clear hlt hs1 hs2 hbt hb1 hw2 ht hb2 hw3 hbr
  go_loopw [34] (RuRel s w bt br ln) (fun i _ => ln - (intOf i).toNat)
  case atStart => exact ⟨0, 0, rfl, by omega, ht3, hr3, by omega, hb3⟩
  case round =>
    obtain ⟨k, x, rfl, hk, hx, hr, hxs, hb⟩ := hrel
    clear ht3 hr3 hb3
    by_cases hkl : k < ln
    · obtain ⟨g, o, wh, n, rfl, hg, hc0, hc1⟩ := HU.out k hkl
      have c0 : wr.cell? ⟨g, o + k * 2, none⟩ = some (.int .i64 wh) := by rw [hb.cell (p := ⟨g, o + k * 2, none⟩) hg]; exact hc0
      have c1 : wr.cell? ⟨g, o + k * 2 + 1, none⟩ = some (.int .i64 n) := by rw [hb.cell (p := ⟨g, o + k * 2 + 1, none⟩) hg]; exact hc1
      have hkI : (k : Int) < (ln : Int) := by omega
      have hk0 : (0 : Int) ≤ (k : Int) := by omega
      clear hc0 hc1
      obtain ⟨W, hW⟩ : ∃ W, W = wr.alloc (.cells #[.int .i64 wh, .int .i64 n] 30) := ⟨_, rfl⟩
      have hWb : Below wr.heap.size wr W := by rw [hW]; exact (Below.refl _ wr).alloc (Nat.le_refl _) _
      have hblk : W.heap[wr.heap.size]? = some (.cells #[.int .i64 wh, .int .i64 n] 30 (0, 0)) := by rw [hW]; exact heap_at_alloc wr _
      have x0 : W.cell? ⟨wr.heap.size, 0, none⟩ = some (.int .i64 wh) := by simp [World.cell?, hblk]
      have x1 : W.cell? ⟨wr.heap.size, 1, none⟩ = some (.int .i64 n) := by simp [World.cell?, hblk]
      have hxW := tp_below hx hWb
      have hrW := rp_below hr hWb
      have HBW : Hid (Below w.heap.size w W) := Lib.hid (hb.trans (hWb.mono hb.size))
      have hbtl := tp_lt hx
      have hbrl := rp_lt hr
      have hnb : wr.heap.size ≠ bt := by omega
      have hkW : wr.heap.size < W.heap.size := World.block_lt_of_cell? W _ x1
      clear hbtl hbrl
      by_cases h0 : wh = 0
      · subst h0
        have H1 := Lib.hid (take_prog n hxW hxs (by omega))
        go_wp2_with fail
        rw [← hW]
        refine H1.out.mono ?_
        rintro e W1 ⟨rfl, hw1, hx1⟩
        have y1 : W1.cell? ⟨wr.heap.size, 1, none⟩ = some (.int .i64 n) := by
          rw [World.cell?_of_block (w := W) (a := ⟨wr.heap.size, 1, none⟩) (hw1.block _ hkW hnb)]; exact x1
        have hr1 := rp_keep hrW hw1 (Ne.symm hne)
        have H2 := Lib.hid (take_ref n hr1 hxs (by omega))
        clear H1
        go_wp2_with fail
        refine H2.out.mono ?_
        rintro e W2 ⟨rfl, hw2, hr2⟩
        have hx2 := tp_keep hx1 hw2 hne
        have hx2s := tkA_le n hxs
        obtain ⟨x', hx'⟩ : ∃ x', x' = tkA s x n := ⟨_, rfl⟩
        rw [← hx'] at hx2 hx2s hr2
        clear hx' H2
        have HB2 : Hid (Below w.heap.size w W2) := Lib.hid ((HBW.out.trans (hw1.below hbt0 HBW.out.size)).trans (hw2.below hbr0 (by have := HBW.out.size; have := hw1.size; omega)))
        obtain ⟨r0, r1, _⟩ := rp_cells hr2
        have hxI : (x' : Int) ≤ (s.size : Int) := by omega
        have hx0 : (0 : Int) ≤ (x' : Int) := by omega
        go_wp2_with fail
        go_quiet (first | (go_at_call 13; exact quietE ((taken_prog (tp_drewN hx2 _) hx2s (by omega)).mono fun _ _ h => ⟨h.1, h.2.symm⟩)) | (go_at_call 14; exact quietS (left_prog (tp_drewN hx2 _) hx2s (by omega))))
        go_wp2_with fail
        go_roundw
        case rel => exact ⟨k + 1, x', by simp, by omega, tp_drewN hx2 _, rp_drewN hr2 _, hx2s, HB2.out.trans ((Same.of _ _).below _)⟩
        case measure => rw [intOf_int, intOf_int]; omega
      by_cases h1 : wh = 1
      · subst h1
        have H1 := Lib.hid (below_prog n hxW hxs (by omega))
        go_wp2_with fail
        rw [← hW]
        refine H1.out.mono ?_
        rintro e W1 ⟨rfl, hw1, hx1⟩
        have y1 : W1.cell? ⟨wr.heap.size, 1, none⟩ = some (.int .i64 n) := by
          rw [World.cell?_of_block (w := W) (a := ⟨wr.heap.size, 1, none⟩) (hw1.block _ hkW hnb)]; exact x1
        have hr1 := rp_keep hrW hw1 (Ne.symm hne)
        have H2 := Lib.hid (below_ref n hr1 hxs (by omega))
        clear H1
        go_wp2_with fail
        refine H2.out.mono ?_
        rintro e W2 ⟨rfl, hw2, hr2⟩
        have hx2 := tp_keep hx1 hw2 hne
        have hx2s := blA_le n hxs
        obtain ⟨x', hx'⟩ : ∃ x', x' = blA s x n := ⟨_, rfl⟩
        rw [← hx'] at hx2 hx2s hr2
        clear hx' H2
        have HB2 : Hid (Below w.heap.size w W2) := Lib.hid ((HBW.out.trans (hw1.below hbt0 HBW.out.size)).trans (hw2.below hbr0 (by have := HBW.out.size; have := hw1.size; omega)))
        obtain ⟨r0, r1, _⟩ := rp_cells hr2
        have hxI : (x' : Int) ≤ (s.size : Int) := by omega
        have hx0 : (0 : Int) ≤ (x' : Int) := by omega
        go_wp2_with fail
        go_quiet (first | (go_at_call 13; exact quietE ((taken_prog (tp_drewN hx2 _) hx2s (by omega)).mono fun _ _ h => ⟨h.1, h.2.symm⟩)) | (go_at_call 14; exact quietS (left_prog (tp_drewN hx2 _) hx2s (by omega))))
        go_wp2_with fail
        go_roundw
        case rel => exact ⟨k + 1, x', by simp, by omega, tp_drewN hx2 _, rp_drewN hr2 _, hx2s, HB2.out.trans ((Same.of _ _).below _)⟩
        case measure => rw [intOf_int, intOf_int]; omega
      · have hr1 := hrW
        obtain ⟨r0, r1, _⟩ := rp_cells hr1
        have hxI : (x : Int) ≤ (s.size : Int) := by omega
        have hx0 : (0 : Int) ≤ (x : Int) := by omega
        have HW := Lib.hid hW
        clear hW
        go_wp2_with fail
        rw [← HW.out]
        go_quiet (first | (go_at_call 13; exact quietE ((taken_prog (tp_drewN hxW _) hxs (by omega)).mono fun _ _ h => ⟨h.1, h.2.symm⟩)) | (go_at_call 14; exact quietS (left_prog (tp_drewN hxW _) hxs (by omega))))
        go_wp2_with fail
        go_roundw
        case rel => exact ⟨k + 1, x, by simp, by omega, tp_drewN hxW _, rp_drewN hrW _, hxs, HBW.out.trans ((Same.of _ _).below _)⟩
        case measure => rw [intOf_int, intOf_int]; omega
    · have hkI : ¬ (k : Int) < (ln : Int) := by omega
      go_wp2_with fail
      go_ret
      exact ⟨rfl, hb⟩
end Go.Proofs.Ytndpdledhjdfeaa
