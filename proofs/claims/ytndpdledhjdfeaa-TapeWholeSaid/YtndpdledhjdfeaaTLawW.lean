/- TapeWhole. -/
import Derived.Test.YtndpdledhjdfeaaTLawA
namespace Go.Proofs.Ytndpdledhjdfeaa
open Go.RowKit

/-- Pieces that stand one behind the other. -/
theorem ext_join (s : ByteArray) (x y : Nat) (h : x ≤ y) : s.extract 0 x ++ s.extract x y = s.extract 0 y := by
  apply ByteArray.ext
  simp only [ByteArray.data_append, ByteArray.data_extract]
  rw [Array.extract_append_extract]
  congr 1 <;> omega
theorem take_rest {w : World} {b a : Nat} {s : ByteArray} (h : Tp w b s a) (ha : a ≤ s.size) (hs : s.size ≤ 2000) :
    Calls Try.prog 9 #[.pointer (some ⟨b, 0, none⟩), .int .i64 ((s.size : Int) - (a : Int))] w (TkRes b s (s.extract a s.size) 0 s.size w) := by
  have hm : (s.size : Int) - (a : Int) = ((s.size - a : Nat) : Int) := by omega
  have h1 := take_prog ((s.size - a : Nat) : Int) h ha hs
  obtain ⟨e1, e2, e3⟩ := tk_ok (s := s) (a := a) (m := s.size - a) (by omega)
  rw [e1, e2, e3, show a + (s.size - a) = s.size by omega] at h1
  rw [hm]; exact h1
def WhRel (s : ByteArray) (w : World) (b : Nat) (al i : Value) (wr : World) : Prop :=
  ∃ (k x : Nat) (A : ByteArray), i = .int .i64 k ∧ k ≤ 2000 ∧ al = .string A ∧ Hid (A = s.extract 0 x) ∧ Hid (A.size = x) ∧ Tp wr b s x ∧ x ≤ s.size ∧ Below w.heap.size w wr

set_option maxRecDepth 30000 in
set_option maxHeartbeats 2000000 in
theorem whole_law (s : ByteArray) (la : Option Addr) (ln lc : Nat) (w : World) (hs : s.size ≤ maxLen) (hl : ln ≤ maxLen) (hu : U8s w la ln) :
    Calls Try.prog 4 #[.string s, .slice la ln lc] w fun e w' => e = .returned (.bool true) ∧ Below w.heap.size w w' := by
  unfold maxLen at hs hl
  have HU := Lib.hid hu
  clear hu
  by_cases hbig : 1000 < s.size
  · have hI : (1000 : Int) < (s.size : Int) := by omega
    go_enter Try.func4, Try.ntmps4
    go_wp2_with fail
    refine (awake_prog w).mono ?_
    rintro e w1 ⟨rfl, hb1⟩
    go_wp2_with fail
    go_ret
    exact ⟨rfl, hb1⟩
  have hI : ¬ (1000 : Int) < (s.size : Int) := by omega
  by_cases h0 : ln = 0
  · have hI2 : ((ln : Int) == 0) = true := by rw [h0]; rfl
    have HL := Lib.hid h0
    clear h0
    go_enter Try.func4, Try.ntmps4
    go_wp2_with fail
    refine (awake_prog w).mono ?_
    rintro e w1 ⟨rfl, hb1⟩
    go_wp2_with fail
    go_ret
    exact ⟨rfl, hb1⟩
  have hl0 : (0 : Int) < (ln : Int) := by omega
  have hl0' : ((ln : Int) == 0) = false := by simp only [beq_eq_false_iff_ne]; omega
  by_cases hbig2 : 50 < ln
  · have hI2 : (50 : Int) < (ln : Int) := by omega
    go_enter Try.func4, Try.ntmps4
    go_wp2_with fail
    refine (awake_prog w).mono ?_
    rintro e w1 ⟨rfl, hb1⟩
    go_wp2_with fail
    go_ret
    exact ⟨rfl, hb1⟩
  have hI2 : ¬ (50 : Int) < (ln : Int) := by omega
  go_enter Try.func4, Try.ntmps4
  go_wp2_with fail
  refine (awake_prog w).mono ?_
  rintro e w1 ⟨rfl, hb1⟩
  go_wp2_with fail
  refine (new_prog s w1 (by omega)).mono ?_
  rintro e w2 ⟨b, rfl, hb, ht, hw2⟩
  have hs1 := hb1.size
  have hbb : w.heap.size ≤ b := by omega
  have hb2 : Below w.heap.size w w2 := (hb1.trans (hw2.mono hs1))
  clear hs1 hb hb1 hw2
  go_wp2_with fail
  go_loopw [6, 7] (WhRel s w b) (fun _ i _ => 2000 - (intOf i).toNat)
  case atStart => exact ⟨0, 0, _, rfl, by omega, rfl, Lib.hid (by simp; rfl), Lib.hid rfl, ht, by omega, hb2⟩
  case round =>
    obtain ⟨k, x, A, rfl, hk, rfl, hA, hAs, hx, hxs, hbw⟩ := hrel
    clear ht hb2
    have hk0 : (0 : Int) ≤ (k : Int) := by omega
    have hx0 : (0 : Int) ≤ (x : Int) := by omega
    have hxI : (x : Int) ≤ (s.size : Int) := by omega
    have hAI : (A.size : Int) ≤ (s.size : Int) := by have := hAs.out; omega
    have hA0 : (0 : Int) ≤ (A.size : Int) := by omega
    have hq : (s.extract 0 A.size).toList = A.toList := by rw [hAs.out, ← hA.out]
    have hqe : ((x : Int) == (A.size : Int)) = true := by rw [hAs.out]; simp
    by_cases hlt : k < 2000
    · have hltI : (k : Int) < 2000 := by omega
      have H1 := Lib.hid (left_prog hx hxs (by omega))
      by_cases hgo : x < s.size
      · have hgoI : (x : Int) < (s.size : Int) := by omega
        have hgoI2 : (0 : Int) < (s.size : Int) - (x : Int) := by omega
        obtain ⟨r, hr, hrl⟩ : ∃ r : Nat, (k : Int) % (ln : Int) = (r : Int) ∧ r < ln := ⟨k % ln, by omega, Nat.mod_lt _ (by omega)⟩
        obtain ⟨g, o, z, rfl, hg, hz, hc⟩ := HU.out r hrl
        have hc' : wr.cell? ⟨g, o + r, none⟩ = some (.int .u8 z) := by rw [hbw.cell (p := ⟨g, o + r, none⟩) hg]; exact hc
        have hrI : (r : Int) < (ln : Int) := by omega
        have hr0 : (0 : Int) ≤ (r : Int) := by omega
        have hzI : (z : Int) ≤ 255 := by omega
        have hz0 : (0 : Int) ≤ (z : Int) := by omega
        clear hc
        go_wp2_with fail
        refine H1.out.mono ?_
        rintro e wq ⟨rfl, n1, rfl⟩
        have hx2 := tp_drewN hx n1
        have H2 := Lib.hid (take_prog (z : Int) hx2 hxs (by omega))
        have hbq : Hid (Below w.heap.size w (wr.drewN n1)) := Lib.hid (hbw.trans ((Same.of _ _).below _))
        rcases tk_cases s x z with ⟨hok, e1, e2, e3⟩ | ⟨hok, e1, e2, e3⟩
        · rw [e1, e2, e3] at H2
          clear e1 e2 e3 H1
          obtain ⟨X, hX⟩ : ∃ X, X = s.extract x (x + z) := ⟨_, rfl⟩
          have hXs : X.size = z := by rw [hX]; simp; omega
          have hXI : (X.size : Int) ≤ 255 := by omega
          rw [← hX] at H2
          have HX := Lib.hid hX
          have HXS := Lib.hid hXs
          have HOK := Lib.hid hok
          clear hX hXs hok
          go_wp2_with fail
          refine H2.out.mono ?_
          rintro e w3 ⟨rfl, hw3, ht3⟩
          go_wp2_with fail
          go_roundw
          case rel => exact ⟨k + 1, x + z, A ++ X, by simp, by omega, rfl, Lib.hid (by rw [hA.out, HX.out]; exact ext_join s x (x + z) (by omega)), Lib.hid (by rw [ByteArray.size_append, hAs.out, HXS.out]), ht3, HOK.out, hbq.out.trans (hw3.below hbb hbq.out.size)⟩
          case measure => rw [intOf_int, intOf_int]; omega
        · rw [e1, e2, e3] at H2
          clear e1 e2 e3 H1
          have hokI : ¬ (z : Int) ≤ (s.size : Int) - (x : Int) := by omega
          clear hok
          go_wp2_with fail
          refine H2.out.mono ?_
          rintro e w3 ⟨rfl, hw3, ht3⟩
          have H3 := Lib.hid (left_prog ht3 hxs (by omega))
          go_wp2_with fail
          refine H3.out.mono ?_
          rintro e w4 ⟨rfl, n2, rfl⟩
          have ht4 := tp_drewN ht3 n2
          have H4 := Lib.hid (left_prog ht4 hxs (by omega))
          go_wp2_with fail
          refine H4.out.mono ?_
          rintro e w5 ⟨rfl, n3, rfl⟩
          have ht5 := tp_drewN ht3 (n2 + n3)
          have H5 := Lib.hid (take_rest ht5 hxs (by omega))
          have hbr : Hid (Below w.heap.size w (w3.drewN (n2 + n3))) := Lib.hid (((hbq.out.trans (hw3.below hbb hbq.out.size)).trans ((Same.of _ _).below _)))
          obtain ⟨X, hX⟩ : ∃ X, X = s.extract x s.size := ⟨_, rfl⟩
          have hXs : X.size = s.size - x := by rw [hX]; simp
          have hXI : (X.size : Int) ≤ 1000 := by omega
          rw [← hX] at H5
          have HX := Lib.hid hX
          have HXS := Lib.hid hXs
          clear hX hXs H2 H3 H4
          go_wp2_with fail
          refine H5.out.mono ?_
          rintro e w6 ⟨rfl, hw6, ht6⟩
          go_wp2_with fail
          go_roundw
          case rel => exact ⟨k + 1, s.size, A ++ X, by simp, by omega, rfl, Lib.hid (by rw [hA.out, HX.out]; exact ext_join s x s.size hxs), Lib.hid (by rw [ByteArray.size_append, hAs.out, HXS.out]; omega), ht6, by omega, hbr.out.trans (hw6.below hbb hbr.out.size)⟩
          case measure => rw [intOf_int, intOf_int]; omega
      · have hgoI2 : ¬ (0 : Int) < (s.size : Int) - (x : Int) := by omega
        go_wp2_with fail
        refine H1.out.mono ?_
        rintro e wq ⟨rfl, n1, rfl⟩
        have hx2 := tp_drewN hx n1
        have H2 := Lib.hid (taken_prog hx2 hxs (by omega))
        clear H1
        go_wp2_with fail
        refine H2.out.mono ?_
        rintro e wq ⟨rfl, rfl⟩
        go_wp2_with fail
        go_ret
        exact ⟨rfl, hbw.trans ((Same.of _ _).below _)⟩
    · have hltI : ¬ (k : Int) < 2000 := by omega
      have H2 := Lib.hid (taken_prog hx hxs (by omega))
      go_wp2_with fail
      refine H2.out.mono ?_
      rintro e wq ⟨rfl, rfl⟩
      go_wp2_with fail
      go_ret
      exact ⟨rfl, hbw⟩
end Go.Proofs.Ytndpdledhjdfeaa
