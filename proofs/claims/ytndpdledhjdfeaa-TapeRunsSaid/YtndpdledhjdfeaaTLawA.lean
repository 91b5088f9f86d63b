/- TapeApart. -/
import Derived.Test.YtndpdledhjdfeaaTAwk
import Derived.Test.YtndpdledhjdfeaaArgs
namespace Go.Proofs.Ytndpdledhjdfeaa
open Go.RowKit

def ApRel (s : ByteArray) (w : World) (ba bb ln : Nat) (i : Value) (wr : World) : Prop :=
  ∃ k x y : Nat, i = .int .i64 k ∧ k ≤ ln ∧ Tp wr ba s x ∧ Tp wr bb s y ∧ x ≤ s.size ∧ y ≤ s.size ∧ Below w.heap.size w wr
theorem tk_cases (s : ByteArray) (a m : Nat) : (a + m ≤ s.size ∧ tkX s a m = s.extract a (a + m) ∧ tkE s a m = 0 ∧ tkA s a m = a + m) ∨ (¬ a + m ≤ s.size ∧ tkX s a m = ⟨#[]⟩ ∧ tkE s a m = 2 ∧ tkA s a m = a) := by
  by_cases h : a + m ≤ s.size
  · exact .inl ⟨h, tk_ok h⟩
  · exact .inr ⟨h, tk_few (by omega) (by omega)⟩

set_option maxRecDepth 30000 in
set_option maxHeartbeats 2000000 in
theorem apart_law (s : ByteArray) (la : Option Addr) (ln lc : Nat) (w : World) (hs : s.size ≤ maxLen) (hl : ln ≤ maxLen) (hu : U8s w la ln) :
    Calls Try.prog 6 #[.string s, .slice la ln lc] w fun e w' => e = .returned (.bool true) ∧ Below w.heap.size w w' := by
  unfold maxLen at hs hl
  have HU := Lib.hid hu
  clear hu
  by_cases hbig : 200 < s.size
  · have hI : (200 : Int) < (s.size : Int) := by omega
    go_enter Try.func6, Try.ntmps6
    go_wp2_with fail
    refine (awake_prog w).mono ?_
    rintro e w1 ⟨rfl, hb1⟩
    go_wp2_with fail
    go_ret
    exact ⟨rfl, hb1⟩
  have hI : ¬ (200 : Int) < (s.size : Int) := by omega
  by_cases hbig2 : 30 < ln
  · have hI2 : (30 : Int) < (ln : Int) := by omega
    go_enter Try.func6, Try.ntmps6
    go_wp2_with fail
    refine (awake_prog w).mono ?_
    rintro e w1 ⟨rfl, hb1⟩
    go_wp2_with fail
    go_ret
    exact ⟨rfl, hb1⟩
  have hI2 : ¬ (30 : Int) < (ln : Int) := by omega
  go_enter Try.func6, Try.ntmps6
  go_wp2_with fail
  refine (awake_prog w).mono ?_
  rintro e w1 ⟨rfl, hb1⟩
  go_wp2_with fail
  refine (new_prog s w1 (by omega)).mono ?_
  rintro e w2 ⟨ba, rfl, hba, hta, hw2⟩
  go_wp2_with fail
  refine (new_prog s w2 (by omega)).mono ?_
  rintro e w3 ⟨bb, rfl, hbb, htb, hw3⟩
  have hta3 := tp_below hta hw3
  have hlta := tp_lt hta
  have hs1 := hb1.size
  have hs2 := hw2.size
  have hne : ba ≠ bb := by omega
  have hba0 : w.heap.size ≤ ba := by omega
  have hbb0 : w.heap.size ≤ bb := by omega
  have hb3 : Below w.heap.size w w3 := (hb1.trans (hw2.mono hs1)).trans (hw3.mono (by omega))
  clear hta hlta hs1 hs2 hba hbb hb1 hw2 hw3
  go_wp2_with fail
  go_loopw [28] (ApRel s w ba bb ln) (fun i _ => ln - (intOf i).toNat)
  case atStart => exact ⟨0, 0, 0, rfl, by omega, hta3, htb, by omega, by omega, hb3⟩
  case round =>
    obtain ⟨k, x, y, rfl, hk, hx, hy, hxs, hys, hb⟩ := hrel
    clear hta3 htb hb3
    by_cases hlt : k < ln
    · obtain ⟨g, o, z, rfl, hg, hz, hc⟩ := HU.out k hlt
      have hc' : wr.cell? ⟨g, o + k, none⟩ = some (.int .u8 z) := by rw [hb.cell (p := ⟨g, o + k, none⟩) hg]; exact hc
      have hltI : (k : Int) < (ln : Int) := by omega
      have hk0 : (0 : Int) ≤ (k : Int) := by omega
      have hzI : (z : Int) ≤ 255 := by omega
      have hz0 : (0 : Int) ≤ (z : Int) := by omega
      clear hc
      obtain ⟨q, hq, hq3⟩ : ∃ q : Nat, (z : Int) % 4 = (q : Int) ∧ q ≤ 3 := ⟨z % 4, by omega, by omega⟩
      have hqI : (q : Int) ≤ 3 := by omega
      have hq0 : (0 : Int) ≤ (q : Int) := by omega
      have H1 := Lib.hid (taken_prog hx hxs (by omega))
      go_wp2_with fail
      refine H1.out.mono ?_
      rintro e wq ⟨rfl, rfl⟩
      have H2 := Lib.hid (take_prog (z : Int) hy hys (by omega))
      go_wp2_with fail
      refine H2.out.mono ?_
      rintro e w4 ⟨rfl, hbt, hy4⟩
      have hx4 := tp_keep hx hbt hne
      have H3 := Lib.hid (taken_prog hx4 hxs (by omega))
      clear H1 H2
      go_wp2_with fail
      refine H3.out.mono ?_
      rintro e wq2 ⟨rfl, rfl⟩
      have H4 := Lib.hid (take_prog (q : Int) hx4 hxs (by omega))
      clear H3
      have hb4 : Hid (Below w.heap.size w wq2) := Lib.hid (hb.trans (hbt.below hbb0 hb.size))
      rcases tk_cases s x q with ⟨hok, e1, e2, e3⟩ | ⟨hok, e1, e2, e3⟩
      · rw [e1, e2, e3] at H4
        clear e1 e2 e3
        have hokI : (x : Int) + (q : Int) ≤ (s.size : Int) := by omega
        have hx0 : (0 : Int) ≤ (x : Int) := by omega
        have HOK := Lib.hid hok
        clear hok
        go_wp2_with fail
        refine H4.out.mono ?_
        rintro e w5 ⟨rfl, hat, hx5⟩
        go_wp2_with fail
        go_roundw
        case rel => exact ⟨k + 1, x + q, tkA s y z, by simp, by omega, hx5, tp_keep hy4 hat (Ne.symm hne), HOK.out, tkA_le _ hys, hb4.out.trans (hat.below hba0 hb4.out.size)⟩
        case measure => rw [intOf_int, intOf_int]; omega
      · rw [e1, e2, e3] at H4
        clear e1 e2 e3
        go_wp2_with fail
        refine H4.out.mono ?_
        rintro e w5 ⟨rfl, hat, hx5⟩
        go_wp2_with fail
        go_roundw
        case rel => exact ⟨k + 1, x, tkA s y z, by simp, by omega, hx5, tp_keep hy4 hat (Ne.symm hne), hxs, tkA_le _ hys, hb4.out.trans (hat.below hba0 hb4.out.size)⟩
        case measure => rw [intOf_int, intOf_int]; omega
    · have hltI : ¬ (k : Int) < (ln : Int) := by omega
      have G1 := Lib.hid (taken_prog hx hxs (by omega))
      have G2 := Lib.hid (left_prog hx hxs (by omega))
      go_wp2_with fail
      refine G1.out.mono ?_
      rintro e wq ⟨rfl, rfl⟩
      go_wp2_with fail
      refine G2.out.mono ?_
      rintro e wq2 ⟨rfl, n1, rfl⟩
      have hy2 := tp_drewN hy n1
      have G3 := Lib.hid (taken_prog hy2 hys (by omega))
      have G4 := Lib.hid (left_prog hy2 hys (by omega))
      clear G1 G2
      have hxI : (x : Int) ≤ (s.size : Int) := by omega
      have hyI : (y : Int) ≤ (s.size : Int) := by omega
      go_wp2_with fail
      refine G3.out.mono ?_
      rintro e wq3 ⟨rfl, rfl⟩
      go_wp2_with fail
      refine G4.out.mono ?_
      rintro e wq4 ⟨rfl, n2, rfl⟩
      go_wp2_with fail
      have he : ((y : Int) + ((s.size : Int) - (y : Int)) == (s.size : Int)) = true := by simp only [beq_iff_eq]; omega
      go_ret
      refine ⟨?_, hb.trans ((Same.of _ _).below _)⟩
      rw [he]; rfl
end Go.Proofs.Ytndpdledhjdfeaa
