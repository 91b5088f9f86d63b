/- DiskParts: the walk. -/
import Derived.Test.YtalndhnpeapdlaaDAwk
import Derived.Test.YtalndhnpeapdlaaDArgs
namespace Go.Proofs.Ytalndhnpeapdlaa
open Go.RowKit

/-- Two disks that share nothing. -/
def Dj (b : Nat) (v : Value) (c : Nat) (u : Value) : Prop := b ≠ c ∧ (∀ j, v.ownBlock = some j → j ≠ c ∧ u.ownBlock ≠ some j) ∧ ∀ j, u.ownBlock = some j → j ≠ b
theorem Dj.symm {b c : Nat} {v u : Value} (h : Dj b v c u) : Dj c u b v := ⟨h.1.symm, fun j hj => ⟨h.2.2 j hj, fun e => (h.2.1 j e).2 hj⟩, fun j hj => (h.2.1 j hj).1⟩
theorem Dj.step {w w' : World} {b c : Nat} {v v' u : Value} (h : Dj b v c u) (hc : Ch b v w w' v') (hl : c < w.heap.size) (hu : ∀ j, u.ownBlock = some j → j < w.heap.size) : Dj b v' c u := by
  refine ⟨h.1, fun j hj => ?_, h.2.2⟩
  rcases hc.loc j hj with e | e
  · exact h.2.1 j e
  · exact ⟨by omega, fun e2 => by have := hu j e2; omega⟩
theorem Dk.other {w w' : World} {b c n k : Nat} {v v' u : Value} {T : ByteArray} {dn lim : Bool} (h : Dk w c u T n dn lim k) (hj : Dj b v c u) (hc : Ch b v w w' v') : Dk w' c u T n dn lim k :=
  h.keep (hc.block c h.lt hj.1.symm (fun e => (hj.2.1 c e).1 rfl)) (fun j e => hc.block j (h.2.1.lt j e) (hj.2.2 j e) (fun e2 => (hj.2.1 j e2).2 e))
theorem empty_app (s : ByteArray) : (⟨#[]⟩ : ByteArray) ++ s = s := by ext1; simp [ByteArray.data_append]

def PaRel (w : World) (ba bb ln : Nat) (all i : Value) (wr : World) : Prop :=
  ∃ (k : Nat) (A : ByteArray) (va : Value), i = .int .i64 k ∧ all = .string A ∧ k ≤ ln ∧ Hid (A.size ≤ 50 * k) ∧ Hid (Dk wr ba va A 0 false false 0) ∧ Hid (Dk wr bb (.slice none 0 0) ⟨#[]⟩ 0 false false 0) ∧ Hid (Dj ba va bb (.slice none 0 0)) ∧ Hid (∀ j, va.ownBlock = some j → w.heap.size ≤ j) ∧ Hid (Below w.heap.size w wr)

set_option maxRecDepth 30000 in
set_option maxHeartbeats 2000000 in
theorem parts_law (la : Option Addr) (ln lc : Nat) (x : Int) (w : World) (hl : ln ≤ maxLen) (hu : StrsAt w la ln) :
    Calls Try.prog 5 #[.slice la ln lc, .int .i64 x] w fun e w' => e = .returned (.bool true) ∧ Below w.heap.size w w' := by
  unfold maxLen at hl
  have HU := Lib.hid hu
  clear hu
  by_cases hbig : 10 < ln
  · have hI : (10 : Int) < (ln : Int) := by omega
    go_enter Try.func5, Try.ntmps5
    go_wp2_with fail
    refine (awake_prog w).mono ?_
    rintro e w1 ⟨rfl, hb1⟩
    go_wp2_with fail
    go_ret
    exact ⟨rfl, hb1⟩
  have hI : ¬ (10 : Int) < (ln : Int) := by omega
  go_enter Try.func5, Try.ntmps5
  go_wp2_with fail
  refine (awake_prog w).mono ?_
  rintro e w1 ⟨rfl, hb1⟩
  go_wp2_with fail
  refine (new_prog w1).mono ?_
  rintro e w2 ⟨rfl, hd2, hb2⟩
  go_wp2_with fail
  refine (new_prog w2).mono ?_
  rintro e w3 ⟨rfl, he3, hb3⟩
  have hd3 := hd2.later hb3
  have hlt := hd2.lt
  have hs1 := hb1.size
  have hs2 := hb2.size
  have hB3 : Below w.heap.size w w3 := (hb1.trans (hb2.mono hs1)).trans (hb3.mono (by omega))
  have hne : w1.heap.size ≠ w2.heap.size := by omega
  have hs3 : w.heap.size ≤ w2.heap.size := by omega
  obtain ⟨ba, hba⟩ : ∃ ba, w1.heap.size = ba := ⟨_, rfl⟩
  obtain ⟨bb, hbb⟩ : ∃ bb, w2.heap.size = bb := ⟨_, rfl⟩
  have hj3 : Dj ba (.slice none 0 0) bb (.slice none 0 0) := ⟨by omega, (fun j hj => by cases hj), (fun j hj => by cases hj)⟩
  rw [hba] at hs1 hd3 ⊢
  rw [hbb] at hs3 he3 ⊢
  have HBA := Lib.hid hs1
  have HBB := Lib.hid hs3
  have HD3 := Lib.hid hd3
  have HE3 := Lib.hid he3
  have HJ3 := Lib.hid hj3
  have HB3 := Lib.hid hB3
  clear hd2 hb2 hb1 hb3 he3 hd3 hlt hs1 hs2 hs3 hB3 hj3 hba hbb hne
  go_wp2_with fail
  go_loopw [7, 23] (PaRel w ba bb ln) (fun _ i _ => 10 - (intOf i).toNat)
  case atStart => exact ⟨0, ⟨#[]⟩, _, rfl, rfl, by omega, Lib.hid (by decide), HD3, HE3, HJ3, Lib.hid (fun j hj => by cases hj), HB3⟩
  case round =>
    obtain ⟨k, A, va, rfl, rfl, hk, hA, HD, HE, HJ, HV, HB⟩ := hrel
    clear HD3 HE3 HJ3 HB3
    have hk0 : (0 : Int) ≤ (k : Int) := by omega
    have hAs : A.size ≤ 500 := by have := hA.out; omega
    by_cases hkl : k < ln
    · obtain ⟨g, o, s, rfl, hg, hs, hc⟩ := HU.out k hkl
      have hc' : wr.cell? ⟨g, o + k, none⟩ = some (.string s) := by rw [HB.out.cell (p := ⟨g, o + k, none⟩) hg]; exact hc
      have hkI : (k : Int) < (ln : Int) := by omega
      unfold maxLen at hs
      clear hc
      by_cases h50 : 50 < s.size
      · have h50I : (50 : Int) < (s.size : Int) := by omega
        go_wp2_with fail
        go_ret
        exact ⟨rfl, HB.out⟩
      · have h50I : ¬ (50 : Int) < (s.size : Int) := by omega
        have hadd : ¬ (9223372036854775807 < A.size + s.size) := by omega
        have H1 := Lib.hid (append_free HD.out s (by omega))
        go_wp2_with fail
        refine H1.out.mono ?_
        rintro e w4 ⟨rfl, v4, hd4, hc4⟩
        have hlb : Hid (bb < wr.heap.size) := Lib.hid HE.out.lt
        have HD4 := Lib.hid hd4
        have HE4 := Lib.hid (HE.out.other HJ.out hc4)
        have HJ4 := Lib.hid (HJ.out.step hc4 hlb.out (fun j hj => by cases hj))
        have HV4 := Lib.hid (hc4.low HV.out HB.out.size)
        have HB4 := Lib.hid (HB.out.trans (hc4.below HBA.out HV.out HB.out.size))
        have hA4 : Hid ((A ++ s).size ≤ 50 * (k + 1)) := Lib.hid (by rw [ByteArray.size_append]; have := hA.out; omega)
        clear hd4 hc4 H1
        go_wp2_with fail
        go_roundw
        case rel => exact ⟨k + 1, A ++ s, v4, by simp, rfl, by omega, hA4, HD4, HE4, HJ4, HV4, HB4⟩
        case measure => simp [intOf]; omega
    · have hkI : ¬ (k : Int) < (ln : Int) := by omega
      have H1 := append_free HE.out A (by have : (ByteArray.mk #[]).size = 0 := rfl; omega)
      rw [empty_app] at H1
      have H1 := Lib.hid H1
      go_wp2_with fail
      refine H1.out.mono ?_
      rintro e w4 ⟨rfl, v4, hd4, hc4⟩
      have hla : Hid (ba < wr.heap.size) := Lib.hid HD.out.lt
      have HA4 := Lib.hid (HD.out.other HJ.out.symm hc4)
      have HJ4 := Lib.hid (HJ.out.symm.step hc4 hla.out (HD.out.2.1.lt))
      have HV4 := Lib.hid (hc4.low (fun j hj => by cases hj) HB.out.size)
      have HB4 := Lib.hid (HB.out.trans (hc4.below HBB.out (fun j hj => by cases hj) HB.out.size))
      have HD4 := Lib.hid hd4
      clear hd4 hc4 H1 hla HD HE HJ HB
      have e0 : (A.size : Int) - ((0 : Nat) : Int) = (A.size : Int) := by omega
      have H2 := waits_prog HA4.out (by omega) (by omega)
      rw [e0] at H2
      have H2 := Lib.hid H2
      go_wp2_with fail
      refine H2.out.mono ?_
      rintro e w5 ⟨rfl, q5, rfl⟩
      have H3 := waits_prog (HD4.out.drewN q5) (by omega) (by omega)
      rw [e0] at H3
      have H3 := Lib.hid H3
      clear H2
      go_wp2_with fail
      refine H3.out.mono ?_
      rintro e w6 ⟨rfl, q6, rfl⟩
      have HA6 := Lib.hid (HA4.out.drewN (q5 + q6))
      have HD6 := Lib.hid (HD4.out.drewN (q5 + q6))
      have HB6 := Lib.hid (HB4.out.trans ((Same.of w4 (q5 + q6)).below _))
      have H4 := Lib.hid (crash_prog HA6.out (by omega) (by omega) x)
      obtain ⟨m, hm⟩ : ∃ m, 0 + min x.toNat (A.size - 0) = m := ⟨_, rfl⟩
      rw [hm] at H4
      clear H3 HA4 HD4 HB4
      go_wp2_with fail
      refine H4.out.mono ?_
      rintro e w8 ⟨rfl, v8, ha8, hc8⟩
      have hlb : Hid (bb < (w4.drewN (q5 + q6)).heap.size) := Lib.hid HD6.out.lt
      have HD8 := Lib.hid (HD6.out.other HJ4.out.symm hc8)
      have HJ8 := Lib.hid (HJ4.out.symm.step hc8 hlb.out HD6.out.2.1.lt)
      have HV8 := Lib.hid (hc8.low HV.out HB6.out.size)
      have HB8 := Lib.hid (HB6.out.trans (hc8.below HBA.out HV.out HB6.out.size))
      have HA8 := Lib.hid ha8
      have H5 := crash_prog HD8.out (by omega) (by omega) x
      rw [hm] at H5
      have H5 := Lib.hid H5
      clear H4 ha8 hc8 hlb HA6 HD6 HB6 HJ4 HV hm
      go_wp2_with fail
      refine H5.out.mono ?_
      rintro e w9 ⟨rfl, v9, hd9, hc9⟩
      have HA9 := Lib.hid (HA8.out.other HJ8.out.symm hc9)
      have HB9 := Lib.hid (HB8.out.trans (hc9.below HBB.out HV4.out HB8.out.size))
      have H6 := Lib.hid (read_free HA9.out)
      have H7 := Lib.hid (read_free hd9)
      obtain ⟨R, hR⟩ : ∃ R, A.extract 0 m = R := ⟨_, rfl⟩
      rw [hR] at H6 H7
      clear H5 HA8 HD8 HB8 HJ8 HV8 HV4 hc9 hd9 HA9 hR
      go_wp2_with fail
      refine H6.out.mono ?_
      rintro e w10 ⟨rfl, rfl⟩
      clear H6
      go_wp2_with fail
      refine H7.out.mono ?_
      rintro e w11 ⟨rfl, rfl⟩
      clear H7
      go_wp2_with fail
      go_ret
      exact ⟨rfl, HB9.out⟩
end Go.Proofs.Ytalndhnpeapdlaa
