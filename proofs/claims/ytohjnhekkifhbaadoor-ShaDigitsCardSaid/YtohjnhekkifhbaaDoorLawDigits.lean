import Derived.Test.YtohjnhekkifhbaaDoorAwake
namespace Go.Proofs.YtohjnhekkifhbaaDoor
open Go.RowKit

theorem hex_at (s T : ByteArray) (w : World) (hs : s.size ≤ 1000000) (hT : (⟨(hexOf s.data.toList).toArray⟩ : ByteArray) = T) :
    Calls Tryd.prog 17 #[.string s] w fun e w' => e = .returned (.string T) ∧ Below w.heap.size w w' := by subst hT; exact hex_prog s w hs
theorem hexr_at (s T : ByteArray) (w : World) (hs : s.size ≤ 1000000) (hT : (⟨(hexOf s.data.toList).toArray⟩ : ByteArray) = T) :
    Calls Tryd.prog 20 #[.string s] w fun e w' => e = .returned (.string T) ∧ Same w w' := by subst hT; exact hex_ref s w hs
theorem raw_at (s B : ByteArray) (k : Bool) (w : World) (hs : s.size ≤ 1000000) (hB : (⟨((rawOf s.data.toList).getD []).toArray⟩ : ByteArray) = B) (hk : (rawOf s.data.toList).isSome = k) :
    Calls Tryd.prog 18 #[.string s] w fun e w' => e = .returned (.tuple #[.string B, .bool k]) ∧ Below w.heap.size w w' := by subst hB hk; exact raw_prog s w hs
theorem rawr_at (s B : ByteArray) (k : Bool) (w : World) (hs : s.size ≤ 1000000) (hB : (⟨((rawOf s.data.toList).getD []).toArray⟩ : ByteArray) = B) (hk : (rawOf s.data.toList).isSome = k) :
    Calls Tryd.prog 19 #[.string s] w fun e w' => e = .returned (.tuple #[.string B, .bool k]) ∧ Below w.heap.size w w' := by subst hB hk; exact raw_ref s w hs

theorem mk_eta (s : ByteArray) : (⟨s.data.toList.toArray⟩ : ByteArray) = s := by simp

set_option maxRecDepth 100000 in
set_option maxHeartbeats 2000000 in
theorem digits_law (H : SumOk) (s : ByteArray) (w : World) (hst : Start w) (hmax : s.size ≤ maxLen) :
    Calls Tryd.prog 6 #[.string s] w fun e w' => e = .returned (.bool true) ∧ Below w.heap.size w w' := by
  have HA := Lib.hid (awake_prog H w hst)
  unfold maxLen at hmax
  clear H hst
  go_enter Tryd.func6, Tryd.ntmps6
  by_cases hbig : 500 < s.size
  · go_wp2_with fail
    refine HA.out.mono ?_
    rintro e w1 ⟨rfl, hb1⟩
    go_wp2
    go_ret
    exact ⟨rfl, hb1⟩
  · have hs : s.size ≤ 1000000 := by omega
    obtain ⟨T, hT⟩ : ∃ T : ByteArray, (⟨(hexOf s.data.toList).toArray⟩ : ByteArray) = T := ⟨_, rfl⟩
    have hTl : T.data.toList = hexOf s.data.toList := by rw [← hT]
    have hTs : T.size ≤ 1000000 := by rw [← hT, mk_size, hexOf_length]; simp; omega
    have HTT := Lib.hid hT
    have HTL := Lib.hid hTl
    clear hT hTl
    go_wp2_with fail
    refine HA.out.mono ?_
    rintro e w1 ⟨rfl, hb1⟩
    go_wp2_with fail
    refine (hex_at s T w1 hs HTT.out).mono ?_
    rintro e w2 ⟨rfl, hb2⟩
    go_wp2_with fail
    refine (raw_at T s true w2 hTs (by rw [HTL.out, rawOf_hexOf]; exact mk_eta s) (by rw [HTL.out, rawOf_hexOf]; rfl)).mono ?_
    rintro e w3 ⟨rfl, hb3⟩
    have hb13 := hb1.trans ((hb2.trans (hb3.mono hb2.size)).mono hb1.size)
    clear hb1 hb2 hb3
    cases hr : rawOf s.data.toList with
    | none =>
      have HR := Lib.hid hr
      clear hr
      go_wp2_with fail
      refine (raw_at s ⟨#[]⟩ false w3 hs (by rw [HR.out]; rfl) (by rw [HR.out]; rfl)).mono ?_
      rintro e w4 ⟨rfl, hb4⟩
      go_wp2_with fail
      refine (rawr_at s ⟨#[]⟩ false w4 hs (by rw [HR.out]; rfl) (by rw [HR.out]; rfl)).mono ?_
      rintro e w5 ⟨rfl, hb5⟩
      go_wp2_with fail
      refine (hexr_at s T w5 hs HTT.out).mono ?_
      rintro e w6 ⟨rfl, hb6⟩
      go_wp2
      go_ret
      exact ⟨rfl, hb13.trans ((hb4.trans ((hb5.trans (hb6.below _)).mono hb4.size)).mono hb13.size)⟩
    | some l =>
      have hls := hexOf_rawOf _ _ hr
      have hlb : (⟨l.toArray⟩ : ByteArray).size ≤ 1000000 := by
        have h1 := rawOf_length _ _ hr
        rw [Array.length_toList] at h1
        have h2 : s.data.size = s.size := rfl
        have h3 := mk_size l
        omega
      have hh : (⟨(hexOf (⟨l.toArray⟩ : ByteArray).data.toList).toArray⟩ : ByteArray) = s := by
        show (⟨(hexOf l).toArray⟩ : ByteArray) = s
        rw [hls]
      have HR := Lib.hid hr
      have HH := Lib.hid hh
      obtain ⟨B, hB⟩ : ∃ B : ByteArray, (⟨l.toArray⟩ : ByteArray) = B := ⟨_, rfl⟩
      rw [hB] at HH hlb
      have HB := Lib.hid hB
      clear hr hls hh hB
      go_wp2_with fail
      refine (raw_at s B true w3 hs (by rw [HR.out]; exact HB.out) (by rw [HR.out]; rfl)).mono ?_
      rintro e w4 ⟨rfl, hb4⟩
      go_wp2_with fail
      refine (rawr_at s B true w4 hs (by rw [HR.out]; exact HB.out) (by rw [HR.out]; rfl)).mono ?_
      rintro e w5 ⟨rfl, hb5⟩
      go_wp2_with fail
      refine (hexr_at s T w5 hs HTT.out).mono ?_
      rintro e w6 ⟨rfl, hb6⟩
      go_wp2_with fail
      refine (hex_at B s w6 hlb HH.out).mono ?_
      rintro e w7 ⟨rfl, hb7⟩
      go_wp2
      go_ret
      exact ⟨rfl, hb13.trans ((hb4.trans ((hb5.trans ((hb6.below w4.heap.size).trans (hb7.mono (by rw [hb6.size]; exact hb5.size)))).mono hb4.size)).mono hb13.size)⟩
end Go.Proofs.YtohjnhekkifhbaaDoor
