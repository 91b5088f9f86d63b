import Derived.Test.YtohjnhekkifhbaaDoorShaEnd2
import Derived.Test.YtohjnhekkifhbaaDoorRawProg
import Derived.Test.YtohjnhekkifhbaaDoorRawRef
import Derived.Test.YtohjnhekkifhbaaDoorShaRef3
namespace Go.Proofs.YtohjnhekkifhbaaDoor
open Go.RowKit

/-- The package-level variable 'start' holds its numbers. -/
def Start (w : World) : Prop := 0 < w.heap.size ∧ ∀ j, j < 8 → w.cell? ⟨0, j, none⟩ = some (u32V (X0.at j))
theorem Start.later {w w' : World} (h : Start w) (hb : Below w.heap.size w w') : Start w' :=
  ⟨Nat.lt_of_lt_of_le h.1 hb.size, fun j hj => cellBelow hb h.1 (h.2 j hj)⟩
theorem masked_at (s : ByteArray) (m : UInt8) (mi : Int) (A : List UInt8) (w : World) (hm : mi = (m.toNat : Int)) (hs : s.size ≤ 64) (hA : xorL (s.data.toList ++ List.replicate (64 - s.size) 0) m = A) :
    Calls Tryd.prog 33 #[.string s, .int .u8 mi] w fun e w' => e = .returned (.string ⟨A.toArray⟩) ∧ Below w.heap.size w w' := by
  subst hm hA; exact masked_prog s m w hs

theorem sumAt (H : ∀ (s : ByteArray) (w : World), s.size ≤ 100000 → Start w → Calls Tryd.prog 11 #[.string s] w fun e w' => e = .returned (.string ⟨(sumL s.data.toList).toArray⟩) ∧ Below w.heap.size w w') (s : ByteArray) (w : World) (hs : s.size ≤ 100000) (hst : Start w) (S : List UInt8) (hS : sumL s.data.toList = S) :
    Calls Tryd.prog 11 #[.string s] w fun e w' => e = .returned (.string ⟨S.toArray⟩) ∧ Below w.heap.size w w' := by
  subst hS; exact H s w hs hst
def SumOk : Prop := ∀ (s : ByteArray) (w : World), s.size ≤ 100000 → Start w →
  Calls Tryd.prog 11 #[.string s] w fun e w' => e = .returned (.string ⟨(sumL s.data.toList).toArray⟩) ∧ Below w.heap.size w w'

set_option maxRecDepth 100000 in
set_option maxHeartbeats 2000000 in
theorem mac_prog (H : SumOk) (key s : ByteArray) (w : World) (hk : key.size ≤ 10000) (hs : s.size ≤ 10000) (hst : Start w) :
    Calls Tryd.prog 15 #[.string key, .string s] w fun e w' => e = .returned (.string ⟨(macL key.data.toList s.data.toList).toArray⟩) ∧ Below w.heap.size w w' := by
  obtain ⟨q, hq⟩ : ∃ q, q = if 64 < key.data.toList.length then sumL key.data.toList else key.data.toList := ⟨_, rfl⟩
  have hql : q.length ≤ 64 := by
    rw [hq]; split
    · rw [sumL, sumBy_length]; omega
    · omega
  have hK : Hid (keyL key.data.toList = q ++ List.replicate (64 - q.length) 0) := Lib.hid (by rw [hq]; rfl)
  have HH := Lib.hid H
  have HS := Lib.hid hst
  clear H hst
  go_enter Tryd.func15, Tryd.ntmps15
  by_cases hbig : 64 < key.size
  all_goals
    first
      | (rw [if_pos (by simpa using hbig)] at hq)
      | (rw [if_neg (by simpa using hbig)] at hq)
    obtain ⟨kb, hkb⟩ : ∃ kb : ByteArray, kb = ⟨q.toArray⟩ := ⟨_, rfl⟩
    have hkd : kb.data.toList = q := by rw [hkb]
    have hks : kb.size ≤ 64 := by rw [hkb, mk_size]; exact hql
    have hksz : kb.size = q.length := by rw [hkb, mk_size]
    have HKD := Lib.hid hkd
    have HKZ := Lib.hid hksz
    have hx := keyL_length key.data.toList
    rw [hK.out] at hx
    have la : (xorL (q ++ List.replicate (64 - q.length) 0) 92).length ≤ 64 := by rw [xorL, List.length_map]; omega
    have lb : (xorL (q ++ List.replicate (64 - q.length) 0) 54).length ≤ 64 := by rw [xorL, List.length_map]; omega
    have hres : Hid (macL key.data.toList s.data.toList = sumL (xorL (q ++ List.replicate (64 - q.length) 0) 92 ++ sumL (xorL (q ++ List.replicate (64 - q.length) 0) 54 ++ s.data.toList))) := Lib.hid (by rw [← hK.out]; rfl)
    clear hkd hksz hx
    obtain ⟨A, hA⟩ : ∃ A, A = xorL (q ++ List.replicate (64 - q.length) 0) 92 := ⟨_, rfl⟩
    obtain ⟨C, hC⟩ : ∃ C, C = xorL (q ++ List.replicate (64 - q.length) 0) 54 := ⟨_, rfl⟩
    rw [← hA] at la hres
    rw [← hC] at lb hres
    have HA : Hid (xorL (kb.data.toList ++ List.replicate (64 - kb.size) 0) 92 = A) := Lib.hid (by rw [HKD.out, HKZ.out, hA])
    have HC : Hid (xorL (kb.data.toList ++ List.replicate (64 - kb.size) 0) 54 = C) := Lib.hid (by rw [HKD.out, HKZ.out, hC])
    have HQ := Lib.hid hq
    have HKB := Lib.hid hkb
    clear hA hC hq hkb
    go_wp2_with fail
  · have hc := sumAt HH.out key w (by omega) HS.out q HQ.out.symm
    rw [← HKB.out] at hc
    refine hc.mono ?_
    clear hc
    rintro e w1 ⟨rfl, hb1⟩
    have hst1 := Lib.hid (HS.out.later hb1)
    go_wp2_with fail
    refine (masked_at kb 92 92 A w1 rfl hks HA.out).mono ?_
    rintro e w2 ⟨rfl, hb2⟩
    have hst2 := Lib.hid (hst1.out.later hb2)
    go_wp2_with fail
    refine (masked_at kb 54 54 C w2 rfl hks HC.out).mono ?_
    rintro e w3 ⟨rfl, hb3⟩
    have hst3 := Lib.hid (hst2.out.later hb3)
    go_wp2_with fail
    refine (sumAt HH.out _ w3 (by rw [ByteArray.size_append', mk_size]; omega) hst3.out (sumL (C ++ s.data.toList)) (by simp)).mono ?_
    rintro e w4 ⟨rfl, hb4⟩
    have hst4 := Lib.hid (hst3.out.later hb4)
    have hs5 : (sumL (C ++ s.data.toList)).length ≤ 32 := by rw [sumL, sumBy_length]; omega
    obtain ⟨S5, hS5⟩ : ∃ S5, S5 = sumL (C ++ s.data.toList) := ⟨_, rfl⟩
    rw [← hS5] at hs5 hres ⊢
    clear hS5
    go_wp2_with fail
    refine (sumAt HH.out _ w4 (by rw [ByteArray.size_append', mk_size, mk_size]; omega) hst4.out (sumL (A ++ S5)) (by simp)).mono ?_
    rintro e w5 ⟨rfl, hb5⟩
    go_wp2
    go_ret
    refine ⟨by rw [hres.out]; rfl, ?_⟩
    exact hb1.trans ((hb2.trans ((hb3.trans ((hb4.trans (hb5.mono hb4.size)).mono hb3.size)).mono hb2.size)).mono hb1.size)
  · have hkq : kb = key := by rw [HKB.out, HQ.out]
    rw [hkq] at hks HA HC
    clear hkq
    go_wp2_with fail
    refine (masked_at key 92 92 A w rfl hks HA.out).mono ?_
    rintro e w2 ⟨rfl, hb2⟩
    have hst2 := Lib.hid (HS.out.later hb2)
    go_wp2_with fail
    refine (masked_at key 54 54 C w2 rfl hks HC.out).mono ?_
    rintro e w3 ⟨rfl, hb3⟩
    have hst3 := Lib.hid (hst2.out.later hb3)
    go_wp2_with fail
    refine (sumAt HH.out _ w3 (by rw [ByteArray.size_append', mk_size]; omega) hst3.out (sumL (C ++ s.data.toList)) (by simp)).mono ?_
    rintro e w4 ⟨rfl, hb4⟩
    have hst4 := Lib.hid (hst3.out.later hb4)
    have hs5 : (sumL (C ++ s.data.toList)).length ≤ 32 := by rw [sumL, sumBy_length]; omega
    obtain ⟨S5, hS5⟩ : ∃ S5, S5 = sumL (C ++ s.data.toList) := ⟨_, rfl⟩
    rw [← hS5] at hs5 hres ⊢
    clear hS5
    go_wp2_with fail
    refine (sumAt HH.out _ w4 (by rw [ByteArray.size_append', mk_size, mk_size]; omega) hst4.out (sumL (A ++ S5)) (by simp)).mono ?_
    rintro e w5 ⟨rfl, hb5⟩
    go_wp2
    go_ret
    refine ⟨by rw [hres.out]; rfl, ?_⟩
    exact hb2.trans ((hb3.trans ((hb4.trans (hb5.mono hb4.size)).mono hb3.size)).mono hb2.size)

theorem hex_abc : (hexOf (sumL [97, 98, 99])).take 8 = [98, 97, 55, 56, 49, 54, 98, 102] := by decide +kernel

set_option maxRecDepth 100000 in
set_option maxHeartbeats 2000000 in
theorem awake_prog (H : SumOk) (w : World) (hst : Start w) :
    Calls Tryd.prog 10 #[] w fun e w' => e = .returned (.bool true) ∧ Below w.heap.size w w' := by
  have HH := Lib.hid H
  have HS := Lib.hid hst
  clear H hst
  obtain ⟨S, hS⟩ : ∃ S, S = sumL [97, 98, 99] := ⟨_, rfl⟩
  have hSl : S.length = 32 := by rw [hS, sumL, sumBy_length]
  obtain ⟨T, hT⟩ : ∃ T, T = hexOf S := ⟨_, rfl⟩
  have hTl : T.length = 64 := by rw [hT, hexOf_length, hSl]
  have hT8 : T.take 8 = [98, 97, 55, 56, 49, 54, 98, 102] := by rw [hT, hS]; exact hex_abc
  obtain ⟨M, hM⟩ : ∃ M, M = macL [107] [] := ⟨_, rfl⟩
  have hMl : M.length = 32 := by rw [hM, macL, sumL, sumBy_length]
  have t1 : ((T.length : Int) == 64) = true := by rw [hTl]; rfl
  have t2 : (8 : Int) ≤ (T.length : Int) := by rw [hTl]; decide
  have t3 : (⟨T.toArray⟩ : ByteArray).extract 0 8 = ⟨[98, 97, 55, 56, 49, 54, 98, 102].toArray⟩ := by
    apply ByteArray.ext; apply Array.toList_inj.1; simp [hT8]
  have t4 : ((M.length : Int) == 32) = true := by rw [hMl]; rfl
  have HT := Lib.hid hT
  have HM := Lib.hid hM
  have HSE := Lib.hid hS
  have hSl2 : S.length ≤ 32 := by omega
  clear hT hM hS hT8 hTl hMl hSl
  go_enter Tryd.func10, Tryd.ntmps10
  go_wp2_with fail
  refine (sumAt HH.out ⟨#[97, 98, 99]⟩ w (by decide) HS.out S HSE.out.symm).mono ?_
  rintro e w1 ⟨rfl, hb1⟩
  have hst1 := Lib.hid (HS.out.later hb1)
  go_wp2_with fail
  refine (hex_prog ⟨S.toArray⟩ w1 (by rw [mk_size]; omega)).mono ?_
  rw [show hexOf ((⟨S.toArray⟩ : ByteArray).data.toList) = T from HT.out.symm]
  rintro e w2 ⟨rfl, hb2⟩
  have hst2 := Lib.hid (hst1.out.later hb2)
  go_wp2_with fail
  have hm := mac_prog HH.out ⟨#[107]⟩ ⟨#[]⟩ w2 (by decide) (by decide) hst2.out
  rw [show macL ((⟨#[107]⟩ : ByteArray).data.toList) ((⟨#[]⟩ : ByteArray).data.toList) = M from HM.out.symm] at hm
  refine hm.mono ?_
  clear hm
  rintro e w3 ⟨rfl, hb3⟩
  go_wp2
  go_ret
  exact ⟨rfl, hb1.trans ((hb2.trans (hb3.mono hb2.size)).mono hb1.size)⟩
end Go.Proofs.YtohjnhekkifhbaaDoor
