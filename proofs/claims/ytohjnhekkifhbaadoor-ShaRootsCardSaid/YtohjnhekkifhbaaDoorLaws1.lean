import Derived.Test.YtohjnhekkifhbaaDoorAwake
namespace Go.Proofs.YtohjnhekkifhbaaDoor
open Go.RowKit

theorem printAt (s : ByteArray) (w : World) (hs : s.size ≤ 100000) (S : List UInt8) (hS : sumL s.data.toList = S) :
    Calls Tryd.prog 12 #[.string s] w fun e w' => e = .returned (.string ⟨S.toArray⟩) ∧ Below w.heap.size w w' := by
  subst hS; exact print_ref s w hs
theorem macAt (H : SumOk) (key s : ByteArray) (w : World) (hk : key.size ≤ 10000) (hs : s.size ≤ 10000) (hst : Start w) (S : List UInt8) (hS : macL key.data.toList s.data.toList = S) :
    Calls Tryd.prog 15 #[.string key, .string s] w fun e w' => e = .returned (.string ⟨S.toArray⟩) ∧ Below w.heap.size w w' := by
  subst hS; exact mac_prog H key s w hk hs hst
theorem macrAt (key s : ByteArray) (w : World) (hk : key.size ≤ 10000) (hs : s.size ≤ 10000) (S : List UInt8) (hS : macL key.data.toList s.data.toList = S) :
    Calls Tryd.prog 16 #[.string key, .string s] w fun e w' => e = .returned (.string ⟨S.toArray⟩) ∧ Below w.heap.size w w' := by
  subst hS; exact mac_ref key s w hk hs

theorem belowNext {w0 w w' : World} (h : Below w0.heap.size w0 w) (k : Below w.heap.size w w') : Below w0.heap.size w0 w' := h.trans (k.mono h.size)

theorem keyL_long (k : List UInt8) (h : 64 < k.length) : keyL (sumL k) = keyL k := by
  have hl : (sumL k).length = 32 := sumBy_length _ _ _
  unfold keyL
  rw [if_pos h, if_neg (by omega)]
theorem keyL_short (k : List UInt8) (h : k.length < 64) : keyL (k ++ [0]) = keyL k := by
  unfold keyL
  rw [if_neg (show ¬ 64 < (k ++ [(0 : UInt8)]).length by rw [List.length_append]; show ¬ 64 < k.length + 1; omega), if_neg (show ¬ 64 < k.length by omega)]
  have e : 64 - k.length = (64 - (k ++ [0]).length) + 1 := by simp; omega
  simp only [e, List.replicate_succ, List.append_assoc, List.cons_append, List.nil_append]
theorem macL_key (k k' s : List UInt8) (h : keyL k = keyL k') : macL k s = macL k' s := by unfold macL; rw [h]

set_option maxRecDepth 100000 in
set_option maxHeartbeats 2000000 in
theorem sums_law (H : SumOk) (s : ByteArray) (w : World) (hst : Start w) (hmax : s.size ≤ maxLen) :
    Calls Tryd.prog 3 #[.string s] w fun e w' => e = .returned (.bool true) ∧ Below w.heap.size w w' := by
  have HA := Lib.hid (awake_prog H w hst)
  have HH := Lib.hid H
  have HS := Lib.hid hst
  unfold maxLen at hmax
  clear H hst
  obtain ⟨S, hS⟩ : ∃ S, sumL s.data.toList = S := ⟨_, rfl⟩
  have HSS := Lib.hid hS
  clear hS
  go_enter Tryd.func3, Tryd.ntmps3
  by_cases hbig : 2000 < s.size
  · go_wp2_with fail
    refine HA.out.mono ?_
    rintro e w1 ⟨rfl, hb1⟩
    go_wp2
    go_ret
    exact ⟨rfl, hb1⟩
  · go_wp2_with fail
    refine HA.out.mono ?_
    rintro e w1 ⟨rfl, hb1⟩
    have hst1 := Lib.hid (HS.out.later hb1)
    go_wp2_with fail
    refine (sumAt HH.out s w1 (by omega) hst1.out S HSS.out).mono ?_
    rintro e w2 ⟨rfl, hb2⟩
    go_wp2_with fail
    refine (printAt s w2 (by omega) S HSS.out).mono ?_
    rintro e w3 ⟨rfl, hb3⟩
    go_wp2
    go_ret
    exact ⟨rfl, belowNext (belowNext hb1 hb2) hb3⟩

set_option maxRecDepth 100000 in
set_option maxHeartbeats 2000000 in
theorem seals_law (H : SumOk) (key s : ByteArray) (w : World) (hst : Start w) (hmk : key.size ≤ maxLen) (hmax : s.size ≤ maxLen) :
    Calls Tryd.prog 5 #[.string key, .string s] w fun e w' => e = .returned (.bool true) ∧ Below w.heap.size w w' := by
  have HA := Lib.hid (awake_prog H w hst)
  have HH := Lib.hid H
  have HS := Lib.hid hst
  unfold maxLen at hmax hmk
  clear H hst
  obtain ⟨S, hS⟩ : ∃ S, macL key.data.toList s.data.toList = S := ⟨_, rfl⟩
  have HSS := Lib.hid hS
  clear hS
  go_enter Tryd.func5, Tryd.ntmps5
  by_cases hbig : 500 < key.size
  · go_wp2_with fail
    refine HA.out.mono ?_
    rintro e w1 ⟨rfl, hb1⟩
    go_wp2
    go_ret
    exact ⟨rfl, hb1⟩
  · by_cases hbig2 : 500 < s.size
    · go_wp2_with fail
      refine HA.out.mono ?_
      rintro e w1 ⟨rfl, hb1⟩
      go_wp2
      go_ret
      exact ⟨rfl, hb1⟩
    · go_wp2_with fail
      refine HA.out.mono ?_
      rintro e w1 ⟨rfl, hb1⟩
      have hst1 := Lib.hid (HS.out.later hb1)
      go_wp2_with fail
      refine (macAt HH.out key s w1 (by omega) (by omega) hst1.out S HSS.out).mono ?_
      rintro e w2 ⟨rfl, hb2⟩
      go_wp2_with fail
      refine (macrAt key s w2 (by omega) (by omega) S HSS.out).mono ?_
      rintro e w3 ⟨rfl, hb3⟩
      go_wp2
      go_ret
      exact ⟨rfl, belowNext (belowNext hb1 hb2) hb3⟩

set_option maxRecDepth 100000 in
set_option maxHeartbeats 2000000 in
theorem keys_law (H : SumOk) (key s : ByteArray) (w : World) (hst : Start w) (hmk : key.size ≤ maxLen) (hmax : s.size ≤ maxLen) :
    Calls Tryd.prog 7 #[.string key, .string s] w fun e w' => e = .returned (.bool true) ∧ Below w.heap.size w w' := by
  have HA := Lib.hid (awake_prog H w hst)
  have HH := Lib.hid H
  have HS := Lib.hid hst
  unfold maxLen at hmax hmk
  clear H hst
  obtain ⟨S, hS⟩ : ∃ S, macL key.data.toList s.data.toList = S := ⟨_, rfl⟩
  have HSS := Lib.hid hS
  clear hS
  go_enter Tryd.func7, Tryd.ntmps7
  by_cases hbig : 300 < key.size
  · go_wp2_with fail
    refine HA.out.mono ?_
    rintro e w1 ⟨rfl, hb1⟩
    go_wp2
    go_ret
    exact ⟨rfl, hb1⟩
  · by_cases hbig2 : 300 < s.size
    · go_wp2_with fail
      refine HA.out.mono ?_
      rintro e w1 ⟨rfl, hb1⟩
      go_wp2
      go_ret
      exact ⟨rfl, hb1⟩
    · by_cases hlong : 64 < key.size
      · go_wp2_with fail
        refine HA.out.mono ?_
        rintro e w1 ⟨rfl, hb1⟩
        have hst1 := Lib.hid (HS.out.later hb1)
        go_wp2_with fail
        refine (macAt HH.out key s w1 (by omega) (by omega) hst1.out S HSS.out).mono ?_
        rintro e w2 ⟨rfl, hb2⟩
        have hst2 := Lib.hid (hst1.out.later hb2)
        go_wp2_with fail
        refine (sumAt HH.out key w2 (by omega) hst2.out (sumL key.data.toList) rfl).mono ?_
        rintro e w3 ⟨rfl, hb3⟩
        have hst3 := Lib.hid (hst2.out.later hb3)
        have hl : (sumL key.data.toList).length ≤ 32 := by rw [sumL, sumBy_length]; omega
        go_wp2_with fail
        refine (macAt HH.out _ s w3 (by rw [mk_size]; omega) (by omega) hst3.out S (by rw [← HSS.out]; exact macL_key _ _ _ (keyL_long _ (by simpa using hlong)))).mono ?_
        rintro e w4 ⟨rfl, hb4⟩
        go_wp2
        go_ret
        exact ⟨rfl, belowNext (belowNext (belowNext hb1 hb2) hb3) hb4⟩
      · by_cases h64 : key.size = 64
        · have ht : ((key.size : Int) == 64) = true := by rw [h64]; rfl
          clear h64
          go_wp2_with fail
          refine HA.out.mono ?_
          rintro e w1 ⟨rfl, hb1⟩
          go_wp2
          go_ret
          exact ⟨rfl, hb1⟩
        · have ht : ((key.size : Int) == 64) = false := by
            have : (key.size : Int) ≠ 64 := by omega
            simpa using this
          have hshort : key.size < 64 := by omega
          clear h64
          go_wp2_with fail
          refine HA.out.mono ?_
          rintro e w1 ⟨rfl, hb1⟩
          have hst1 := Lib.hid (HS.out.later hb1)
          go_wp2_with fail
          refine (macAt HH.out key s w1 (by omega) (by omega) hst1.out S HSS.out).mono ?_
          rintro e w2 ⟨rfl, hb2⟩
          have hst2 := Lib.hid (hst1.out.later hb2)
          go_wp2_with fail
          refine (macAt HH.out _ s w2 (by rw [ByteArray.size_append']; show key.size + 1 ≤ 10000; omega) (by omega) hst2.out S (by rw [← HSS.out]; refine macL_key _ _ _ ?_; rw [show (key ++ ⟨#[0]⟩ : ByteArray).data.toList = key.data.toList ++ [0] by simp]; exact keyL_short _ (by simpa using hshort))).mono ?_
          rintro e w3 ⟨rfl, hb3⟩
          go_wp2
          go_ret
          exact ⟨rfl, belowNext (belowNext hb1 hb2) hb3⟩
end Go.Proofs.YtohjnhekkifhbaaDoor
