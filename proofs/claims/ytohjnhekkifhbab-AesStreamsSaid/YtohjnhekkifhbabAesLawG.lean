/- AesStreams: a text under a key and a number is the document's; once more under them it is the text. -/
import Derived.Test.YtohjnhekkifhbabAesRefG
namespace Go.Proofs.Ytohjnhekkifhbab
open Go.RowKit

theorem str_twice (k n s : ByteArray) : strT k n (strT k n s) = s := by
  apply ByteArray.ext
  apply Array.ext
  · have h1 : (strT k n (strT k n s)).size = s.size := by rw [strT_size, strT_size]
    exact h1
  · intro i h1 h2
    have hi : i < s.size := h2
    have e1 : blk (strT k n (strT k n s)) i = blk s i := by
      unfold strT
      rw [blk_outS _ _ _ _ (by rw [outS_size]; exact hi)]
      unfold outB
      rw [blk_outS _ _ _ _ hi]
      unfold outB
      exact x3 _ _
    unfold blk at e1
    rw [Array.getElem?_eq_getElem h1, Array.getElem?_eq_getElem h2] at e1
    exact e1

set_option maxRecDepth 100000 in
set_option maxHeartbeats 4000000 in
theorem streams_law (k n s : ByteArray) (w : World) (hmk : k.size ≤ maxLen) (hmn : n.size ≤ maxLen) (hms : s.size ≤ maxLen) :
    Calls Try.prog 5 #[.string k, .string n, .string s] w fun e w' => e = .returned (.bool true) ∧ Below w.heap.size w w' := by
  unfold maxLen at hmk hmn hms
  have HA := Lib.hid (awake_prog w)
  go_enter Try.func5, Try.ntmps5
  by_cases hbig : 40 < k.size
  · go_wp2_with fail
    refine HA.out.mono ?_
    rintro e w1 ⟨rfl, hb1⟩
    go_wp2
    go_ret
    exact ⟨rfl, hb1⟩
  · by_cases hbig2 : 40 < n.size
    · go_wp2_with fail
      refine HA.out.mono ?_
      rintro e w1 ⟨rfl, hb1⟩
      go_wp2
      go_ret
      exact ⟨rfl, hb1⟩
    · by_cases hbig3 : 200 < s.size
      · go_wp2_with fail
        refine HA.out.mono ?_
        rintro e w1 ⟨rfl, hb1⟩
        go_wp2
        go_ret
        exact ⟨rfl, hb1⟩
      · have d1 : decide ((40 : Int) < (k.size : Int)) = false := by simp; omega
        have d2 : decide ((40 : Int) < (n.size : Int)) = false := by simp; omega
        have d3 : decide ((200 : Int) < (s.size : Int)) = false := by simp; omega
        by_cases hgood : k.size = 16 ∧ n.size = 16
        · obtain ⟨hk, hn⟩ := hgood
          have h2 : ((n.size : Int) != 16) = false := by
            have : (n.size : Int) = 16 := by omega
            simpa using this
          have h3 : ((k.size : Int) != 16) = false := by
            have : (k.size : Int) = 16 := by omega
            simpa using this
          obtain ⟨T, hT⟩ : ∃ T, strT k n s = T := ⟨_, rfl⟩
          have HT := Lib.hid hT
          have HTT : Hid (strT k n T = s) := Lib.hid (by rw [← hT]; exact str_twice k n s)
          have hTs : T.size = s.size := by rw [← hT, strT_size]
          have hts : T.size ≤ 1000000 := by omega
          have HK := Lib.hid hk
          have HN := Lib.hid hn
          clear hT hk hn hTs
          go_wp2_with fail
          refine HA.out.mono ?_
          rintro e w1 ⟨rfl, hb1⟩
          go_wp2_with fail
          refine (streamAt k n s T w1 HK.out HN.out (by omega) HT.out).mono ?_
          rintro e w2 ⟨rfl, hb2⟩
          go_wp2_with fail
          refine (streamAt k n T s w2 HK.out HN.out hts HTT.out).mono ?_
          rintro e w3 ⟨rfl, hb3⟩
          go_wp2_with fail
          refine (boxes_ref w3).mono ?_
          rintro e w4 ⟨g, cap, rfl, hbox, hb4⟩
          go_wp2_with fail
          have hbr := stream_ref k n s g cap w4 HK.out HN.out (by omega) hbox
          rw [HT.out] at hbr
          refine hbr.mono ?_
          clear hbr
          rintro e w5 ⟨rfl, hb5⟩
          go_wp2_with fail
          go_ret
          exact ⟨rfl, belowNext (belowNext (belowNext (belowNext hb1 hb2) hb3) hb4) hb5⟩
        · have HG := Lib.hid hgood
          by_cases hk : k.size = 16
          · have h3 : ((k.size : Int) != 16) = false := by
              have : (k.size : Int) = 16 := by omega
              simpa using this
            have h2 : ((n.size : Int) != 16) = true := by
              have : (n.size : Int) ≠ 16 := by omega
              simpa using this
            clear hgood hk
            go_wp2_with fail
            refine HA.out.mono ?_
            rintro e w1 ⟨rfl, hb1⟩
            go_wp2_with fail
            refine (stream_bad k n s w1 HG.out).mono ?_
            rintro e w2 ⟨rfl, rfl⟩
            go_wp2_with fail
            go_ret
            exact ⟨rfl, hb1⟩
          · have h3 : ((k.size : Int) != 16) = true := by
              have : (k.size : Int) ≠ 16 := by omega
              simpa using this
            clear hgood hk
            go_wp2_with fail
            refine HA.out.mono ?_
            rintro e w1 ⟨rfl, hb1⟩
            go_wp2_with fail
            refine (stream_bad k n s w1 HG.out).mono ?_
            rintro e w2 ⟨rfl, rfl⟩
            go_wp2_with fail
            go_ret
            exact ⟨rfl, hb1⟩
end Go.Proofs.Ytohjnhekkifhbab
