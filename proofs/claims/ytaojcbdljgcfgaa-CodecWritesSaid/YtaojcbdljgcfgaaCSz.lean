/- vidimusref03.size. -/
import Derived.Test.YtaojcbdljgcfgaaCFs
namespace Go.Proofs.Ytaojcbdljgcfgaa
open Go.RowKit

def RsRes (s : ByteArray) (A : Nat) (w : World) (e : Ending) (w' : World) : Prop :=
  ∃ (m en : Int), e = .returned (.tuple #[.int .i64 m, .int .i64 en]) ∧ w = w' ∧
    ((en = -1 ∧ szP 4 (s.data.toList.drop A) = none) ∨ ∃ (M E : Nat), m = M ∧ en = E ∧ A < E ∧ E ≤ s.size ∧ szP 4 (s.data.toList.drop A) = some (M, s.data.toList.drop E))
def RsRel (s : ByteArray) (A : Nat) (w : World) (a sh i : Value) (wr : World) : Prop :=
  ∃ (k p acc : Nat) (z : Int), k ≤ 4 ∧ Hid (p = A + k) ∧ p ≤ s.size ∧ i = .int .i64 p ∧ a = .int .i64 acc ∧ sh = .int .i64 z ∧ Hid (z = 128 ^ k) ∧ acc < 128 ^ k ∧ Hid (szQ k acc (4 - k) (s.data.toList.drop p) = szP 4 (s.data.toList.drop A)) ∧ w = wr
theorem RsEnd {a b c d : Int} (h : a = b) (k : c = d) : Ending.returned (.tuple #[.int .i64 a, .int .i64 c]) = .returned (.tuple #[.int .i64 b, .int .i64 d]) := by rw [h, k]

set_option maxRecDepth 30000 in
set_option maxHeartbeats 1000000 in
theorem size_ref (s : ByteArray) (A : Nat) (w : World) (hs : s.size ≤ 100000000) (hA : A ≤ s.size) : Calls Try.prog 44 #[.string s, .int .i64 A] w (RsRes s A w) := by
  have hsI : (s.size : Int) ≤ 100000000 := by omega
  have hAI : (A : Int) ≤ (s.size : Int) := by omega
  have hA0 : (0 : Int) ≤ (A : Int) := by omega
  go_enter Try.func44, Try.ntmps44
  go_wp2_with fail
  go_loopw [6, 7, 8] (RsRel s A w) (fun _ _ i _ => (A + 4) - (intOf i).toNat)
  case atStart => exact ⟨0, A, 0, 1, by omega, Lib.hid rfl, hA, rfl, rfl, rfl, Lib.hid rfl, by omega, Lib.hid (szQ_start _ _), rfl⟩
  case round =>
    obtain ⟨k, p, acc, z, hk4, hp, hps, rfl, rfl, rfl, hz, hacc, hQ, rfl⟩ := hrel
    have hp0 : (0 : Int) ≤ (p : Int) := by omega
    by_cases hlt : k < 4 ∧ p < s.size
    · obtain ⟨hl4, hls⟩ := hlt
      have hlsI : (p : Int) < (s.size : Int) := by omega
      have hl4I : (p : Int) < (A : Int) + 4 := by have := hp.out; omega
      have hdrop : s.data.toList.drop p = s[p] :: s.data.toList.drop (p + 1) := by
        rw [List.drop_eq_getElem_cons (by simpa using hls)]; rfl
      obtain ⟨c, hc⟩ : ∃ c, c = s[p] := ⟨_, rfl⟩
      have hc256 := c.toNat_lt
      have hb0 : (0 : Int) ≤ (c.toNat : Int) := by omega
      have hb1 : (c.toNat : Int) ≤ 255 := by omega
      have hQ2 := hQ.out
      rw [hdrop, ← hc] at hQ2
      have HC := Lib.hid hc
      clear hdrop hQ
      by_cases hcs : c.toNat < 128
      · have hlast := szQ_last k acc (4 - k - 1) c (s.data.toList.drop (p + 1)) hcs
        rw [show 4 - k - 1 + 1 = 4 - k by omega] at hlast
        rw [hlast] at hQ2
        obtain ⟨B, hB⟩ : ∃ B, B = acc + 128 ^ k * c.toNat := ⟨_, rfl⟩
        rw [← hB] at hQ2
        have HB := Lib.hid hB
        have hzz := hz.out
        have hlt128 : (c.toNat : Int) < 128 := by omega
        clear hlast hcs hB hz
        by_cases hc0 : c.toNat = 0
        · have hz0 : ((c.toNat : Int) == 0) = true := by rw [hc0]; rfl
          by_cases hk0 : k = 0
          · have hnA : ¬ ((A : Int) < (p : Int)) := by have := hp.out; omega
            have HQ := Lib.hid hQ2
            have HC0 := Lib.hid hc0
            clear hQ2 hc0
            subst hk0
            obtain rfl : z = 1 := hzz
            rw [hc] at hlt128 hz0 hb0 hb1
            clear hc
            go_wp2_with fail
            go_ret2
            refine ⟨_, _, rfl, rfl, .inr ⟨B, p + 1, ?_, by simp, by have := hp.out; omega, by omega, ?_⟩⟩
            · rw [HB.out, HC.out]; omega
            · rw [← HQ.out, if_neg (by omega)]
          · have hnA : (A : Int) < (p : Int) := by have := hp.out; omega
            have HQ : Hid (szP 4 (s.data.toList.drop A) = none) := Lib.hid (by rw [← hQ2, if_pos ⟨by omega, hc0⟩])
            clear hQ2 hc0
            have : k = 1 ∨ k = 2 ∨ k = 3 := by omega
            rw [hc] at hlt128 hz0 hb0 hb1
            clear hc
            rcases this with rfl | rfl | rfl
            · obtain rfl : z = 128 := hzz
              go_wp2_with fail
              go_ret2
              exact ⟨_, _, rfl, rfl, .inl ⟨rfl, HQ.out⟩⟩
            · obtain rfl : z = 16384 := hzz
              go_wp2_with fail
              go_ret2
              exact ⟨_, _, rfl, rfl, .inl ⟨rfl, HQ.out⟩⟩
            · obtain rfl : z = 2097152 := hzz
              go_wp2_with fail
              go_ret2
              exact ⟨_, _, rfl, rfl, .inl ⟨rfl, HQ.out⟩⟩
        · have hz0 : ((c.toNat : Int) == 0) = false := by simpa using hc0
          have HQ : Hid (szP 4 (s.data.toList.drop A) = some (B, s.data.toList.drop (p + 1))) := Lib.hid (by rw [← hQ2, if_neg (by omega)])
          clear hQ2 hc0
          have : k = 0 ∨ k = 1 ∨ k = 2 ∨ k = 3 := by omega
          rw [hc] at hlt128 hz0 hb0 hb1
          clear hc
          rcases this with rfl | rfl | rfl | rfl
          · obtain rfl : z = 1 := hzz
            go_wp2_with fail
            go_ret2
            refine ⟨_, _, rfl, rfl, .inr ⟨B, p + 1, ?_, by simp, by have := hp.out; omega, by omega, HQ.out⟩⟩
            rw [HB.out, HC.out]; omega
          · obtain rfl : z = 128 := hzz
            go_wp2_with fail
            go_ret2
            refine ⟨_, _, rfl, rfl, .inr ⟨B, p + 1, ?_, by simp, by have := hp.out; omega, by omega, HQ.out⟩⟩
            rw [HB.out, HC.out]; omega
          · obtain rfl : z = 16384 := hzz
            go_wp2_with fail
            go_ret2
            refine ⟨_, _, rfl, rfl, .inr ⟨B, p + 1, ?_, by simp, by have := hp.out; omega, by omega, HQ.out⟩⟩
            rw [HB.out, HC.out]; omega
          · obtain rfl : z = 2097152 := hzz
            go_wp2_with fail
            go_ret2
            refine ⟨_, _, rfl, rfl, .inr ⟨B, p + 1, ?_, by simp, by have := hp.out; omega, by omega, HQ.out⟩⟩
            rw [HB.out, HC.out]; omega
      · have hge : ¬ ((c.toNat : Int) < 128) := by omega
        have hstep := szQ_step k acc (4 - k - 1) c (s.data.toList.drop (p + 1)) (by omega)
        rw [show 4 - k - 1 + 1 = 4 - k by omega] at hstep
        rw [hstep] at hQ2
        obtain ⟨B, hB⟩ : ∃ B, B = acc + 128 ^ k * (c.toNat % 128) := ⟨_, rfl⟩
        rw [← hB] at hQ2
        have HB := Lib.hid hB
        have HQ := Lib.hid hQ2
        have hzz := hz.out
        clear hstep hcs hB hQ2 hz
        have : k = 0 ∨ k = 1 ∨ k = 2 ∨ k = 3 := by omega
        rw [hc] at hge hb0 hb1
        clear hc
        rcases this with rfl | rfl | rfl | rfl
        · obtain rfl : z = 1 := hzz
          go_wp2_with fail
          go_roundw
          case rel => exact ⟨1, p + 1, B, 128, by omega, Lib.hid (by have := hp.out; omega), by omega, by simp, by congr 1; have := HB.out; rw [HC.out] at this; omega, rfl, Lib.hid rfl, by have := HB.out; omega, HQ, rfl⟩
          case measure => rw [intOf_int, intOf_int]; have := hp.out; omega
        · obtain rfl : z = 128 := hzz
          go_wp2_with fail
          go_roundw
          case rel => exact ⟨2, p + 1, B, 16384, by omega, Lib.hid (by have := hp.out; omega), by omega, by simp, by congr 1; have := HB.out; rw [HC.out] at this; omega, rfl, Lib.hid rfl, by have := HB.out; omega, HQ, rfl⟩
          case measure => rw [intOf_int, intOf_int]; have := hp.out; omega
        · obtain rfl : z = 16384 := hzz
          go_wp2_with fail
          go_roundw
          case rel => exact ⟨3, p + 1, B, 2097152, by omega, Lib.hid (by have := hp.out; omega), by omega, by simp, by congr 1; have := HB.out; rw [HC.out] at this; omega, rfl, Lib.hid rfl, by have := HB.out; omega, HQ, rfl⟩
          case measure => rw [intOf_int, intOf_int]; have := hp.out; omega
        · obtain rfl : z = 2097152 := hzz
          go_wp2_with fail
          go_roundw
          case rel => exact ⟨4, p + 1, B, 268435456, by omega, Lib.hid (by have := hp.out; omega), by omega, by simp, by congr 1; have := HB.out; rw [HC.out] at this; omega, rfl, Lib.hid rfl, by have := HB.out; omega, HQ, rfl⟩
          case measure => rw [intOf_int, intOf_int]; have := hp.out; omega
    · have HN : Hid (szP 4 (s.data.toList.drop A) = none) := Lib.hid (by
        rw [← hQ.out]
        refine szQ_end _ _ _ _ ?_
        rcases Nat.lt_or_ge k 4 with h | h
        · exact .inr (List.drop_of_length_le (by simp; omega))
        · exact .inl (by omega))
      by_cases h4 : p < s.size
      · have hA4 : ¬ ((p : Int) < (A : Int) + 4) := by have := hp.out; omega
        go_wp2_with fail
        go_ret2
        exact ⟨_, _, rfl, rfl, .inl ⟨rfl, HN.out⟩⟩
      · have hps2 : ¬ ((p : Int) < (s.size : Int)) := by omega
        go_wp2_with fail
        go_ret2
        exact ⟨_, _, rfl, rfl, .inl ⟨rfl, HN.out⟩⟩
end Go.Proofs.Ytaojcbdljgcfgaa
