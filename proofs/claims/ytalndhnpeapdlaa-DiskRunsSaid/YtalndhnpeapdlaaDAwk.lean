/- awake of layer 7. -/
import Derived.Test.YtalndhnpeapdlaaDCrash
namespace Go.Proofs.Ytalndhnpeapdlaa
open Go.RowKit

section
variable {w : World} {b n : Nat} {v : Value} {T : ByteArray}
theorem append_free (h : Dk w b v T n false false 0) (s : ByteArray) (hlim : T.size + s.size ≤ 100000) :
    Calls Try.prog 9 #[.pointer (some ⟨b, 0, none⟩), .string s] w fun e w' => e = .returned (.int .i64 0) ∧ ∃ v', Dk w' b v' (T ++ s) n false false 0 ∧ Ch b v w w' v' := append_prog h (by omega) s hlim
theorem sync_free (h : Dk w b v T n false false 0) :
    Calls Try.prog 11 #[.pointer (some ⟨b, 0, none⟩)] w fun e w' => e = .returned (.int .i64 0) ∧ Dk w' b v T T.size false false 0 ∧ Ch b v w w' v := sync_prog h (by omega)
theorem read_free (h : Dk w b v T n false false 0) : Calls Try.prog 18 #[.pointer (some ⟨b, 0, none⟩)] w fun e w' => e = .returned (.tuple #[.string T, .int .i64 0]) ∧ w' = w := read_prog h
end
def tAb : ByteArray := ⟨#[97, 98]⟩
def tCd : ByteArray := ⟨#[99, 100]⟩
def tAbc : ByteArray := ⟨#[97, 98, 99]⟩
theorem aw_1 : (⟨#[]⟩ : ByteArray) ++ tAb = tAb := by decide +kernel
theorem aw_2 : (tAb ++ tCd).extract 0 (tAb.size + min (1 : Int).toNat ((tAb ++ tCd).size - tAb.size)) = tAbc := by decide +kernel
theorem aw_3 : tAb.size + min (1 : Int).toNat ((tAb ++ tCd).size - tAb.size) = 3 := by decide +kernel

set_option maxHeartbeats 1000000 in
theorem awake_prog (w : World) : Calls Try.prog 6 #[] w fun e w' => e = .returned (.bool true) ∧ Below w.heap.size w w' := by
  go_enter Try.func6, Try.ntmps6
  go_wp2_with fail
  refine (new_prog w).mono ?_
  rintro e w1 ⟨rfl, hd1, hb1⟩
  have H1 := Lib.hid (append_free hd1 tAb (by decide))
  go_wp2_with fail
  refine H1.out.mono ?_
  rintro e w2 ⟨rfl, v2, hd2, hc2⟩
  rw [aw_1] at hd2
  have H2 := Lib.hid (sync_free hd2)
  clear H1
  go_wp2_with fail
  refine H2.out.mono ?_
  rintro e w3 ⟨rfl, hd3, hc3⟩
  have H3 := Lib.hid (append_free hd3 tCd (by decide))
  clear H2
  go_wp2_with fail
  refine H3.out.mono ?_
  rintro e w4 ⟨rfl, v4, hd4, hc4⟩
  have H4 := Lib.hid (crash_prog hd4 (by decide) (by decide) 1)
  rw [aw_2, aw_3] at H4
  clear H3
  go_wp2_with fail
  refine H4.out.mono ?_
  rintro e w5 ⟨rfl, v5, hd5, hc5⟩
  have H5 := Lib.hid (read_free hd5)
  clear H4
  go_wp2_with fail
  refine H5.out.mono ?_
  rintro e w6 ⟨rfl, rfl⟩
  have H6 := Lib.hid (waits_prog hd5 (by decide) (by decide))
  clear H5
  have HB := Lib.hid (hb1.trans ((((hc2.trans hc3).trans hc4).trans hc5).below (Nat.le_refl _) (fun j hj => by cases hj) hb1.size))
  have e3 : ((tAbc.size : Nat) : Int) - ((3 : Nat) : Int) = 0 := by decide
  rw [e3] at H6
  clear hd1 hd2 hd3 hd4 hd5 hc2 hc3 hc4 hc5 hb1 e3
  unfold tAbc
  go_wp2_with fail
  refine H6.out.mono ?_
  rintro e w7 ⟨rfl, q, rfl⟩
  go_wp2_with fail
  go_ret
  exact ⟨rfl, HB.out.trans ((Same.of _ _).below _)⟩
end Go.Proofs.Ytalndhnpeapdlaa
