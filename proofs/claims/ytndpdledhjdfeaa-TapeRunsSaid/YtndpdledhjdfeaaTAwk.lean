/- awake of layer 4. -/
import Derived.Test.YtndpdledhjdfeaaTRef
namespace Go.Proofs.Ytndpdledhjdfeaa
open Go.RowKit

def abc : ByteArray := ⟨#[97, 98, 99]⟩
theorem aw1 : tkX abc 0 2 = ⟨#[97, 98]⟩ ∧ tkE abc 0 2 = 0 ∧ tkA abc 0 2 = 2 := by decide +kernel
theorem aw2 : tkX abc 2 2 = ⟨#[]⟩ ∧ tkE abc 2 2 = 2 ∧ tkA abc 2 2 = 2 := by decide +kernel
theorem aw3 : tkX abc 2 1 = ⟨#[99]⟩ ∧ tkE abc 2 1 = 0 ∧ tkA abc 2 1 = 3 := by decide +kernel
theorem awTake {w : World} {b a a' : Nat} {n er : Int} {x : ByteArray} (h : Tp w b abc a) (ha : a ≤ 3) (e : tkX abc a n = x ∧ tkE abc a n = er ∧ tkA abc a n = a') :
    Calls Try.prog 9 #[.pointer (some ⟨b, 0, none⟩), .int .i64 n] w (TkRes b abc x er a' w) := by
  have := take_prog n h ha (by decide)
  rwa [e.1, e.2.1, e.2.2] at this

set_option maxHeartbeats 1000000 in
theorem awake_prog (w : World) : Calls Try.prog 7 #[] w fun e w' => e = .returned (.bool true) ∧ Below w.heap.size w w' := by
  go_enter Try.func7, Try.ntmps7
  go_wp2_with fail
  refine (new_prog abc w (by decide)).mono ?_
  rintro e w1 ⟨b, rfl, hb, ht1, hw1⟩
  have H1 := Lib.hid (awTake ht1 (by omega) aw1)
  go_wp2_with fail
  refine H1.out.mono ?_
  rintro e w2 ⟨rfl, hw2, ht2⟩
  have H2 := Lib.hid (awTake ht2 (by omega) aw2)
  clear H1
  go_wp2_with fail
  refine H2.out.mono ?_
  rintro e w3 ⟨rfl, hw3, ht3⟩
  have H3 := Lib.hid (awTake ht3 (by omega) aw3)
  clear H2
  go_wp2_with fail
  refine H3.out.mono ?_
  rintro e w4 ⟨rfl, hw4, ht4⟩
  have H4 := Lib.hid (taken_prog ht4 (by decide) (by decide))
  clear H3
  go_wp2_with fail
  refine H4.out.mono ?_
  rintro e w5 ⟨rfl, rfl⟩
  go_wp2_with fail
  go_ret
  exact ⟨rfl, hw1.trans (((hw2.trans hw3).trans hw4).below hb hw1.size)⟩
end Go.Proofs.Ytndpdledhjdfeaa
