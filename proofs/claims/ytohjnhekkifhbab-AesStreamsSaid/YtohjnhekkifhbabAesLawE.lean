/- AesBoxes: the box is the document's; unlike bytes have unlike boxes. -/
import Derived.Test.YtohjnhekkifhbabAesAwake
import Derived.Test.YtohjnhekkifhbabAesRefB
namespace Go.Proofs.Ytohjnhekkifhbab
open Go.RowKit

theorem boxrAt (b : UInt8) (z : Int) (w : World) (hz : ((sb b).toNat : Int) = z) :
    Calls Try.prog 12 #[.int .u8 (b.toNat : Int)] w fun e w' => e = .returned (.int .u8 z) ∧ Below w.heap.size w w' := by subst hz; exact box_ref b w

set_option maxRecDepth 100000 in
set_option maxHeartbeats 2000000 in
theorem boxes_law (a b : UInt8) (w : World) :
    Calls Try.prog 3 #[.int .u8 (a.toNat : Int), .int .u8 (b.toNat : Int)] w fun e w' => e = .returned (.bool true) ∧ Below w.heap.size w w' := by
  have key : ∀ (x y : Nat), ((sb a).toNat : Int) = x → ((sb b).toNat : Int) = y → (((x : Int) == y) = ((a.toNat : Int) == b.toNat)) := by
    intro x y hx hy
    have hx' : (sb a).toNat = x := by omega
    have hy' : (sb b).toNat = y := by omega
    rw [Bool.eq_iff_iff]
    simp only [beq_iff_eq]
    constructor
    · intro h
      have h1 : x = y := by omega
      have : sb a = sb b := UInt8.toNat_inj.1 (by rw [hx', hy', h1])
      rw [sb_inj this]
    · intro h
      have h1 : a = b := UInt8.toNat_inj.1 (by omega)
      rw [← hx', ← hy', h1]
  obtain ⟨x, hx⟩ : ∃ x : Nat, ((sb a).toNat : Int) = x := ⟨_, rfl⟩
  obtain ⟨y, hy⟩ : ∃ y : Nat, ((sb b).toNat : Int) = y := ⟨_, rfl⟩
  have hk := key x y hx hy
  have HX := Lib.hid hx
  have HY := Lib.hid hy
  clear key hx hy
  go_enter Try.func3, Try.ntmps3
  go_wp2_with fail
  refine (awake_prog w).mono ?_
  rintro e w1 ⟨rfl, hb1⟩
  go_wp2_with fail
  refine (boxAt a _ x w1 rfl HX.out).mono ?_
  rintro e w2 ⟨rfl, hb2⟩
  go_wp2_with fail
  refine (boxrAt a x w2 HX.out).mono ?_
  rintro e w3 ⟨rfl, hb3⟩
  go_wp2_with fail
  refine (boxAt a _ x w3 rfl HX.out).mono ?_
  rintro e w4 ⟨rfl, hb4⟩
  go_wp2_with fail
  refine (boxAt b _ y w4 rfl HY.out).mono ?_
  rintro e w5 ⟨rfl, hb5⟩
  have hq := belowNext (belowNext (belowNext (belowNext hb1 hb2) hb3) hb4) hb5
  by_cases hab : ((a.toNat : Int) == b.toNat) = true
  · rw [hab] at hk
    go_wp2_with fail
    go_ret
    exact ⟨rfl, hq⟩
  · have hab2 : ((a.toNat : Int) == b.toNat) = false := by simpa using hab
    rw [hab2] at hk
    clear hab
    go_wp2_with fail
    go_ret
    exact ⟨rfl, hq⟩
end Go.Proofs.Ytohjnhekkifhbab
