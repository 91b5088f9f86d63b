/- The program's functions of aes on a block: the round's words, the box and the rows. -/
import Derived.Test.YtohjnhekkifhbabAesA
import Derived.Test.YtohjnhekkifhbabAesWays
import Derived.IntWalk
namespace Go.Proofs.Ytohjnhekkifhbab
open Go.RowKit

/-- A schedule's cells: the box, then m bytes of the words. -/
def schV (KW : Nat → UInt8) (m n : Nat) : Value := if n < 256 then byteV (boxL.getD n 0) else if n < 256 + m then byteV (KW (n - 256)) else byteV 0

theorem sch_box {w : World} {g t : Nat} {KW : Nat → UInt8} {m : Nat} (h : w.rowIs g t 432 (schV KW m)) (x : UInt8) : w.cell? ⟨g, x.toNat, none⟩ = some (.int .u8 ((sb x).toNat : Int)) := by
  have hx := x.toNat_lt
  rw [h.cell (by omega)]
  unfold schV; rw [if_pos hx]; rfl
theorem sch_word {w : World} {g t : Nat} {KW : Nat → UInt8} {m : Nat} (h : w.rowIs g t 432 (schV KW m)) (n : Nat) (hn : n < m) (hm : m ≤ 176) : w.cell? ⟨g, 256 + n, none⟩ = some (.int .u8 ((KW n).toNat : Int)) := by
  rw [h.cell (by omega)]
  unfold schV; rw [if_neg (by omega), if_pos (by omega), show 256 + n - 256 = n by omega]; rfl

/-- The number one more: a byte is turned where all behind it are 255. -/
def nxt (B : Nat → UInt8) (j : Nat) : UInt8 := if ∀ i, i < 16 → j < i → B i = 255 then B j + 1 else B j

set_option maxRecDepth 100000 in
set_option maxHeartbeats 2000000 in
theorem add_prog (gs gb ts tb r : Nat) (KW B : Nat → UInt8) (w : World) (hne : gs ≠ gb) (hr : r ≤ 10)
    (hS : w.rowIs gs ts 432 (schV KW 176)) (hB : w.rowIs gb tb 16 (fun j => byteV (B j))) :
    Calls Try.prog 29 #[.pointer (some ⟨gs, 0, none⟩), .pointer (some ⟨gb, 0, none⟩), .int .i64 r] w fun e w' =>
      e = .returned (.tuple #[]) ∧ w'.rowIs gb tb 16 (fun j => byteV (ad KW r B j)) ∧ Only gb w w' := by
  go_enter Try.func29, Try.ntmps29
  go_wp2_with fail
  go_loopw [7] (fun i wr => ∃ k : Nat, k ≤ 16 ∧ i = .int .i64 k ∧ wr.rowIs gb tb 16 (fun j => if j < k then byteV (ad KW r B j) else byteV (B j)) ∧ Only gb w wr) (fun i _ => 16 - (intOf i).toNat)
  case atStart => exact ⟨0, by omega, rfl, hB.congr (fun j _ => by simp), Only.refl _ _⟩
  case round =>
    obtain ⟨k, hk, rfl, hrow, hO⟩ := hrel
    by_cases hlt : k < 16
    · have c := hrow.cell (i := k) hlt
      have f := hrow.frozen k
      simp only [Nat.lt_irrefl, if_false, byteV] at c
      have s : wr.cell? ⟨gs, 256 + (4 * r + k / 4) * 4 + k % 4, none⟩ = some (.int .u8 ((KW (16 * r + k)).toNat : Int)) := by
        have := sch_word (hO.row hS hne) (16 * r + k) (by omega) (by omega)
        rwa [show 256 + (16 * r + k) = 256 + (4 * r + k / 4) * 4 + k % 4 by omega] at this
      have i0 : (0 : Int) ≤ (k : Int) := by omega
      have i1 : (k : Int) < 16 := by omega
      have q0 : IntKind.i64.wrap (4 * (r : Int)) = 4 * (r : Int) := IntWalk.i64_in _ (by omega)
      have q1 : (k : Int).tdiv 4 = (k : Int) / 4 := Int.tdiv_eq_ediv_of_nonneg (by omega)
      have q2 : IntKind.i64.wrap ((k : Int) / 4) = (k : Int) / 4 := IntWalk.i64_in _ (by omega)
      have q3 : IntKind.i64.wrap (4 * (r : Int) + (k : Int) / 4) = 4 * (r : Int) + (k : Int) / 4 := IntWalk.i64_in _ (by omega)
      have q4 : (k : Int).tmod 4 = (k : Int) % 4 := Int.tmod_eq_emod_of_nonneg (by omega)
      have q5 : IntKind.i64.wrap ((k : Int) % 4) = (k : Int) % 4 := IntWalk.i64_in _ (by omega)
      have a0 : (0 : Int) ≤ 4 * (r : Int) + (k : Int) / 4 := by omega
      have a1 : 4 * (r : Int) + (k : Int) / 4 < 44 := by omega
      have a2 : (0 : Int) ≤ (k : Int) % 4 := by omega
      have a3 : (k : Int) % 4 < 4 := by omega
      have n1 : (4 * (r : Int) + (k : Int) / 4).toNat = 4 * r + k / 4 := by omega
      have n2 : ((k : Int) % 4).toNat = k % 4 := by omega
      obtain ⟨x, hx, ex⟩ := xname (B k) (KW (16 * r + k))
      have HX := Lib.hid hx
      clear hx
      go_wp2_with fail
      go_still_tail 21, (by kernel_rfl)
      go_wp2
      go_roundw
      case rel =>
        refine ⟨k + 1, by omega, by go_num, World.rowIs.drew (row_put hrow _ _ (fun j _ => ?_)), (hO.setCell _ _).drew⟩
        by_cases hjk : j = k
        · subst hjk; rw [if_pos (by omega), if_pos rfl]; unfold ad; rw [HX.out]; rfl
        · rw [if_neg hjk]
          by_cases hl : j < k
          · rw [if_pos hl, if_pos (by omega)]
          · rw [if_neg hl, if_neg (by omega)]
      case measure => simp [intOf]; omega
    · have hte : k = 16 := by omega
      have hge : (16 : Int) ≤ (k : Int) := by omega
      have hr2 : wr.rowIs gb tb 16 (fun j => byteV (ad KW r B j)) := hrow.congr (fun j hj => by simp [hte, hj])
      clear hrow hte hlt
      go_wp2
      go_end0
      exact ⟨rfl, hr2, hO⟩

end Go.Proofs.Ytohjnhekkifhbab
