/- disk: Crash. -/
import Derived.Test.YtfocljmjejniiaaDDisk2
namespace Go.Proofs.Ytfocljmjejniiaa
open Go.RowKit

theorem own_len (a : Option Addr) (n c : Nat) : (Value.slice a n c).ownBlock = a.map (·.block) := by cases a <;> rfl

section
variable {w : World} {b n k : Nat} {v : Value} {T : ByteArray} {dn lim : Bool}
set_option maxRecDepth 30000 in
set_option maxHeartbeats 4000000 in
theorem crash_prog (h : Dk w b v T n dn lim k) (hn : n ≤ T.size) (hT : T.size ≤ 100000) (x : Int) :
    Calls Try.prog 11 #[.pointer (some ⟨b, 0, none⟩), .int .i64 x] w fun e w' => e = .returned (.tuple #[]) ∧
      ∃ v', Dk w' b v' (T.extract 0 (n + min x.toNat (T.size - n))) (n + min x.toNat (T.size - n)) false false 0 ∧ Ch b v w w' v' := by
  obtain ⟨c0, c1, c2, c3, c4⟩ := h.cells
  obtain ⟨z0, z1, z2, z3, z4⟩ := h.free
  obtain ⟨a, cap, rfl, hcap, hspot⟩ := h.2.1.shape
  obtain ⟨m, hm⟩ : ∃ m, m = min x.toNat (T.size - n) := ⟨_, rfl⟩
  rw [← hm]
  have hnm : n + m ≤ T.size := by omega
  have HWT := Lib.hid (fun W (hW : Dk W b (.slice a T.size cap) T n dn lim k) => waits_prog hW hn hT)
  have HD := Lib.hid h
  obtain ⟨X, hX⟩ : ∃ X, (if x < 0 then 0 else x) = X := ⟨_, rfl⟩
  have hM : (if (T.size : Int) - (n : Int) < X then (T.size : Int) - (n : Int) else X) = (m : Int) := by split <;> split at hX <;> omega
  have hwr : IntKind.i64.wrap ((n : Int) + (m : Int)) = (n : Int) + (m : Int) := IntWalk.i64_in _ (by omega)
  have HNM := Lib.hid hnm
  have HSP := Lib.hid hspot
  have HCP := Lib.hid hcap
  have HT := Lib.hid hT
  clear c0 c2 c3 c4 z0 z2 z3 z4 hcap hspot hm hnm h hn hT
  go_enter Try.func11, Try.ntmps11
  go_upto_region 1 with fail
  go_cut [5] (fun s5 wx => s5 = .bool false ∧ ∃ q, wx = (w.drewN q).setCell ⟨b, 1, none⟩ (.int .i64 ((n : Int) + (m : Int))))
  case first =>
    go_region_with ((go_at_call 20; (with_reducible refine (HWT.out _ (HD.out.later ((Below.refl _ _).drew))).mono ?_); rintro e w1 ⟨rfl, q, rfl⟩))
    all_goals
      go_wp2_with fail
      go_meet
      exact ⟨rfl, 1 + q, rfl⟩
  case rest =>
    obtain ⟨rfl, q, rfl⟩ := hcut
    have hd1 : Dk ((w.drewN q).setCell ⟨b, 1, none⟩ (.int .i64 ((n : Int) + (m : Int)))) b (.slice a T.size cap) T (n + m) dn lim k := (HD.out.drewN q).set1 (n + m)
    have hc1 : Ch b (.slice a T.size cap) w ((w.drewN q).setCell ⟨b, 1, none⟩ (.int .i64 ((n : Int) + (m : Int)))) (.slice a T.size cap) := (Ch.ofBelow _ ((Same.of w q).below _)).trans (Ch.set _ _ _ _ _)
    obtain ⟨w1, hw1⟩ : ∃ w1, w1 = (w.drewN q).setCell ⟨b, 1, none⟩ (.int .i64 ((n : Int) + (m : Int))) := ⟨_, rfl⟩
    rw [← hw1] at hd1 hc1 ⊢
    clear hw1 c1 z1 HD HWT hX hM
    obtain ⟨c0, c1, c2, c3, c4⟩ := hd1.cells
    obtain ⟨z0, z1, z2, z3, z4⟩ := hd1.free
    have hcut := hd1.2.1.cut (n + m) HNM.out
    have hi1 : (0 : Int) ≤ (n : Int) + (m : Int) := by omega
    have hi2 : (n : Int) + (m : Int) ≤ (cap : Int) := by have := HNM.out; have := HCP.out.1; omega
    have hne : (Value.slice a (n + m) cap).ownBlock ≠ some b := fun e => hd1.2.2 (by rw [own_len] at e ⊢; exact e)
    have HD2 := Lib.hid (((hd1.drewN 1).set0 (hcut.keep fun _ _ => rfl) hne).set2 false)
    have HC2 : Hid (Ch b (.slice a T.size cap) w ((w1.drew.setCell ⟨b, 0, none⟩ (.slice a (n + m) cap)).setCell ⟨b, 2, none⟩ (.bool false)) (.slice a (n + m) cap)) := Lib.hid (by
      have := ((hc1.trans (Ch.ofBelow (w' := w1.drew) _ ((Below.refl _ w1).drew))).trans (Ch.set b 0 (.slice a T.size cap) _ (.slice a (n + m) cap))).trans (Ch.set b 2 _ _ (.bool false))
      exact ⟨this.os, this.tape, this.output, this.size, this.block, fun j hj => this.loc j (by rw [own_len] at hj ⊢; exact hj)⟩)
    have e2 : ((n : Int) + (m : Int)).toNat = n + m := by omega
    clear hd1 hc1 hcut hne
    go_wp2_with fail
    go_still_tail 12, (by kernel_rfl)
    try simp only [e2]
    change wpList _ _ _ _ _ w1.drew
    go_wp2_with fail
    refine (fuel_prog HD2.out (-1)).mono ?_
    rintro e w2 ⟨rfl, hd2, hc2⟩
    go_wp2_with fail
    go_end0
    exact ⟨rfl, _, hd2, HC2.out.trans hc2⟩
end
end Go.Proofs.Ytfocljmjejniiaa
