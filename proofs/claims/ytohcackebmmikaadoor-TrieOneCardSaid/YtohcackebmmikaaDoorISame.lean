/- The reference's Same. -/
import Derived.Test.YtohcackebmmikaaDoorIMade
namespace Go.Proofs.YtohcackebmmikaaDoor
open Go.RowKit

/-- Two lists alike, told as a bool. -/
def sameB (a b : List Pr) : Bool := decide (a = b)
def SmeRel (a b : List Pr) (w : World) (i : Value) (wr : World) : Prop := ∃ j : Nat, i = .int .i64 j ∧ j ≤ a.length ∧ Hid (sameB (a.drop j) (b.drop j) = sameB a b) ∧ Same w wr

theorem sameB_cons (x y : Pr) (a b : List Pr) : sameB (x :: a) (y :: b) = (decide (x = y) && sameB a b) := by
  unfold sameB
  by_cases h : x = y
  · subst h; simp
  · simp [h]

set_option maxRecDepth 30000 in
set_option maxHeartbeats 2000000 in
theorem same_ref (a b : List Pr) (va vb : Value) (w : World) (ha : a.length ≤ 50000) (h1 : PSl w va a) (h2 : PSl w vb b) :
    Calls Tryd.prog 13 #[va, vb] w fun e w' => e = .returned (.bool (sameB a b)) ∧ Same w w' := by
  obtain ⟨aa, ca, rfl, hca, hcells1⟩ := h1
  obtain ⟨ab, cb, rfl, hcb, hcells2⟩ := h2
  have H1 := Lib.hid hcells1
  have H2 := Lib.hid hcells2
  clear hcells1 hcells2
  have hl0 : (0 : Int) ≤ (a.length : Int) := by omega
  have hl1 : (a.length : Int) ≤ 50000 := by omega
  by_cases hlen : a.length = b.length
  · have hlI : ((a.length : Int) != (b.length : Int)) = false := by rw [hlen]; simp
    have HLEN := Lib.hid hlen
    clear hlen
    go_enter Tryd.func13, Tryd.ntmps13
    go_wp2_with fail
    go_loopw [5] (SmeRel a b w) (fun i _ => 50000 - (intOf i).toNat)
    case atStart => exact ⟨0, rfl, by omega, Lib.hid (by simp), Same.refl _⟩
    case round =>
      obtain ⟨j, rfl, hj, heq, hs⟩ := hrel
      have hj0 : (0 : Int) ≤ (j : Int) := by omega
      have hj1 : (j : Int) ≤ 50000 := by omega
      by_cases hlt : j < a.length
      · have hltI : (j : Int) < (a.length : Int) := by omega
        have hltb : j < b.length := by have := HLEN.out; omega
        have hltbI : (j : Int) < (b.length : Int) := by omega
        obtain ⟨g, o, rfl, hg, hcs⟩ := H1.out (by intro e; rw [e] at hlt; simp at hlt)
        obtain ⟨g', o', rfl, hg', hcs'⟩ := H2.out (by intro e; rw [e] at hltb; simp at hltb)
        obtain ⟨x, hx⟩ : ∃ x, x = a[j] := ⟨_, rfl⟩
        obtain ⟨y, hy⟩ : ∃ y, y = b[j] := ⟨_, rfl⟩
        have hbl := hs.below w.heap.size
        obtain ⟨d1, d2⟩ := hcs j x (by rw [hx]; exact List.getElem?_eq_getElem hlt)
        obtain ⟨e1, e2⟩ := hcs' j y (by rw [hy]; exact List.getElem?_eq_getElem hltb)
        have c1 : wr.cell? ⟨g, o + j * 2, none⟩ = some (.string x.1) := by rw [hbl.cell (p := ⟨g, o + j * 2, none⟩) hg]; exact d1
        have c2 : wr.cell? ⟨g, o + j * 2 + 1, none⟩ = some (.string x.2) := by rw [hbl.cell (p := ⟨g, o + j * 2 + 1, none⟩) hg]; exact d2
        have c3 : wr.cell? ⟨g', o' + j * 2, none⟩ = some (.string y.1) := by rw [hbl.cell (p := ⟨g', o' + j * 2, none⟩) hg']; exact e1
        have c4 : wr.cell? ⟨g', o' + j * 2 + 1, none⟩ = some (.string y.2) := by rw [hbl.cell (p := ⟨g', o' + j * 2 + 1, none⟩) hg']; exact e2
        have hda := drop_get a j hlt
        have hdb := drop_get b j hltb
        rw [← hx] at hda
        rw [← hy] at hdb
        have heq2 : Hid ((decide (x = y) && sameB (a.drop (j + 1)) (b.drop (j + 1))) = sameB a b) := Lib.hid (by
          rw [← heq.out, hda, hdb, sameB_cons])
        have HS := Lib.hid hs
        obtain ⟨x1, x2⟩ := x
        obtain ⟨y1, y2⟩ := y
        simp only at c1 c2 c3 c4
        clear d1 d2 e1 e2 hcs hcs' hbl hda hdb hx hy heq hs
        by_cases hk : x1 = y1
        · subst hk
          by_cases hv : x2 = y2
          · subst hv
            have heq3 : Hid (sameB (a.drop (j + 1)) (b.drop (j + 1)) = sameB a b) := Lib.hid (by rw [← heq2.out]; simp)
            clear heq2
            go_wp2_with fail
            go_quiet (fail)
            go_wp2_with fail
            go_roundw
            case rel => exact ⟨j + 1, by go_num, by omega, heq3, HS.out.trans ⟨_, rfl⟩⟩
            case measure => simp [intOf]; omega
          · have hne := str_ne hv
            have heq3 : Hid (sameB a b = false) := Lib.hid (by rw [← heq2.out]; simp [hv])
            clear heq2 hv
            go_wp2_with fail
            go_quiet (fail)
            go_wp2_with fail
            go_ret
            exact ⟨by rw [heq3.out]; rfl, HS.out.trans ⟨_, rfl⟩⟩
        · have hne := str_ne hk
          have heq3 : Hid (sameB a b = false) := Lib.hid (by rw [← heq2.out]; simp [hk])
          clear heq2 hk
          go_wp2_with fail
          go_quiet (fail)
          go_wp2_with fail
          go_ret
          exact ⟨by rw [heq3.out]; rfl, HS.out.trans ⟨_, rfl⟩⟩
      · have hltI : ¬ (j : Int) < (a.length : Int) := by omega
        have heq3 : Hid (sameB a b = true) := Lib.hid (by
          rw [← heq.out, List.drop_of_length_le (by omega), List.drop_of_length_le (by have := HLEN.out; omega)]; rfl)
        have HS := Lib.hid hs
        clear heq hs
        go_wp2
        go_ret
        exact ⟨by rw [heq3.out]; rfl, HS.out⟩
  · have hlI : ((a.length : Int) != (b.length : Int)) = true := by simp; omega
    have hsb : Hid (sameB a b = false) := Lib.hid (by
      unfold sameB
      exact decide_eq_false (fun e => hlen (by rw [e])))
    clear hlen
    go_enter Tryd.func13, Tryd.ntmps13
    go_wp2
    go_ret
    exact ⟨by rw [hsb.out]; rfl, Same.refl _⟩
end Go.Proofs.YtohcackebmmikaaDoor
