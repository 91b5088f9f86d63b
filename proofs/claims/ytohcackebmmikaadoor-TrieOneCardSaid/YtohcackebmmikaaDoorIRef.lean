/- The reference's lists: Put, Delete. -/
import Derived.Test.YtohcackebmmikaaDoorITop3
namespace Go.Proofs.YtohcackebmmikaaDoor
open Go.RowKit Go.Op

def DelRel (k : ByteArray) (l : List Pr) (w : World) (v i : Value) (wr : World) : Prop :=
  ∃ (j : Nat) (ys : List Pr), i = .int .i64 j ∧ j ≤ l.length ∧ Hid (POwn wr w.heap.size v ys) ∧ Hid (ys ++ delL k (l.drop j) = delL k l) ∧ Hid (ys.length ≤ j) ∧ Below w.heap.size w wr

theorem drop_get (l : List Pr) (j : Nat) (hj : j < l.length) : l.drop j = l[j] :: l.drop (j + 1) := List.drop_eq_getElem_cons hj

set_option maxRecDepth 30000 in
set_option maxHeartbeats 2000000 in
theorem delete_ref (k : ByteArray) (l : List Pr) (lv : Value) (w : World) (hl : l.length ≤ 50000) (h : PSl w lv l) :
    Calls Tryd.prog 31 #[lv, .string k] w (PRes w (delL k l)) := by
  obtain ⟨a, c, rfl, hc, hcells⟩ := h
  have HC := Lib.hid hcells
  clear hcells
  have hl0 : (0 : Int) ≤ (l.length : Int) := by omega
  have hl1 : (l.length : Int) ≤ 50000 := by omega
  go_enter Tryd.func31, Tryd.ntmps31
  go_wp2_with fail
  go_loopw [5, 6] (DelRel k l w) (fun _ i _ => 50000 - (intOf i).toNat)
  case atStart => exact ⟨0, [], rfl, by omega, Lib.hid (POwn.nil _ _), Lib.hid (by simp), Lib.hid (by simp), Below.refl _ _⟩
  case round =>
    obtain ⟨j, ys, rfl, hj, hown, heq, hys, hb⟩ := hrel
    have hj0 : (0 : Int) ≤ (j : Int) := by omega
    have hj1 : (j : Int) ≤ 50000 := by omega
    by_cases hlt : j < l.length
    · have hltI : (j : Int) < (l.length : Int) := by omega
      obtain ⟨g, o, rfl, hg, hcs⟩ := HC.out (by intro e; rw [e] at hlt; simp at hlt)
      obtain ⟨x, hx⟩ : ∃ x, x = l[j] := ⟨_, rfl⟩
      obtain ⟨d1, d2⟩ := hcs j x (by rw [hx]; exact List.getElem?_eq_getElem hlt)
      have c1 : wr.cell? ⟨g, o + j * 2, none⟩ = some (.string x.1) := by rw [hb.cell (p := ⟨g, o + j * 2, none⟩) hg]; exact d1
      have c2 : wr.cell? ⟨g, o + j * 2 + 1, none⟩ = some (.string x.2) := by rw [hb.cell (p := ⟨g, o + j * 2 + 1, none⟩) hg]; exact d2
      have hsz := hb.size
      have HB := Lib.hid hb
      have hdr := drop_get l j hlt
      rw [← hx] at hdr
      have HDR := Lib.hid hdr
      obtain ⟨va, vc, rfl, _⟩ := POwn.shape hown.out
      clear d1 d2 hcs hb hdr hx
      by_cases he : x.1 = k
      · subst he
        have heq2 : Hid (ys ++ delL x.1 (l.drop (j + 1)) = delL x.1 l) := Lib.hid (by
          rw [← heq.out, HDR.out, delL, delL, List.filter_cons, if_neg (by simp)])
        go_wp2_with fail
        go_roundw
        case rel => exact ⟨j + 1, ys, by go_num, by omega, hown, heq2, Lib.hid (by have := hys.out; omega), HB.out⟩
        case measure => simp [intOf]; omega
      · have hne := str_ne he
        have heq2 : Hid ((ys ++ [x]) ++ delL k (l.drop (j + 1)) = delL k l) := Lib.hid (by
          rw [← heq.out, HDR.out, delL, delL, List.filter_cons, if_pos (by simpa using he), List.append_assoc]; rfl)
        have hys1 : ys.length + 1 ≤ 100000 := by have := hys.out; omega
        have HYS := Lib.hid hys1
        clear hys1 he
        go_wp2_with (at_builtin; refine list_app1 rfl _ _ rfl w.heap.size _ ys rfl (POwn.alloc hown.out _) wr.heap.size 1 x rfl (heap_at_alloc _ _) HYS.out (by simp; omega) ?_; intro v2 w2 hown2 hgr2)
        have HB2 := Lib.hid ((HB.out.alloc hsz _).trans (hgr2.below (by simp; omega) (POwn.low hown.out)))
        clear hgr2
        go_wp2_with fail
        go_roundw
        case rel => exact ⟨j + 1, ys ++ [x], by go_num, by omega, Lib.hid hown2, heq2, Lib.hid (by have := hys.out; simp; omega), HB2.out⟩
        case measure => simp [intOf]; omega
    · have hltI : ¬ (j : Int) < (l.length : Int) := by omega
      obtain ⟨va, vc, rfl, _⟩ := POwn.shape hown.out
      have hres : Hid (POwn wr w.heap.size (.slice va ys.length vc) (delL k l)) := Lib.hid (by
        have := heq.out
        rw [List.drop_of_length_le (by omega)] at this
        rw [← this]; simpa [delL] using hown.out)
      have HB := Lib.hid hb
      clear hb
      go_wp2
      go_ret
      exact ⟨_, rfl, hres.out, HB.out⟩
end Go.Proofs.YtohcackebmmikaaDoor
