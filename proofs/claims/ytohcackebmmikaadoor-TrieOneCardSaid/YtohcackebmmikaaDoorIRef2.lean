/- The reference's lists: Put. -/
import Derived.Test.YtohcackebmmikaaDoorIRef
namespace Go.Proofs.YtohcackebmmikaaDoor
open Go.RowKit Go.Op

def restL (k v : ByteArray) (d : Bool) (r : List Pr) : List Pr := if d then delL k r else putL k v r
def PutRel (k u : ByteArray) (l : List Pr) (w : World) (v d i : Value) (wr : World) : Prop :=
  ∃ (j : Nat) (b : Bool) (ys : List Pr), i = .int .i64 j ∧ d = .bool b ∧ j ≤ l.length ∧ Hid (POwn wr w.heap.size v ys) ∧ Hid (ys ++ restL k u b (l.drop j) = putL k u l) ∧ Hid (ys.length ≤ j + 1 ∧ (b = false → ys.length ≤ j)) ∧ Below w.heap.size w wr

theorem str_ne2 {a b : ByteArray} (h : ¬ a = b) : (b.toList == a.toList) = false := str_ne (fun e => h e.symm)
theorem less_of {a b : ByteArray} (h : ltK a b) : bytesLess a.toList b.toList = true := by
  rw [ByteArray.toList_eq, ByteArray.toList_eq, bytesLess_eq]; exact decide_eq_true h
theorem less_not {a b : ByteArray} (h : leK a b = false) : bytesLess a.toList b.toList = false := by
  rw [ByteArray.toList_eq, ByteArray.toList_eq]
  unfold leK at h
  exact (Bool.or_eq_false_iff.1 h).1

set_option maxRecDepth 30000 in
set_option maxHeartbeats 4000000 in
theorem put_ref (k u : ByteArray) (l : List Pr) (lv : Value) (w : World) (hk : k.size = 32) (hl : l.length ≤ 50000) (h : PSl w lv l) :
    Calls Tryd.prog 32 #[lv, .string k, .string u] w (PRes w (putL k u l)) := by
  obtain ⟨a, c, rfl, hc, hcells⟩ := h
  have HC := Lib.hid hcells
  clear hcells
  have hl0 : (0 : Int) ≤ (l.length : Int) := by omega
  have hl1 : (l.length : Int) ≤ 50000 := by omega
  have hkI : ((k.size : Int) != 32) = false := by rw [hk]; rfl
  clear hk
  go_enter Tryd.func32, Tryd.ntmps32
  go_wp2_with fail
  go_loopw [7, 8, 9] (PutRel k u l w) (fun _ _ i _ => 50000 - (intOf i).toNat)
  case atStart => exact ⟨0, false, [], rfl, rfl, by omega, Lib.hid (POwn.nil _ _), Lib.hid (by simp [restL]), Lib.hid (by simp), Below.refl _ _⟩
  case round =>
    obtain ⟨j, b, ys, rfl, rfl, hj, hown, heq, hys, hb⟩ := hrel
    have hj0 : (0 : Int) ≤ (j : Int) := by omega
    have hj1 : (j : Int) ≤ 50000 := by omega
    by_cases hlt : j < l.length
    · have hltI : (j : Int) < (l.length : Int) := by omega
      obtain ⟨g, o, rfl, hg, hcs⟩ := HC.out (by intro e; rw [e] at hlt; simp at hlt)
      obtain ⟨x, hx⟩ : ∃ x, x = l[j] := ⟨_, rfl⟩
      obtain ⟨d1, d2⟩ := hcs j x (by rw [hx]; exact List.getElem?_eq_getElem hlt)
      have c1 : wr.cell? ⟨g, o + j * 2, none⟩ = some (.string x.1) := by rw [hb.cell (p := ⟨g, o + j * 2, none⟩) hg]; exact d1
      have c2 : wr.cell? ⟨g, o + j * 2 + 1, none⟩ = some (.string x.2) := by rw [hb.cell (p := ⟨g, o + j * 2 + 1, none⟩) hg]; exact d2
      have D1 := Lib.hid d1
      have D2 := Lib.hid d2
      have hsz := hb.size
      have HB := Lib.hid hb
      have hdr := drop_get l j hlt
      rw [← hx] at hdr
      have HDR := Lib.hid hdr
      obtain ⟨va, vc, rfl, _⟩ := POwn.shape hown.out
      have hg2 : g < wr.heap.size := by omega
      clear d1 d2 hcs hb hdr hx
      have hy1 : ys.length + 1 ≤ 100000 := by have := hys.out.1; omega
      have HY := Lib.hid hy1
      clear hy1
      cases b with
      | true =>
        by_cases he : x.1 = k
        · subst he
          have heq2 : Hid (ys ++ restL x.1 u true (l.drop (j + 1)) = putL x.1 u l) := Lib.hid (by
            rw [← heq.out, HDR.out, restL, restL, if_pos rfl, if_pos rfl, delL, delL, List.filter_cons, if_neg (by simp)])
          go_wp2_with fail
          go_roundw
          case rel => exact ⟨j + 1, true, ys, by go_num, rfl, by omega, hown, heq2, Lib.hid ⟨by have := hys.out.1; omega, fun h => by cases h⟩, HB.out⟩
          case measure => simp [intOf]; omega
        · have hne := str_ne2 he
          have heq2 : Hid ((ys ++ [x]) ++ restL k u true (l.drop (j + 1)) = putL k u l) := Lib.hid (by
            rw [← heq.out, HDR.out, restL, restL, if_pos rfl, if_pos rfl, delL, delL, List.filter_cons, if_pos (by simpa using he), List.append_assoc]; rfl)
          clear he
          go_wp2_with (at_builtin; refine list_app1 rfl _ _ rfl w.heap.size _ ys rfl (POwn.alloc hown.out _) wr.heap.size 1 x rfl (heap_at_alloc _ _) HY.out (by simp; omega) ?_; intro v2 w2 hown2 hgr2)
          have HB2 := Lib.hid ((HB.out.alloc hsz _).trans (hgr2.below (by simp; omega) (POwn.low hown.out)))
          clear hgr2
          go_wp2_with fail
          go_roundw
          case rel => exact ⟨j + 1, true, ys ++ [x], by go_num, rfl, by omega, Lib.hid hown2, heq2, Lib.hid ⟨by have := hys.out.1; simp; omega, fun h => by cases h⟩, HB2.out⟩
          case measure => simp [intOf]; omega
      | false =>
        by_cases he : x.1 = k
        · subst he
          have heq2 : Hid ((ys ++ [(x.1, u)]) ++ restL x.1 u true (l.drop (j + 1)) = putL x.1 u l) := Lib.hid (by
            rw [← heq.out, HDR.out, restL, restL, if_pos rfl, if_neg (by simp), putL, leK_self, if_pos rfl, delL, List.filter_cons, if_neg (by simp), List.append_assoc]; rfl)
          have hsl : bytesLess x.1.toList x.1.toList = false := by rw [ByteArray.toList_eq, bytesLess_eq]; exact decide_eq_false (List.lt_irrefl _)
          go_wp2_with (at_builtin; refine list_app1 rfl _ _ rfl w.heap.size _ ys rfl (POwn.alloc hown.out _) wr.heap.size 1 (x.1, u) rfl (heap_at_alloc _ _) HY.out (by simp; omega) ?_; intro v2 w2 hown2 hgr2; have HB2 := Lib.hid ((HB.out.alloc hsz _).trans (hgr2.below (by simp; omega) (POwn.low hown.out))); have e1 := cellB (HB2.out.mono (Nat.le_refl _)) D1.out)
          go_roundw
          case rel => exact ⟨j + 1, true, ys ++ [(x.1, u)], by go_num, rfl, by omega, Lib.hid hown2, heq2, Lib.hid ⟨by have := hys.out.2 rfl; simp; omega, fun h => by cases h⟩, HB2.out⟩
          case measure => simp [intOf]; omega
        · have hne := str_ne2 he
          cases hle : leK k x.1 with
          | true =>
            have hlk : ltK k x.1 := by
              rw [leK_eq] at hle
              exact Std.lt_of_le_of_ne (of_decide_eq_true hle) (fun e2 => he (ks_inj e2.symm))
            have hless := less_of hlk
            have heq2 : Hid ((ys ++ [(k, u)] ++ [x]) ++ restL k u true (l.drop (j + 1)) = putL k u l) := Lib.hid (by
              rw [← heq.out, HDR.out, restL, restL, if_pos rfl, if_neg (by simp), putL, hle, if_pos rfl, delL, List.filter_cons, if_pos (by simpa using he), List.append_assoc, List.append_assoc]; rfl)
            have hy2 : Hid ((ys ++ [(k, u)]).length + 1 ≤ 100000) := Lib.hid (by have := hys.out.2 rfl; simp; omega)
            clear he hle hlk
            go_wp2_with (at_builtin; first
              | (refine list_app1 rfl _ _ rfl w.heap.size _ (ys ++ [(k, u)]) rfl (POwn.alloc hown2.out _) w2.heap.size 1 x rfl (heap_at_alloc _ _) hy2.out (by have := HB2.out.size; simp; omega) ?_; intro v3 w3 hown3 hgr3; have HB3 := Lib.hid ((HB2.out.alloc HB2.out.size _).trans (hgr3.below (by have := HB2.out.size; simp; omega) (POwn.low hown2.out))))
              | (refine list_app1 rfl _ _ rfl w.heap.size _ ys rfl (POwn.alloc hown.out _) wr.heap.size 1 (k, u) rfl (heap_at_alloc _ _) HY.out (by simp; omega) ?_; intro v2 w2 hown2' hgr2; have hown2 := Lib.hid hown2'; have HB2 := Lib.hid ((HB.out.alloc hsz _).trans (hgr2.below (by simp; omega) (POwn.low hown.out))); have e1 := cellB (HB2.out.mono (Nat.le_refl _)) D1.out; have e2 := cellB (HB2.out.mono (Nat.le_refl _)) D2.out))
            go_roundw
            case rel => exact ⟨j + 1, true, ys ++ [(k, u)] ++ [x], by go_num, rfl, by omega, Lib.hid hown3, heq2, Lib.hid ⟨by have := hys.out.2 rfl; simp; omega, fun h => by cases h⟩, HB3.out⟩
            case measure => simp [intOf]; omega
          | false =>
            have hless := less_not hle
            have heq2 : Hid ((ys ++ [x]) ++ restL k u false (l.drop (j + 1)) = putL k u l) := Lib.hid (by
              rw [← heq.out, HDR.out, restL, restL, if_neg (by simp), if_neg (by simp), putL, hle, if_neg (by simp), List.append_assoc]; rfl)
            clear he hle
            go_wp2_with (at_builtin; refine list_app1 rfl _ _ rfl w.heap.size _ ys rfl (POwn.alloc hown.out _) wr.heap.size 1 x rfl (heap_at_alloc _ _) HY.out (by simp; omega) ?_; intro v2 w2 hown2 hgr2)
            have HB2 := Lib.hid ((HB.out.alloc hsz _).trans (hgr2.below (by simp; omega) (POwn.low hown.out)))
            clear hgr2
            go_wp2_with fail
            go_roundw
            case rel => exact ⟨j + 1, false, ys ++ [x], by go_num, rfl, by omega, Lib.hid hown2, heq2, Lib.hid ⟨by have := hys.out.2 rfl; simp; omega, fun _ => by have := hys.out.2 rfl; simp; omega⟩, HB2.out⟩
            case measure => simp [intOf]; omega
    · have hltI : ¬ (j : Int) < (l.length : Int) := by omega
      have hdn : l.drop j = [] := List.drop_of_length_le (by omega)
      have HB := Lib.hid hb
      have hsz := hb.size
      obtain ⟨va, vc, rfl, _⟩ := POwn.shape hown.out
      cases b with
      | true =>
        have hres : Hid (POwn wr w.heap.size (.slice va ys.length vc) (putL k u l)) := Lib.hid (by
          have := heq.out
          rw [hdn] at this
          rw [← this]; simpa [restL, delL] using hown.out)
        clear hb hdn
        go_wp2
        go_ret
        exact ⟨_, rfl, hres.out, HB.out⟩
      | false =>
        have heq2 : Hid (ys ++ [(k, u)] = putL k u l) := Lib.hid (by
          have := heq.out
          rw [hdn] at this
          rw [← this]; simp [restL, putL])
        have hy1 : ys.length + 1 ≤ 100000 := by have := hys.out.1; omega
        have HY := Lib.hid hy1
        clear hb hdn hy1
        go_wp2_with (at_builtin; refine list_app1 rfl _ _ rfl w.heap.size _ ys rfl (POwn.alloc hown.out _) wr.heap.size 1 (k, u) rfl (heap_at_alloc _ _) HY.out (by simp; omega) ?_; intro v2 w2 hown2 hgr2)
        go_ret
        exact ⟨_, rfl, by rw [← heq2.out]; exact hown2, (HB.out.alloc hsz _).trans (hgr2.below (by simp; omega) (POwn.low hown.out))⟩
end Go.Proofs.YtohcackebmmikaaDoor
