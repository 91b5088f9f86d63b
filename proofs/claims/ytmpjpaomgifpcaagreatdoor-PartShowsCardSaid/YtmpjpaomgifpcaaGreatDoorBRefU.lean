/- The reference's Get and Under. -/
import Derived.Test.YtmpjpaomgifpcaaGreatDoorBRefB
namespace Go.Proofs.YtmpjpaomgifpcaaGreatDoor
open Go.RowKit

def GtRel (k : ByteArray) (l : List Pr) (w : World) (i : Value) (wr : World) : Prop := ∃ j : Nat, i = .int .i64 j ∧ j ≤ l.length ∧ Hid (getL k (l.drop j) = getL k l) ∧ w = wr
set_option maxHeartbeats 1000000 in
theorem get_ref (k : ByteArray) (l : List Pr) (lv : Value) (w : World) (hl : l.length ≤ 50000) (h : PSl w lv l) :
    Calls Tryz.prog 15 #[lv, .string k] w (GetRes w (getL k l)) := by
  obtain ⟨a, c, rfl, hc, hcells⟩ := h
  have HC := Lib.hid hcells
  have hl0 : (0 : Int) ≤ (l.length : Int) := by omega
  have hl1 : (l.length : Int) ≤ 50000 := by omega
  clear hcells
  go_enter Tryz.func15, Tryz.ntmps15
  go_wp2_with fail
  go_loopw [6] (GtRel k l w) (fun i _ => 50000 - (intOf i).toNat)
  case atStart => exact ⟨0, rfl, by omega, Lib.hid (by simp), rfl⟩
  case round =>
    obtain ⟨j, rfl, hj, heq, rfl⟩ := hrel
    have hj0 : (0 : Int) ≤ (j : Int) := by omega
    have hj1 : (j : Int) ≤ 50000 := by omega
    by_cases hlt : j < l.length
    · have hltI : (j : Int) < (l.length : Int) := by omega
      obtain ⟨g, o, rfl, hg, hcs⟩ := HC.out (by intro e; rw [e] at hlt; simp at hlt)
      obtain ⟨x, hx⟩ : ∃ x, x = l[j] := ⟨_, rfl⟩
      obtain ⟨c1, c2⟩ := hcs j x (by rw [hx]; exact List.getElem?_eq_getElem hlt)
      have hdr := drop_get l j hlt
      rw [← hx] at hdr
      have HDR := Lib.hid hdr
      clear hcs hdr hx
      by_cases he : x.1 = k
      · subst he
        have HV : Hid (getL x.1 l = some x.2) := Lib.hid (by rw [← heq.out, HDR.out, getL, if_pos rfl])
        go_wp2_with fail
        go_ret2
        exact ⟨by rw [HV.out]; rfl, Same.refl _⟩
      · have hne := str_ne he
        have heq2 : Hid (getL k (l.drop (j + 1)) = getL k l) := Lib.hid (by rw [← heq.out, HDR.out, getL, if_neg he])
        clear he
        go_wp2_with fail
        go_roundw
        case rel => exact ⟨j + 1, by go_num, by omega, heq2, rfl⟩
        case measure => simp [intOf]; omega
    · have hltI : ¬ (j : Int) < (l.length : Int) := by omega
      have HV : Hid (getL k l = none) := Lib.hid (by rw [← heq.out, List.drop_of_length_le (by omega)]; rfl)
      go_wp2
      go_ret2
      exact ⟨by rw [HV.out]; rfl, Same.refl _⟩

def UnRel (k : ByteArray) (n : Nat) (l : List Pr) (w : World) (v i : Value) (wr : World) : Prop :=
  ∃ (j : Nat) (ys : List Pr), i = .int .i64 j ∧ j ≤ l.length ∧ Hid (POwn wr w.heap.size v ys) ∧ Hid (ys ++ underL (ks k) n (l.drop j) = underL (ks k) n l) ∧ Hid (ys.length ≤ j) ∧ Below w.heap.size w wr
set_option maxRecDepth 30000 in
set_option maxHeartbeats 2000000 in
theorem under_ref (k : ByteArray) (n : Int) (l : List Pr) (lv : Value) (w : World) (hkey : ∀ x ∈ l, x.1.size = 32) (hl : l.length ≤ 50000) (h : PSl w lv l) :
    Calls Tryz.prog 18 #[lv, .string k, .int .i64 n] w (PRes w (undL k n l)) := by
  by_cases h32 : k.size = 32
  · by_cases h0 : 0 ≤ n
    · by_cases h1 : n ≤ 256
      · obtain ⟨m, rfl⟩ := Int.eq_ofNat_of_zero_le h0
        have hm : m ≤ 256 := by omega
        have e1 : undL k (m : Int) l = underL (ks k) m l := by unfold undL; rw [if_pos ⟨h32, h0, h1⟩]; rfl
        rw [e1]
        have hkI : ((k.size : Int) != 32) = false := by rw [h32]; rfl
        have hmI0 : ¬ (m : Int) < 0 := by omega
        have hmI1 : ¬ (256 : Int) < (m : Int) := by omega
        have hm0 : (0 : Int) ≤ (m : Int) := by omega
        have hm1 : (m : Int) ≤ 256 := by omega
        obtain ⟨a, c, rfl, hc, hcells⟩ := h
        have HC := Lib.hid hcells
        have HKEY := Lib.hid hkey
        have H32 := Lib.hid h32
        have hl0 : (0 : Int) ≤ (l.length : Int) := by omega
        have hl1 : (l.length : Int) ≤ 50000 := by omega
        clear hcells h0 h1 e1 h32 hkey
        go_enter Tryz.func18, Tryz.ntmps18
        go_wp2_with fail
        go_loopw [7, 8] (UnRel k m l w) (fun _ i _ => 50000 - (intOf i).toNat)
        case atStart => exact ⟨0, [], rfl, by omega, Lib.hid (POwn.nil _ _), Lib.hid (by simp), Lib.hid (by simp), Below.refl _ _⟩
        case round =>
          obtain ⟨j, ys, rfl, hj, hown, heq, hys, hb⟩ := hrel
          have hj0 : (0 : Int) ≤ (j : Int) := by omega
          have hj1 : (j : Int) ≤ 50000 := by omega
          by_cases hlt : j < l.length
          · have hltI : (j : Int) < (l.length : Int) := by omega
            obtain ⟨g, o, rfl, hg, hcs⟩ := HC.out (by intro e; rw [e] at hlt; simp at hlt)
            obtain ⟨x, hx⟩ : ∃ x, x = l[j] := ⟨_, rfl⟩
            obtain ⟨d1, d2⟩ := hcs j x (by rw [hx]; exact List.getElem?_eq_getElem hlt)
            have hxs := HKEY.out x (by rw [hx]; exact List.getElem_mem hlt)
            have c1 : wr.cell? ⟨g, o + j * 2, none⟩ = some (.string x.1) := by rw [hb.cell (p := ⟨g, o + j * 2, none⟩) hg]; exact d1
            have c2 : wr.cell? ⟨g, o + j * 2 + 1, none⟩ = some (.string x.2) := by rw [hb.cell (p := ⟨g, o + j * 2 + 1, none⟩) hg]; exact d2
            have hsz := hb.size
            have HB := Lib.hid hb
            have hdr := drop_get l j hlt
            rw [← hx] at hdr
            have HDR := Lib.hid hdr
            have HH := Lib.hid (fun W => has_ref x.1 k m W hm hxs H32.out)
            obtain ⟨va, vc, rfl, _⟩ := POwn.shape hown.out
            clear d1 d2 hcs hb hdr hx hxs
            cases hh : hasL (ks x.1) (ks k) m with
            | false =>
              rw [hh] at HH
              have heq2 : Hid (ys ++ underL (ks k) m (l.drop (j + 1)) = underL (ks k) m l) := Lib.hid (by
                rw [← heq.out, HDR.out, underL, underL, List.filter_cons, hh]; rfl)
              clear hh
              go_wp2_with fail
              refine (HH.out _).mono ?_
              rintro e w1 ⟨rfl, rfl⟩
              go_wp2_with fail
              go_roundw
              case rel => exact ⟨j + 1, ys, by go_num, by omega, hown, heq2, Lib.hid (by have := hys.out; omega), HB.out⟩
              case measure => simp [intOf]; omega
            | true =>
              rw [hh] at HH
              have heq2 : Hid ((ys ++ [x]) ++ underL (ks k) m (l.drop (j + 1)) = underL (ks k) m l) := Lib.hid (by
                rw [← heq.out, HDR.out, underL, underL, List.filter_cons, hh, List.append_assoc]; rfl)
              have hys1 : ys.length + 1 ≤ 100000 := by have := hys.out; omega
              have HYS := Lib.hid hys1
              clear hys1 hh
              go_wp2_with fail
              refine (HH.out _).mono ?_
              rintro e w1 ⟨rfl, rfl⟩
              go_wp2_with (at_builtin; refine list_app1 rfl _ _ rfl w.heap.size _ ys rfl (POwn.alloc hown.out _) wr.heap.size 1 x rfl (heap_at_alloc _ _) HYS.out (by simp; omega) ?_; intro v2 w2 hown2 hgr2)
              have HB2 := Lib.hid ((HB.out.alloc hsz _).trans (hgr2.below (by simp; omega) (POwn.low hown.out)))
              clear hgr2
              go_wp2_with fail
              go_roundw
              case rel => exact ⟨j + 1, ys ++ [x], by go_num, by omega, Lib.hid hown2, heq2, Lib.hid (by have := hys.out; simp; omega), HB2.out⟩
              case measure => simp [intOf]; omega
          · have hltI : ¬ (j : Int) < (l.length : Int) := by omega
            obtain ⟨va, vc, rfl, _⟩ := POwn.shape hown.out
            have hres : Hid (POwn wr w.heap.size (.slice va ys.length vc) (underL (ks k) m l)) := Lib.hid (by
              have := heq.out
              rw [List.drop_of_length_le (by omega)] at this
              rw [← this]; simpa [underL] using hown.out)
            have HB := Lib.hid hb
            clear hb
            go_wp2
            go_ret
            exact ⟨_, rfl, hres.out, HB.out⟩
      · have e1 : undL k n l = [] := by unfold undL; rw [if_neg (fun h => h1 h.2.2)]
        rw [e1]
        have hkI : ((k.size : Int) != 32) = false := by rw [h32]; rfl
        have hn0 : ¬ n < 0 := by omega
        have hn1 : 256 < n := by omega
        obtain ⟨a, c, rfl, _, _⟩ := h
        clear e1 h32 h0 h1
        go_enter Tryz.func18, Tryz.ntmps18
        go_wp2
        go_ret
        exact ⟨_, rfl, POwn.nil _ _, Below.refl _ _⟩
    · have e1 : undL k n l = [] := by unfold undL; rw [if_neg (fun h => h0 h.2.1)]
      rw [e1]
      have hkI : ((k.size : Int) != 32) = false := by rw [h32]; rfl
      have hn0 : n < 0 := by omega
      obtain ⟨a, c, rfl, _, _⟩ := h
      clear e1 h32 h0
      go_enter Tryz.func18, Tryz.ntmps18
      go_wp2
      go_ret
      exact ⟨_, rfl, POwn.nil _ _, Below.refl _ _⟩
  · have e1 : undL k n l = [] := by unfold undL; rw [if_neg (fun h => h32 h.1)]
    rw [e1]
    have hkI : ((k.size : Int) != 32) = true := by simp; omega
    obtain ⟨a, c, rfl, _, _⟩ := h
    clear e1 h32
    go_enter Tryz.func18, Tryz.ntmps18
    go_wp2
    go_ret
    exact ⟨_, rfl, POwn.nil _ _, Below.refl _ _⟩
end Go.Proofs.YtmpjpaomgifpcaaGreatDoor
