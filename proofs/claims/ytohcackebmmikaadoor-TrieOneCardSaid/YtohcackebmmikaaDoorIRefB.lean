/- The reference's Bit, Has, Get, Under. -/
import Derived.Test.YtohcackebmmikaaDoorISame
namespace Go.Proofs.YtohcackebmmikaaDoor
open Go.RowKit

theorem wraps8 : ∀ n : Int, 0 ≤ n → n < 2 ^ 8 → IntKind.i64.wrap n = n := by
  intro n h0 h1
  exact IntWalk.i64_in _ (by omega)
theorem bits_and1i (n : Int) (h0 : 0 ≤ n) (h : n < 256) : bits BinOp.and IntKind.i64 n 1 = n % 2 :=
  bits_mask .i64 8 (by decide) wraps8 1 (by decide) n h0 h

theorem bit_ref (k : ByteArray) (i : Nat) (w : World) (hi : i < 256) (hk : k.size = 32) :
    Calls Tryd.prog 37 #[.string k, .int .i64 i] w fun e w' => e = .returned (.int .i64 (bitN (bitL (ks k) i))) ∧ w = w' := by
  have hi0 : (0 : Int) ≤ (i : Int) := by omega
  have hi1 : (i : Int) ≤ 255 := by omega
  have h8 : i / 8 < k.size := by omega
  have h8i : (i : Int) / 8 < (k.size : Int) := by omega
  have hx := (k[i / 8]'h8).toNat_lt
  have e1 : bitN (bitL (ks k) i) = ((k[i / 8]'h8).toNat : Int) / 2 ^ (7 - i % 8) % 2 := by
    rw [bitL, ks_getD _ _ h8, bitU_eq]
  rw [e1]
  have hq : 0 ≤ ((k[i / 8]'h8).toNat : Int) / 2 ^ (7 - i % 8) := Int.ediv_nonneg (by omega) (Int.pow_nonneg (by decide))
  have hq2 : ((k[i / 8]'h8).toNat : Int) / 2 ^ (7 - i % 8) < 256 := by
    have h1 : ((k[i / 8]'h8).toNat : Int) / 2 ^ (7 - i % 8) ≤ (k[i / 8]'h8).toNat := by
      have : ((k[i / 8]'h8).toNat : Int) / 2 ^ (7 - i % 8) = (((k[i / 8]'h8).toNat / 2 ^ (7 - i % 8) : Nat) : Int) := by simp
      rw [this]; exact_mod_cast Nat.div_le_self _ _
    omega
  have hb : bits BinOp.and IntKind.i64 (wrap64 (((k[i / 8]'h8).toNat : Int) / 2 ^ (7 - i % 8))) 1 = ((k[i / 8]'h8).toNat : Int) / 2 ^ (7 - i % 8) % 2 := by
    rw [IntWalk.wrap64_in _ (by omega)]; exact bits_and1i _ hq hq2
  have hks : k.size ≤ 1000000 := by omega
  clear hx hk hq2
  go_enter Tryd.func37, Tryd.ntmps37
  go_wp2
  go_ret
  exact ⟨by rw [← hb]; rfl, rfl⟩
theorem bitN_ne (a b : Bool) : (bitN a != bitN b) = (a != b) := by cases a <;> cases b <;> rfl

def HasRel (a l : ByteArray) (n : Nat) (w : World) (i : Value) (wr : World) : Prop := ∃ j : Nat, i = .int .i64 j ∧ j ≤ n ∧ Hid (∀ i, i < j → bitL (ks a) i = bitL (ks l) i) ∧ w = wr
set_option maxHeartbeats 1000000 in
theorem has_ref (a l : ByteArray) (n : Nat) (w : World) (hn : n ≤ 256) (ha : a.size = 32) (hl : l.size = 32) :
    Calls Tryd.prog 42 #[.string a, .string l, .int .i64 n] w fun e w' => e = .returned (.bool (hasL (ks a) (ks l) n)) ∧ w = w' := by
  obtain ⟨R, hR⟩ : ∃ R, R = hasL (ks a) (ks l) n := ⟨_, rfl⟩
  rw [← hR]
  have HR := Lib.hid hR
  have hn0 : (0 : Int) ≤ (n : Int) := by omega
  have hn1 : (n : Int) ≤ 256 := by omega
  clear hR
  go_enter Tryd.func42, Tryd.ntmps42
  go_wp2_with fail
  go_loopw [7] (HasRel a l n w) (fun i _ => 256 - (intOf i).toNat)
  case atStart => exact ⟨0, rfl, by omega, Lib.hid (fun i h => by omega), rfl⟩
  case round =>
    obtain ⟨j, rfl, hj, hsm, rfl⟩ := hrel
    have hj0 : (0 : Int) ≤ (j : Int) := by omega
    have hj1 : (j : Int) ≤ 256 := by omega
    by_cases hlt : j < n
    · have hltI : (j : Int) < (n : Int) := by omega
      have H1 := Lib.hid (fun W => bit_ref a j W (by omega) ha)
      have H2 := Lib.hid (fun W => bit_ref l j W (by omega) hl)
      by_cases he : bitL (ks a) j = bitL (ks l) j
      · have hI : (bitN (bitL (ks a) j) != bitN (bitL (ks l) j)) = false := by rw [bitN_ne, he]; simp
        have HS : Hid (∀ i, i < j + 1 → bitL (ks a) i = bitL (ks l) i) := Lib.hid (fun i hi => by
          by_cases h : i < j
          · exact hsm.out i h
          · rw [show i = j by omega]; exact he)
        obtain ⟨x, hx⟩ : ∃ x, x = bitN (bitL (ks a) j) := ⟨_, rfl⟩
        obtain ⟨y, hy⟩ : ∃ y, y = bitN (bitL (ks l) j) := ⟨_, rfl⟩
        rw [← hx] at H1 hI
        rw [← hy] at H2 hI
        clear he hx hy
        go_wp2_with fail
        refine (H1.out _).mono ?_
        rintro e w1 ⟨rfl, rfl⟩
        go_wp2_with fail
        refine (H2.out _).mono ?_
        rintro e w2 ⟨rfl, rfl⟩
        go_wp2_with fail
        go_roundw
        case rel => exact ⟨j + 1, by go_num, by omega, HS, rfl⟩
        case measure => simp [intOf]; omega
      · have hI : (bitN (bitL (ks a) j) != bitN (bitL (ks l) j)) = true := by rw [bitN_ne]; simpa using he
        have HF : Hid (R = false) := Lib.hid (by
          rw [HR.out, Bool.eq_false_iff]
          intro h; exact he ((hasL_iff _ _ _).1 h j hlt))
        obtain ⟨x, hx⟩ : ∃ x, x = bitN (bitL (ks a) j) := ⟨_, rfl⟩
        obtain ⟨y, hy⟩ : ∃ y, y = bitN (bitL (ks l) j) := ⟨_, rfl⟩
        rw [← hx] at H1 hI
        rw [← hy] at H2 hI
        clear he hx hy
        go_wp2_with fail
        refine (H1.out _).mono ?_
        rintro e w1 ⟨rfl, rfl⟩
        go_wp2_with fail
        refine (H2.out _).mono ?_
        rintro e w2 ⟨rfl, rfl⟩
        go_wp2_with fail
        go_ret
        exact ⟨by rw [HF.out]; rfl, rfl⟩
    · have hltI : ¬ (j : Int) < (n : Int) := by omega
      have HT : Hid (R = true) := Lib.hid (by
        rw [HR.out, hasL_iff]
        intro i hi; exact hsm.out i (by omega))
      go_wp2
      go_ret
      exact ⟨by rw [HT.out]; rfl, rfl⟩

def GtRel (k : ByteArray) (l : List Pr) (w : World) (i : Value) (wr : World) : Prop := ∃ j : Nat, i = .int .i64 j ∧ j ≤ l.length ∧ Hid (getL k (l.drop j) = getL k l) ∧ w = wr
set_option maxHeartbeats 1000000 in
theorem get_ref (k : ByteArray) (l : List Pr) (lv : Value) (w : World) (hl : l.length ≤ 50000) (h : PSl w lv l) :
    Calls Tryd.prog 22 #[lv, .string k] w (GetRes w (getL k l)) := by
  obtain ⟨a, c, rfl, hc, hcells⟩ := h
  have HC := Lib.hid hcells
  have hl0 : (0 : Int) ≤ (l.length : Int) := by omega
  have hl1 : (l.length : Int) ≤ 50000 := by omega
  clear hcells
  go_enter Tryd.func22, Tryd.ntmps22
  go_wp2_with fail
  go_loopw [6] (GtRel k l w) (fun i _ => 50000 - (intOf i).toNat)
  case atStart => exact ⟨0, rfl, by omega, Lib.hid (by simp), rfl⟩
  case round =>
    obtain ⟨j, rfl, hj, heq, rfl⟩ := hrel
    have hj0 : (0 : Int) ≤ (j : Int) := by omega
    have hj1 : (j : Int) ≤ 50000 := by omega
    by_cases hlt : j < l.length
    · have hltI : (j : Int) < (l.length : Int) := by omega
      obtain ⟨g, o, rfl, hg, hcs⟩ := HC.out (by intro e; rw [e] at hlt; simp at hlt)
      obtain ⟨x, hx⟩ : ∃ x, x = l[j] := ⟨_, rfl⟩
      obtain ⟨c1, c2⟩ := hcs j x (by rw [hx]; exact List.getElem?_eq_getElem hlt)
      have hdr := drop_get l j hlt
      rw [← hx] at hdr
      have HDR := Lib.hid hdr
      clear hcs hdr hx
      by_cases he : x.1 = k
      · subst he
        have HV : Hid (getL x.1 l = some x.2) := Lib.hid (by rw [← heq.out, HDR.out, getL, if_pos rfl])
        go_wp2_with fail
        go_ret2
        exact ⟨by rw [HV.out]; rfl, Same.refl _⟩
      · have hne := str_ne he
        have heq2 : Hid (getL k (l.drop (j + 1)) = getL k l) := Lib.hid (by rw [← heq.out, HDR.out, getL, if_neg he])
        clear he
        go_wp2_with fail
        go_roundw
        case rel => exact ⟨j + 1, by go_num, by omega, heq2, rfl⟩
        case measure => simp [intOf]; omega
    · have hltI : ¬ (j : Int) < (l.length : Int) := by omega
      have HV : Hid (getL k l = none) := Lib.hid (by rw [← heq.out, List.drop_of_length_le (by omega)]; rfl)
      go_wp2
      go_ret2
      exact ⟨by rw [HV.out]; rfl, Same.refl _⟩

def UnRel (k : ByteArray) (n : Nat) (l : List Pr) (w : World) (v i : Value) (wr : World) : Prop :=
  ∃ (j : Nat) (ys : List Pr), i = .int .i64 j ∧ j ≤ l.length ∧ Hid (POwn wr w.heap.size v ys) ∧ Hid (ys ++ underL (ks k) n (l.drop j) = underL (ks k) n l) ∧ Hid (ys.length ≤ j) ∧ Below w.heap.size w wr
set_option maxRecDepth 30000 in
set_option maxHeartbeats 2000000 in
theorem under_ref (k : ByteArray) (n : Int) (l : List Pr) (lv : Value) (w : World) (hkey : ∀ x ∈ l, x.1.size = 32) (hl : l.length ≤ 50000) (h : PSl w lv l) :
    Calls Tryd.prog 24 #[lv, .string k, .int .i64 n] w (PRes w (undL k n l)) := by
  by_cases h32 : k.size = 32
  · by_cases h0 : 0 ≤ n
    · by_cases h1 : n ≤ 256
      · obtain ⟨m, rfl⟩ := Int.eq_ofNat_of_zero_le h0
        have hm : m ≤ 256 := by omega
        have e1 : undL k (m : Int) l = underL (ks k) m l := by unfold undL; rw [if_pos ⟨h32, h0, h1⟩]; rfl
        rw [e1]
        have hkI : ((k.size : Int) != 32) = false := by rw [h32]; rfl
        have hmI0 : ¬ (m : Int) < 0 := by omega
        have hmI1 : ¬ (256 : Int) < (m : Int) := by omega
        have hm0 : (0 : Int) ≤ (m : Int) := by omega
        have hm1 : (m : Int) ≤ 256 := by omega
        obtain ⟨a, c, rfl, hc, hcells⟩ := h
        have HC := Lib.hid hcells
        have HKEY := Lib.hid hkey
        have H32 := Lib.hid h32
        have hl0 : (0 : Int) ≤ (l.length : Int) := by omega
        have hl1 : (l.length : Int) ≤ 50000 := by omega
        clear hcells h0 h1 e1 h32 hkey
        go_enter Tryd.func24, Tryd.ntmps24
        go_wp2_with fail
        go_loopw [7, 8] (UnRel k m l w) (fun _ i _ => 50000 - (intOf i).toNat)
        case atStart => exact ⟨0, [], rfl, by omega, Lib.hid (POwn.nil _ _), Lib.hid (by simp), Lib.hid (by simp), Below.refl _ _⟩
        case round =>
          obtain ⟨j, ys, rfl, hj, hown, heq, hys, hb⟩ := hrel
          have hj0 : (0 : Int) ≤ (j : Int) := by omega
          have hj1 : (j : Int) ≤ 50000 := by omega
          by_cases hlt : j < l.length
          · have hltI : (j : Int) < (l.length : Int) := by omega
            obtain ⟨g, o, rfl, hg, hcs⟩ := HC.out (by intro e; rw [e] at hlt; simp at hlt)
            obtain ⟨x, hx⟩ : ∃ x, x = l[j] := ⟨_, rfl⟩
            obtain ⟨d1, d2⟩ := hcs j x (by rw [hx]; exact List.getElem?_eq_getElem hlt)
            have hxs := HKEY.out x (by rw [hx]; exact List.getElem_mem hlt)
            have c1 : wr.cell? ⟨g, o + j * 2, none⟩ = some (.string x.1) := by rw [hb.cell (p := ⟨g, o + j * 2, none⟩) hg]; exact d1
            have c2 : wr.cell? ⟨g, o + j * 2 + 1, none⟩ = some (.string x.2) := by rw [hb.cell (p := ⟨g, o + j * 2 + 1, none⟩) hg]; exact d2
            have hsz := hb.size
            have HB := Lib.hid hb
            have hdr := drop_get l j hlt
            rw [← hx] at hdr
            have HDR := Lib.hid hdr
            have HH := Lib.hid (fun W => has_ref x.1 k m W hm hxs H32.out)
            obtain ⟨va, vc, rfl, _⟩ := POwn.shape hown.out
            clear d1 d2 hcs hb hdr hx hxs
            cases hh : hasL (ks x.1) (ks k) m with
            | false =>
              rw [hh] at HH
              have heq2 : Hid (ys ++ underL (ks k) m (l.drop (j + 1)) = underL (ks k) m l) := Lib.hid (by
                rw [← heq.out, HDR.out, underL, underL, List.filter_cons, hh]; rfl)
              clear hh
              go_wp2_with fail
              refine (HH.out _).mono ?_
              rintro e w1 ⟨rfl, rfl⟩
              go_wp2_with fail
              go_roundw
              case rel => exact ⟨j + 1, ys, by go_num, by omega, hown, heq2, Lib.hid (by have := hys.out; omega), HB.out⟩
              case measure => simp [intOf]; omega
            | true =>
              rw [hh] at HH
              have heq2 : Hid ((ys ++ [x]) ++ underL (ks k) m (l.drop (j + 1)) = underL (ks k) m l) := Lib.hid (by
                rw [← heq.out, HDR.out, underL, underL, List.filter_cons, hh, List.append_assoc]; rfl)
              have hys1 : ys.length + 1 ≤ 100000 := by have := hys.out; omega
              have HYS := Lib.hid hys1
              clear hys1 hh
              go_wp2_with fail
              refine (HH.out _).mono ?_
              rintro e w1 ⟨rfl, rfl⟩
              go_wp2_with (at_builtin; refine list_app1 rfl _ _ rfl w.heap.size _ ys rfl (POwn.alloc hown.out _) wr.heap.size 1 x rfl (heap_at_alloc _ _) HYS.out (by simp; omega) ?_; intro v2 w2 hown2 hgr2)
              have HB2 := Lib.hid ((HB.out.alloc hsz _).trans (hgr2.below (by simp; omega) (POwn.low hown.out)))
              clear hgr2
              go_wp2_with fail
              go_roundw
              case rel => exact ⟨j + 1, ys ++ [x], by go_num, by omega, Lib.hid hown2, heq2, Lib.hid (by have := hys.out; simp; omega), HB2.out⟩
              case measure => simp [intOf]; omega
          · have hltI : ¬ (j : Int) < (l.length : Int) := by omega
            obtain ⟨va, vc, rfl, _⟩ := POwn.shape hown.out
            have hres : Hid (POwn wr w.heap.size (.slice va ys.length vc) (underL (ks k) m l)) := Lib.hid (by
              have := heq.out
              rw [List.drop_of_length_le (by omega)] at this
              rw [← this]; simpa [underL] using hown.out)
            have HB := Lib.hid hb
            clear hb
            go_wp2
            go_ret
            exact ⟨_, rfl, hres.out, HB.out⟩
      · have e1 : undL k n l = [] := by unfold undL; rw [if_neg (fun h => h1 h.2.2)]
        rw [e1]
        have hkI : ((k.size : Int) != 32) = false := by rw [h32]; rfl
        have hn0 : ¬ n < 0 := by omega
        have hn1 : 256 < n := by omega
        obtain ⟨a, c, rfl, _, _⟩ := h
        clear e1 h32 h0 h1
        go_enter Tryd.func24, Tryd.ntmps24
        go_wp2
        go_ret
        exact ⟨_, rfl, POwn.nil _ _, Below.refl _ _⟩
    · have e1 : undL k n l = [] := by unfold undL; rw [if_neg (fun h => h0 h.2.1)]
      rw [e1]
      have hkI : ((k.size : Int) != 32) = false := by rw [h32]; rfl
      have hn0 : n < 0 := by omega
      obtain ⟨a, c, rfl, _, _⟩ := h
      clear e1 h32 h0
      go_enter Tryd.func24, Tryd.ntmps24
      go_wp2
      go_ret
      exact ⟨_, rfl, POwn.nil _ _, Below.refl _ _⟩
  · have e1 : undL k n l = [] := by unfold undL; rw [if_neg (fun h => h32 h.1)]
    rw [e1]
    have hkI : ((k.size : Int) != 32) = true := by simp; omega
    obtain ⟨a, c, rfl, _, _⟩ := h
    clear e1 h32
    go_enter Tryd.func24, Tryd.ntmps24
    go_wp2
    go_ret
    exact ⟨_, rfl, POwn.nil _ _, Below.refl _ _⟩
end Go.Proofs.YtohcackebmmikaaDoor
