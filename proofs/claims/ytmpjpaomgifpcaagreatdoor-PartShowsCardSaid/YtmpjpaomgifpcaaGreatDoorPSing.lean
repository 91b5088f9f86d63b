/- part's single, fits. -/
import Derived.Test.YtmpjpaomgifpcaaGreatDoorPTop
import Derived.Test.YtmpjpaomgifpcaaGreatDoorPParse
import Derived.Test.YtmpjpaomgifpcaaGreatDoorBCodR
import Derived.BigRegion
namespace Go.Proofs.YtmpjpaomgifpcaaGreatDoor
open Go.RowKit
open Cod (F Nd KidsAt Lies nodeV)

/-- What a node says by itself, in memory. -/
def SNAt (w : World) : SN → Nat → Prop
  | .stub h, b => StubAt w b h
  | .leaf k v, b => NodeAt w b true k v 0 (.pointer none) (.pointer none) (leafH k v)
  | .fork p k, b => NodeAt w b false k ⟨#[]⟩ p (.pointer none) (.pointer none) ⟨#[]⟩
def SgRes (w : World) (o : Option SN) (e : Ending) (w' : World) : Prop := match o with
  | none => ∃ q, e = .returned (.tuple #[.pointer q, .bool false]) ∧ Below w.heap.size w w'
  | some x => ∃ b, e = .returned (.tuple #[pp b, .bool true]) ∧ SNAt w' x b ∧ Below w.heap.size w w'

set_option maxRecDepth 30000 in
set_option maxHeartbeats 2000000 in
theorem single_str (n : Int) (s : ByteArray) (ka : Option Addr) (kn kc : Nat) (w : World) :
    Calls Tryz.prog 79 #[.agg #[.int .i64 1, .int .u64 n, .string s, .slice ka kn kc]] w (SgRes w (if s.size = 32 then some (.stub s) else none)) := by
  obtain ⟨W, hW⟩ : ∃ W, W = w.alloc (.cells #[.int .i64 1, .int .u64 n, .string s, .slice ka kn kc] 80) := ⟨_, rfl⟩
  have hblk : W.heap[w.heap.size]? = some (.cells #[.int .i64 1, .int .u64 n, .string s, .slice ka kn kc] 80 (0, 0)) := by rw [hW]; exact heap_alloc_new _ _
  obtain ⟨_, _, c2, _⟩ := Cod.block4 hblk
  have hbW : Below w.heap.size w W := by rw [hW]; exact (Below.refl _ _).alloc (Nat.le_refl _) _
  have HW := Lib.hid hW
  have HBW := Lib.hid hbW
  clear hblk hbW hW
  have d2 := cellA (.cells #[.bool false, .bool true, .string ⟨#[]⟩, .string ⟨#[]⟩, .int .i64 0, .pointer none, .pointer none, .string s] 91) c2
  have HSN := Lib.hid (show StubAt (W.alloc (.cells #[.bool false, .bool true, .string ⟨#[]⟩, .string ⟨#[]⟩, .int .i64 0, .pointer none, .pointer none, .string s] 91)) W.heap.size s from heap_alloc_new _ _)
  have HB2 : Hid (Below w.heap.size w (W.alloc (.cells #[.bool false, .bool true, .string ⟨#[]⟩, .string ⟨#[]⟩, .int .i64 0, .pointer none, .pointer none, .string s] 91))) := Lib.hid (HBW.out.alloc HBW.out.size _)
  by_cases h32 : s.size = 32
  · rw [if_pos h32]
    have hI : ((s.size : Int) == 32) = true := by rw [h32]; rfl
    clear h32
    go_enter Tryz.func79, Tryz.ntmps79
    go_wp2_with fail
    rw [← HW.out]
    go_region
    all_goals (
      go_wp2
      go_ret2
      exact ⟨_, rfl, HSN.out, HB2.out.drew⟩)
  · rw [if_neg h32]
    have hI : ((s.size : Int) == 32) = false := by simp; omega
    clear h32
    go_enter Tryz.func79, Tryz.ntmps79
    go_wp2_with fail
    rw [← HW.out]
    go_region
    all_goals (
      go_wp2
      go_ret2
      exact ⟨_, rfl, HB2.out.drew⟩)

/-- A node of two kids, of which the second is a text. -/
def twoF (k1 n1 : Int) (s1 : ByteArray) (c1 : F) (k2 n2 : Int) (s2 : ByteArray) (c2 : F) : F := .cons k1 n1 s1 c1 (.cons k2 n2 s2 c2 .nil)

set_option maxRecDepth 30000 in
set_option maxHeartbeats 2000000 in
theorem single_bad (k n : Int) (s : ByteArray) (ka : Option Addr) (kn kc : Nat) (w : World) (hk : k ≠ 1) (hb : k ≠ 2 ∨ kn ≠ 2) :
    Calls Tryz.prog 79 #[.agg #[.int .i64 k, .int .u64 n, .string s, .slice ka kn kc]] w (SgRes w none) := by
  obtain ⟨W, hW⟩ : ∃ W, W = w.alloc (.cells #[.int .i64 k, .int .u64 n, .string s, .slice ka kn kc] 80) := ⟨_, rfl⟩
  have hbW : Below w.heap.size w W := by rw [hW]; exact (Below.refl _ _).alloc (Nat.le_refl _) _
  have HW := Lib.hid hW
  have HBW := Lib.hid hbW
  have hI1 : (k == 1) = false := by simpa using hk
  clear hbW hW hk
  by_cases h2 : k = 2
  · have hI2 : (k != 2) = false := by rw [h2]; rfl
    have hI3 : ((kn : Int) != 2) = true := by
      rcases hb with h | h
      · exact absurd h2 h
      · simp; omega
    clear hb h2
    go_enter Tryz.func79, Tryz.ntmps79
    go_wp2
    go_ret2
    exact ⟨none, rfl, by rw [← HW.out]; exact HBW.out⟩
  · have hI2 : (k != 2) = true := by simpa using h2
    clear hb h2
    go_enter Tryz.func79, Tryz.ntmps79
    go_wp2
    go_ret2
    exact ⟨none, rfl, by rw [← HW.out]; exact HBW.out⟩

set_option maxRecDepth 30000 in
set_option maxHeartbeats 4000000 in
theorem single_two (n : Int) (s : ByteArray) (k1 n1 : Int) (s1 : ByteArray) (k2 : Int) (s2 : ByteArray) (a1 : Option Addr) (l1 m1 : Nat) (g o kc : Nat) (w : World)
    (c0 : w.cell? ⟨g, o, none⟩ = some (.int .i64 k1)) (c1 : w.cell? ⟨g, o + 1, none⟩ = some (.int .u64 n1)) (c2 : w.cell? ⟨g, o + 2, none⟩ = some (.string s1)) (c3 : w.cell? ⟨g, o + 3, none⟩ = some (.slice a1 l1 m1))
    (e0 : w.cell? ⟨g, o + 4, none⟩ = some (.int .i64 k2)) (e2 : w.cell? ⟨g, o + 4 + 2, none⟩ = some (.string s2)) (hn : 0 ≤ n1 ∧ n1 < 18446744073709551616) (hs2 : s2.size ≤ 5000) (hst : Start w) :
    Calls Tryz.prog 79 #[.agg #[.int .i64 2, .int .u64 n, .string s, .slice (some ⟨g, o, none⟩) 2 kc]] w (SgRes w (twoP k1 n1 s1 k2 s2)) := by
  obtain ⟨W, hW⟩ : ∃ W, W = w.alloc (.cells #[.int .i64 2, .int .u64 n, .string s, .slice (some ⟨g, o, none⟩) 2 kc] 80) := ⟨_, rfl⟩
  have hblk : W.heap[w.heap.size]? = some (.cells #[.int .i64 2, .int .u64 n, .string s, .slice (some ⟨g, o, none⟩) 2 kc] 80 (0, 0)) := by rw [hW]; exact heap_alloc_new _ _
  obtain ⟨_, _, _, w3, _⟩ := Cod.block4 hblk
  have hbW : Below w.heap.size w W := by rw [hW]; exact (Below.refl _ _).alloc (Nat.le_refl _) _
  have HW := Lib.hid hW
  have HBW := Lib.hid hbW
  have HST := Lib.hid (hst.later hbW)
  have d0 := cellB hbW c0
  have d1 := cellB hbW c1
  have d2 := cellB hbW c2
  have d3 := cellB hbW c3
  have f0 := cellB hbW e0
  have f2 := cellB hbW e2
  unfold twoP
  by_cases h2 : k2 = 1
  · rw [if_pos h2]
    have hI2 : (k2 != 1) = false := by rw [h2]; rfl
    clear hblk hbW hW hst h2
    have b0 := d0
    have b1 := d1
    have b2 := d2
    have b3 := d3
    have b4 := f0
    have b5 := f2
    have b6 := w3
    rw [HW.out] at b0 b1 b2 b3 b4 b5 b6
    obtain ⟨V, hV⟩ : ∃ V, V = (W.alloc (.cells #[.int .i64 k1, .int .u64 n1, .string s1, .slice a1 l1 m1] 80)).drew := ⟨_, rfl⟩
    have hblkV : V.heap[W.heap.size]? = some (.cells #[.int .i64 k1, .int .u64 n1, .string s1, .slice a1 l1 m1] 80 (0, 0)) := by rw [hV]; exact heap_alloc_new _ _
    have hbV : Below W.heap.size W V := by rw [hV]; exact ((Below.refl _ W).alloc (Nat.le_refl _) _).drew
    obtain ⟨x0, x1, x2, _⟩ := Cod.block4 hblkV
    have HBV := Lib.hid (HBW.out.trans (hbV.mono HBW.out.size))
    have HSV := Lib.hid (HST.out.later hbV)
    have HV := Lib.hid hV
    clear c0 c1 c2 c3 e0 e2 hblkV hbV hV
    by_cases h1 : k1 = 1
    · rw [if_pos h1]
      have hI1 : (k1 == 1) = true := by rw [h1]; rfl
      clear h1
      by_cases h32 : s1.size = 32
      · rw [if_pos h32]
        have hI3 : ((s1.size : Int) == 32) = true := by rw [h32]; rfl
        have HL := Lib.hid (fun (X : World) (h : Start X) => leaf_part s1 s2 X h32 hs2 h)
        clear h32
        go_enter Tryz.func79, Tryz.ntmps79
        go_wp2_with fail
        rw [← HW.out]
        go_region_held3 (fun X => X.cell? ⟨w.heap.size, 3, none⟩ = some (.slice (some ⟨g, o, none⟩) 2 kc) ∧ X.cell? ⟨g, o, none⟩ = some (.int .i64 k1) ∧ X.cell? ⟨g, o + 1, none⟩ = some (.int .u64 n1) ∧ X.cell? ⟨g, o + 2, none⟩ = some (.string s1) ∧ X.cell? ⟨g, o + 3, none⟩ = some (.slice a1 l1 m1) ∧ X.cell? ⟨g, o + 4 + 2, none⟩ = some (.string s2))
          (first | exact ⟨w3, d0, d1, d2, d3, f2⟩ | exact ⟨cellA _ w3, cellA _ d0, cellA _ d1, cellA _ d2, cellA _ d3, cellA _ f2⟩)
          (fail)
        go_wp2_with fail
        rw [← HV.out]
        have HSVD : Hid (Start V.drew) := Lib.hid (HSV.out.later (Below.refl _ V).drew)
        go_region_held3 (fun X => X.cell? ⟨W.heap.size, 2, none⟩ = some (.string s1))
          (first | exact x2 | exact hcs4)
          ((go_at_call 62; (with_reducible refine (HL.out _ HSVD.out).mono ?_); rintro e w4 ⟨d4, rfl, hd4, hb4⟩; unfold pp; have hcs4 := cellD hb4 x2; have HB4 := Lib.hid (HBV.out.trans (((Below.refl _ V).drew.trans hb4).mono HBV.out.size)); have HD4 := Lib.hid hd4))
        go_wp2
        go_ret2
        exact ⟨_, rfl, HD4.out, HB4.out⟩
      · rw [if_neg h32]
        have hI3 : ((s1.size : Int) == 32) = false := by simp; omega
        have HL := Lib.hid (fun (X : World) => leaf_none s1 s2 X h32)
        clear h32
        go_enter Tryz.func79, Tryz.ntmps79
        go_wp2_with fail
        rw [← HW.out]
        go_region_held3 (fun X => X.cell? ⟨w.heap.size, 3, none⟩ = some (.slice (some ⟨g, o, none⟩) 2 kc) ∧ X.cell? ⟨g, o, none⟩ = some (.int .i64 k1) ∧ X.cell? ⟨g, o + 1, none⟩ = some (.int .u64 n1) ∧ X.cell? ⟨g, o + 2, none⟩ = some (.string s1) ∧ X.cell? ⟨g, o + 3, none⟩ = some (.slice a1 l1 m1) ∧ X.cell? ⟨g, o + 4 + 2, none⟩ = some (.string s2))
          (first | exact ⟨w3, d0, d1, d2, d3, f2⟩ | exact ⟨cellA _ w3, cellA _ d0, cellA _ d1, cellA _ d2, cellA _ d3, cellA _ f2⟩)
          (fail)
        go_wp2_with fail
        rw [← HV.out]
        go_region_held3 (fun X => X.cell? ⟨W.heap.size, 2, none⟩ = some (.string s1))
          (first | exact x2 | exact hcs4)
          ((go_at_call 62; (with_reducible refine (HL.out _).mono ?_); rintro e w4 ⟨rfl, hb4⟩; have hcs4 := cellD hb4 x2; have HB4 := Lib.hid (HBV.out.trans (((Below.refl _ V).drew.trans hb4).mono HBV.out.size))))
        go_wp2
        go_ret2
        exact ⟨_, rfl, HB4.out⟩
    · rw [if_neg h1]
      have hI1 : (k1 == 1) = false := by simpa using h1
      clear h1
      by_cases h0 : k1 = 0
      · rw [if_pos h0]
        have hI0 : (k1 == 0) = true := by rw [h0]; rfl
        clear h0
        obtain ⟨hn0, hn1⟩ := hn
        by_cases hp : n1 < 256
        · obtain ⟨p, rfl⟩ := Int.eq_ofNat_of_zero_le hn0
          have hp1 : p < 256 := by omega
          have hpI : decide ((p : Int) < 256) = true := by simpa using hp
          by_cases h32 : s2.size = 32
          · have hI3 : ((s2.size : Int) == 32) = true := by rw [h32]; rfl
            have HF := Lib.hid (fun (X : World) => first_prog s2 p X h32 (by omega))
            obtain ⟨R, hR⟩ : ∃ R, R = firstB s2 p := ⟨_, rfl⟩
            rw [← hR] at HF
            by_cases he : R = s2
            · rw [if_pos ⟨hp, h32, by rw [Int.toNat_natCast]; exact hR.symm.trans he⟩]
              have heI : R.toList = s2.toList := by rw [he]
              have hP0 : (0 : Int) ≤ (p : Int) := by omega
              have hP1 : (p : Int) ≤ 255 := by omega
              have hPn : Int.toNat (p : Int) = p := by simp
              rw [hPn]
              clear h32 he hR hp hPn
              go_enter Tryz.func79, Tryz.ntmps79
              go_wp2_with fail
              rw [← HW.out]
              go_region_held3 (fun X => X.cell? ⟨w.heap.size, 3, none⟩ = some (.slice (some ⟨g, o, none⟩) 2 kc) ∧ X.cell? ⟨g, o, none⟩ = some (.int .i64 k1) ∧ X.cell? ⟨g, o + 1, none⟩ = some (.int .u64 p) ∧ X.cell? ⟨g, o + 2, none⟩ = some (.string s1) ∧ X.cell? ⟨g, o + 3, none⟩ = some (.slice a1 l1 m1) ∧ X.cell? ⟨g, o + 4 + 2, none⟩ = some (.string s2))
                (first | exact ⟨w3, d0, d1, d2, d3, f2⟩ | exact ⟨cellA _ w3, cellA _ d0, cellA _ d1, cellA _ d2, cellA _ d3, cellA _ f2⟩)
                (fail)
              go_wp2_with fail
              rw [← HV.out]
              refine (HF.out _).mono ?_
              rintro e w5 ⟨rfl, hb5⟩
              have y1 := cellB hb5 x1
              have HB5 := Lib.hid (HBV.out.trans (hb5.mono HBV.out.size))
              clear hb5 x1
              go_wp2
              go_ret2
              exact ⟨_, rfl, heap_alloc_new _ _, HB5.out.alloc HB5.out.size _⟩
            · rw [if_neg (fun h => he (by have := h.2.2; rw [Int.toNat_natCast] at this; exact hR.trans this))]
              have heI : (R.toList == s2.toList) = false := str_ne he
              have hP0 : (0 : Int) ≤ (p : Int) := by omega
              have hP1 : (p : Int) ≤ 255 := by omega
              clear h32 he hR hp
              go_enter Tryz.func79, Tryz.ntmps79
              go_wp2_with fail
              rw [← HW.out]
              go_region_held3 (fun X => X.cell? ⟨w.heap.size, 3, none⟩ = some (.slice (some ⟨g, o, none⟩) 2 kc) ∧ X.cell? ⟨g, o, none⟩ = some (.int .i64 k1) ∧ X.cell? ⟨g, o + 1, none⟩ = some (.int .u64 p) ∧ X.cell? ⟨g, o + 2, none⟩ = some (.string s1) ∧ X.cell? ⟨g, o + 3, none⟩ = some (.slice a1 l1 m1) ∧ X.cell? ⟨g, o + 4 + 2, none⟩ = some (.string s2))
                (first | exact ⟨w3, d0, d1, d2, d3, f2⟩ | exact ⟨cellA _ w3, cellA _ d0, cellA _ d1, cellA _ d2, cellA _ d3, cellA _ f2⟩)
                (fail)
              go_wp2_with fail
              rw [← HV.out]
              refine (HF.out _).mono ?_
              rintro e w5 ⟨rfl, hb5⟩
              have y1 := cellB hb5 x1
              have HB5 := Lib.hid (HBV.out.trans (hb5.mono HBV.out.size))
              clear hb5 x1
              go_wp2
              go_ret2
              exact ⟨_, rfl, HB5.out.alloc HB5.out.size _⟩
          · rw [if_neg (fun h => h32 h.2.1)]
            have hI3 : ((s2.size : Int) == 32) = false := by simp; omega
            clear h32
            go_enter Tryz.func79, Tryz.ntmps79
            go_wp2_with fail
            rw [← HW.out]
            go_region_held3 (fun X => X.cell? ⟨w.heap.size, 3, none⟩ = some (.slice (some ⟨g, o, none⟩) 2 kc) ∧ X.cell? ⟨g, o, none⟩ = some (.int .i64 k1) ∧ X.cell? ⟨g, o + 1, none⟩ = some (.int .u64 p) ∧ X.cell? ⟨g, o + 2, none⟩ = some (.string s1) ∧ X.cell? ⟨g, o + 3, none⟩ = some (.slice a1 l1 m1) ∧ X.cell? ⟨g, o + 4 + 2, none⟩ = some (.string s2))
              (first | exact ⟨w3, d0, d1, d2, d3, f2⟩ | exact ⟨cellA _ w3, cellA _ d0, cellA _ d1, cellA _ d2, cellA _ d3, cellA _ f2⟩)
              (fail)
            rw [← HV.out]
            have hP0 : (0 : Int) ≤ (p : Int) := by omega
            have hP1 : (p : Int) ≤ 255 := by omega
            go_wp2
            go_ret2
            exact ⟨_, rfl, HBV.out.alloc HBV.out.size _⟩
        · rw [if_neg (fun h => hp h.1)]
          have hpI : decide (n1 < 256) = false := by simpa using hp
          go_enter Tryz.func79, Tryz.ntmps79
          go_wp2_with fail
          rw [← HW.out]
          go_region_held3 (fun X => X.cell? ⟨w.heap.size, 3, none⟩ = some (.slice (some ⟨g, o, none⟩) 2 kc) ∧ X.cell? ⟨g, o, none⟩ = some (.int .i64 k1) ∧ X.cell? ⟨g, o + 1, none⟩ = some (.int .u64 n1) ∧ X.cell? ⟨g, o + 2, none⟩ = some (.string s1) ∧ X.cell? ⟨g, o + 3, none⟩ = some (.slice a1 l1 m1) ∧ X.cell? ⟨g, o + 4 + 2, none⟩ = some (.string s2))
            (first | exact ⟨w3, d0, d1, d2, d3, f2⟩ | exact ⟨cellA _ w3, cellA _ d0, cellA _ d1, cellA _ d2, cellA _ d3, cellA _ f2⟩)
            (fail)
          rw [← HV.out]
          go_wp2
          go_ret2
          exact ⟨_, rfl, HBV.out.alloc HBV.out.size _⟩
      · rw [if_neg h0]
        have hI0 : (k1 == 0) = false := by simpa using h0
        clear h0
        go_enter Tryz.func79, Tryz.ntmps79
        go_wp2_with fail
        rw [← HW.out]
        go_region_held3 (fun X => X.cell? ⟨w.heap.size, 3, none⟩ = some (.slice (some ⟨g, o, none⟩) 2 kc) ∧ X.cell? ⟨g, o, none⟩ = some (.int .i64 k1) ∧ X.cell? ⟨g, o + 1, none⟩ = some (.int .u64 n1) ∧ X.cell? ⟨g, o + 2, none⟩ = some (.string s1) ∧ X.cell? ⟨g, o + 3, none⟩ = some (.slice a1 l1 m1) ∧ X.cell? ⟨g, o + 4 + 2, none⟩ = some (.string s2))
          (first | exact ⟨w3, d0, d1, d2, d3, f2⟩ | exact ⟨cellA _ w3, cellA _ d0, cellA _ d1, cellA _ d2, cellA _ d3, cellA _ f2⟩)
          (fail)
        go_wp2_with fail
        rw [← HV.out]
        go_wp2
        go_ret2
        exact ⟨none, rfl, HBV.out⟩
  · rw [if_neg h2]
    have hI2 : (k2 != 1) = true := by simpa using h2
    clear hblk hbW hW hst h2 w3 d0 d1 d2 d3 f0 f2
    have a0 := cellA (.cells #[.int .i64 2, .int .u64 n, .string s, .slice (some ⟨g, o, none⟩) 2 kc] 80) e0
    go_enter Tryz.func79, Tryz.ntmps79
    go_wp2
    go_ret2
    exact ⟨none, rfl, by rw [← HW.out]; exact HBW.out⟩
end Go.Proofs.YtmpjpaomgifpcaaGreatDoor
