/- part's promise of which texts are parts: the law. -/
import Derived.Test.YtmpjpaomgifpcaaDoorPSame
import Derived.Test.YtmpjpaomgifpcaaDoorPAwk
namespace Go.Proofs.YtmpjpaomgifpcaaDoor
open Go.RowKit
open Cod (F Nd readO)

theorem shortX_of {l : List UInt8} (hl : l.length ≤ 5000) : shortX l := fun x hx => by
  obtain ⟨_, hr, hb⟩ := readO_ok hx (by omega)
  have hR : (F.cons x.k x.n x.s x.kids .nil).right 20 = true := by
    unfold Nd.right at hr
    rw [F.right]
    simp only [Bool.and_eq_true] at hr ⊢
    exact ⟨hr.1, hr.2.1, hr.2.2, rfl⟩
  have hL : (F.cons x.k x.n x.s x.kids .nil).bytes.length ≤ 5000 := by
    rw [F.bytes, List.length_append]
    have : x.bytes.length ≤ 5000 := by rw [← hb]; exact hl
    unfold Nd.bytes at this
    simp only [F.bytes, List.length_nil]; omega
  exact (sml_of 5000 _ 20 hR hL).2.1

/-- The reference's tree of a map's part, or of none. -/
def RTM (B : Nat) (w : World) (m : Option PT) (x : Value) : Prop := match m with
  | none => x = tv0
  | some t => RT B w t x
theorem RTM.later {B : Nat} {w w' : World} {m : Option PT} {v : Value} (h : RTM B w m v) (hb : Below w.heap.size w w') : RTM B w' m v := by
  match m, h with
  | none, h => exact h
  | some t, h => exact RT.later h hb
theorem RTM.shape {B : Nat} {w : World} {m : Option PT} {x : Value} (h : RTM B w m x) : ∃ (kd p : Int) (k v hh : ByteArray) (a : Option Addr) (n c : Nat), x = tv kd k v p (.slice a n c) hh := by
  match m, h with
  | none, h => exact ⟨0, 0, _, _, _, none, 0, 0, h⟩
  | some t, h =>
    obtain ⟨kd, p, k, v, s, e⟩ := RT.val (show RT B w t x from h)
    subst e
    obtain ⟨a, n, c, rfl⟩ := RT.one (show RT B w t _ from h)
    exact ⟨kd, p, k, v, _, a, n, c, rfl⟩
theorem root_refM {B : Nat} {w : World} {m : Option PT} {x : Value} (h : RTM B w m x) (hok : MP.ok m) (W : World) : Calls Tryd.prog 10 #[x] W (StrRes W (MP.root m)) := by
  match m, h, hok with
  | none, h, _ => rw [show x = tv0 from h]; exact root_ref0 W
  | some t, h, hok =>
    obtain ⟨kd, p, k, v, s, e⟩ := RT.val (show RT B w t x from h)
    subst e
    exact root_ref1 kd p k v t.hash s W (PT.hash_size t hok)
theorem same_top {B : Nat} {w : World} {m : Option PT} {x q : Value} (h : RTM B w m x) (hq : (match m with | none => q = .pointer none | some t => ∃ d, q = pp d ∧ PRep w t d)) :
    Calls Tryd.prog 11 #[q, x] w fun e w' => e = .returned (.bool true) ∧ Below w.heap.size w w' := by
  match m, h, hq with
  | none, h, hq => rw [show x = tv0 from h, show q = .pointer none from hq]; exact same_nil w
  | some t, h, ⟨d, e, hd⟩ => rw [e]; exact same_prog t d x B w hd h

def PTop (w : World) (m : Option PT) (q : Option Addr) : Prop := match m with
  | none => q = none
  | some t => ∃ d, q = some ⟨d, 0, none⟩ ∧ PRep w t d
theorem top_any {w : World} {m : Option PT} {x : Value} (h : PAt w m x) : Calls Tryd.prog 12 #[x] w fun e w' => ∃ q, e = .returned (.pointer q) ∧ PTop w' m q ∧ Below w.heap.size w w' := by
  refine (top_part h).mono ?_
  intro e w' hr
  match m, hr with
  | none, ⟨e1, hb⟩ => exact ⟨none, e1, rfl, hb⟩
  | some t, ⟨d, e1, hd, hb⟩ => exact ⟨_, e1, ⟨d, rfl, hd⟩, hb⟩
theorem same_any {B : Nat} {w : World} {m : Option PT} {x : Value} {q : Option Addr} (h : RTM B w m x) (hq : PTop w m q) :
    Calls Tryd.prog 11 #[.pointer q, x] w fun e w' => e = .returned (.bool true) ∧ Below w.heap.size w w' := by
  refine same_top h ?_
  match m, hq with
  | none, hq => exact congrArg Value.pointer hq
  | some t, ⟨d, e, hd⟩ => exact ⟨d, congrArg Value.pointer e, hd⟩
theorem PAt.ptr {w : World} {m : Option PT} {x : Value} (h : PAt w m x) : ∃ d, x = .pointer (some ⟨d, 0, none⟩) := by
  obtain ⟨b, _, e, _⟩ := h
  exact ⟨b, e⟩

set_option maxRecDepth 30000 in
set_option maxHeartbeats 4000000 in
theorem opens_law (text root : ByteArray) (w : World) (hst : Start w) (_ : text.size ≤ maxLen) (_ : root.size ≤ maxLen) :
    Calls Tryd.prog 3 #[.string text, .string root] w fun e w' => e = .returned (.bool true) ∧ Below w.heap.size w w' := by
  have HS := Lib.hid hst
  have HA := Lib.hid (awake_prog w hst)
  by_cases h1 : ¬ text.size ≤ 4000
  · have h1I : (4000 : Int) < (text.size : Int) := by omega
    clear h1 hst
    go_enter Tryd.func3, Tryd.ntmps3
    go_wp2_with fail
    refine HA.out.mono ?_
    rintro e w1 ⟨rfl, hb1⟩
    have HB := Lib.hid hb1
    clear hb1
    go_wp2_with fail
    go_ret
    exact ⟨rfl, HB.out⟩
  by_cases h2 : ¬ root.size ≤ 100
  · have h1I : ¬ (4000 : Int) < (text.size : Int) := by omega
    have h2I : (100 : Int) < (root.size : Int) := by omega
    clear h1 h2 hst
    go_enter Tryd.func3, Tryd.ntmps3
    go_wp2_with fail
    refine HA.out.mono ?_
    rintro e w1 ⟨rfl, hb1⟩
    have HB := Lib.hid hb1
    clear hb1
    go_wp2_with fail
    go_ret
    exact ⟨rfl, HB.out⟩
  have h1' : text.size ≤ 4000 := by omega
  have h1I : ¬ (4000 : Int) < (text.size : Int) := by omega
  have h2I : ¬ (100 : Int) < (root.size : Int) := by omega
  have hshort : shortX (ks text) := shortX_of (by rw [ks_length]; omega)
  have HOR := Lib.hid (fun (W : World) => open_ref text W (by omega) hshort)
  have HOP := Lib.hid (fun (r : ByteArray) (W : World) (hb : Below w.heap.size w W) => open_prog r text W (by omega) hshort (HS.out.later hb))
  have hfit : ∀ m, openX (ks text) = some m → MP.ok m := fun m h => openX_fit hshort (by rw [ks_length]; omega) h
  have hOO : ∀ r, openO r (ks text) = (match openX (ks text) with | some m => if MP.root m = r then some m else none | none => none) := fun _ => rfl
  clear h1 h2 hst h1' hshort
  cases hO : openX (ks text) with
  | none =>
    rw [hO] at HOR
    simp only [hO] at hOO
    simp only [hOO] at HOP
    unfold EdRes at HOP
    unfold OrRes tv0 tv at HOR
    have HRT := Lib.hid root_ref0
    unfold tv0 tv at HRT
    clear hO hOO hfit
    go_enter Tryd.func3, Tryd.ntmps3
    go_wp2_with fail
    refine HA.out.mono ?_
    rintro e w1 ⟨rfl, hb1⟩
    have B1 := Lib.hid hb1
    clear hb1 HA
    go_wp2_with fail
    refine (HOR.out w1).mono ?_
    rintro e w2 ⟨rfl, hb2⟩
    have hbl := heap_alloc_new w2 zTree
    obtain ⟨W2, hW2⟩ : ∃ W, W = w2.alloc zTree := ⟨_, rfl⟩
    rw [← hW2] at hbl
    have B2 : Hid (Below w.heap.size w W2) := Lib.hid (by rw [hW2]; exact (B1.out.trans (hb2.mono B1.out.size)).alloc (B1.out.trans (hb2.mono B1.out.size)).size _)
    have HW2 := Lib.hid hW2
    have HBL := Lib.hid hbl
    clear hb2 hW2 hbl HOR
    go_wp2_with fail
    rw [← HW2.out]
    refine (HRT.out W2).mono ?_
    rintro e w3 ⟨rfl, hb3⟩
    have B3 := Lib.hid (B2.out.trans (hb3.mono B2.out.size))
    have BL3 := Lib.hid (block_kept HBL.out (World.lt_of_block HBL.out) hb3)
    clear hb3
    go_wp2_with fail
    refine (HOP.out noneH w3 B3.out).mono ?_
    rintro e w4 ⟨rfl, hb4⟩
    have B4 := Lib.hid (B3.out.trans (hb4.mono B3.out.size))
    have BL4 := Lib.hid (block_kept BL3.out (World.lt_of_block BL3.out) hb4)
    clear hb4
    go_wp2_with fail
    go_quiet (fail)
    go_wp2_with fail
    refine (HOP.out root _ (B4.out.trans ((Same.of _ _).below _))).mono ?_
    rintro e w5 ⟨rfl, hb5⟩
    have B5 := Lib.hid ((B4.out.trans ((Same.of _ _).below _)).trans (hb5.mono B4.out.size))
    clear hb5
    go_wp2_with fail
    go_ret
    exact ⟨rfl, B5.out⟩
  | some m =>
    have hok := hfit m hO
    have HORM : Hid (∀ W, Calls Tryd.prog 8 #[.string text] W (fun e w' => ∃ xv, e = .returned (.tuple #[xv, .bool true]) ∧ RTM W.heap.size w' m xv ∧ Below W.heap.size W w')) := Lib.hid (fun W => by
      refine (HOR.out W).mono ?_
      rw [hO]
      intro e w' hr
      match m, hr with
      | none, ⟨e1, hb⟩ => exact ⟨tv0, e1, rfl, hb⟩
      | some t, ⟨kd, p, k, v, s, e1, hrt, hb⟩ => exact ⟨_, e1, hrt, hb⟩)
    have HRR := Lib.hid (fun (B : Nat) (w : World) (x : Value) (h : RTM B w m x) => root_refM h hok)
    obtain ⟨R, hR⟩ : ∃ R, R = MP.root m := ⟨_, rfl⟩
    have HRP := Lib.hid (fun (w : World) (x : Value) (h : PAt w m x) => root_part h)
    have HTA := Lib.hid (fun (w : World) (x : Value) (h : PAt w m x) => top_any h)
    have HSA := Lib.hid (fun (B : Nat) (w : World) (x : Value) (q : Option Addr) (h : RTM B w m x) (hq : PTop w m q) => same_any h hq)
    simp only [hO] at hOO
    simp only [hOO] at HOP
    rw [← hR] at HRR HRP HOP
    clear hO hOO hfit HOR hR hok
    go_enter Tryd.func3, Tryd.ntmps3
    go_wp2_with fail
    refine HA.out.mono ?_
    rintro e w1 ⟨rfl, hb1⟩
    have B1 := Lib.hid hb1
    clear hb1 HA
    go_wp2_with fail
    refine (HORM.out w1).mono ?_
    rintro e w2 ⟨xv, rfl, hrt, hb2⟩
    obtain ⟨kd, p, k, v, hh, a, n, c, rfl⟩ := hrt.shape
    unfold tv at hrt ⊢
    have hbl := heap_alloc_new w2 (.cells #[.int .i64 kd, .string k, .string v, .int .i64 p, .slice a n c, .string hh] 25)
    obtain ⟨W2, hW2⟩ : ∃ W, W = w2.alloc (.cells #[.int .i64 kd, .string k, .string v, .int .i64 p, .slice a n c, .string hh] 25) := ⟨_, rfl⟩
    rw [← hW2] at hbl
    have hb22 : Below w2.heap.size w2 W2 := by rw [hW2]; exact (Below.refl _ _).alloc (Nat.le_refl _) _
    have B2 : Hid (Below w.heap.size w W2) := Lib.hid ((B1.out.trans (hb2.mono B1.out.size)).trans (hb22.mono (B1.out.trans (hb2.mono B1.out.size)).size))
    have RT2 := Lib.hid (hrt.later hb22)
    have HW2 := Lib.hid hW2
    have HBL := Lib.hid hbl
    clear hb2 hW2 hbl HORM hrt hb22
    go_wp2_with fail
    rw [← HW2.out]
    refine (HRR.out _ _ _ RT2.out W2).mono ?_
    rintro e w3 ⟨rfl, hb3⟩
    have B3 := Lib.hid (B2.out.trans (hb3.mono B2.out.size))
    have BL3 := Lib.hid (block_kept HBL.out (World.lt_of_block HBL.out) hb3)
    have RT3 := Lib.hid (RT2.out.later hb3)
    clear hb3
    go_wp2_with fail
    have HOR1 := Lib.hid (HOP.out R w3 B3.out)
    rw [if_pos rfl] at HOR1
    unfold EdRes at HOR1
    refine HOR1.out.mono ?_
    rintro e w4 ⟨x4, rfl, hp4, hb4⟩
    obtain ⟨d4, rfl⟩ := hp4.ptr
    have P4 := Lib.hid hp4
    have B4 := Lib.hid (B3.out.trans (hb4.mono B3.out.size))
    have BL4 := Lib.hid (block_kept BL3.out (World.lt_of_block BL3.out) hb4)
    have RT4 := Lib.hid (RT3.out.later hb4)
    have x4 := six_cells BL4.out
    clear hb4 HOR1 hp4
    go_wp2_with fail
    go_region_held3 (fun X => X.cell? ⟨w2.heap.size, 0, none⟩ = some (.int .i64 kd) ∧ X.cell? ⟨w2.heap.size, 1, none⟩ = some (.string k) ∧ X.cell? ⟨w2.heap.size, 2, none⟩ = some (.string v) ∧ X.cell? ⟨w2.heap.size, 3, none⟩ = some (.int .i64 p) ∧ X.cell? ⟨w2.heap.size, 4, none⟩ = some (.slice a n c) ∧ X.cell? ⟨w2.heap.size, 5, none⟩ = some (.string hh))
      (first | with_reducible exact x4 | with_reducible exact x5 | with_reducible exact x6 | with_reducible exact x7 | with_reducible exact x8 | exact (show _ ∧ _ from x4))
      (first
        | (go_at_call 12; (with_reducible refine (HTA.out _ _ (P4.out.later (Below.refl _ w4).drew)).mono ?_); rintro e w5 ⟨q5, rfl, hq5, hb5⟩; have Q5 := Lib.hid hq5; have HB5 := Lib.hid ((B4.out.drew).trans (hb5.mono B4.out.drew.size)); have BL5 := Lib.hid (block_kept (show w4.drew.heap[w2.heap.size]? = _ from BL4.out) (World.lt_of_block BL4.out) hb5); have x5 := six_cells BL5.out; have RT5 := Lib.hid ((RT4.out.later (Below.refl _ w4).drew).later hb5); have P5 := Lib.hid ((P4.out.later (Below.refl _ w4).drew).later hb5); clear hq5 hb5)
        | (go_at_call 11; (with_reducible refine (HSA.out _ _ _ _ RT5.out Q5.out).mono ?_); rintro e w6 ⟨rfl, hb6⟩; have HB6 := Lib.hid (HB5.out.trans (hb6.mono HB5.out.size)); have BL6 := Lib.hid (block_kept BL5.out (World.lt_of_block BL5.out) hb6); have x6 := six_cells BL6.out; have RT6 := Lib.hid (RT5.out.later hb6); have P6 := Lib.hid (P5.out.later hb6); clear hb6)
        | (go_at_call 13; (with_reducible refine (HRP.out _ _ P6.out).mono ?_); rintro e w7 ⟨rfl, hb7⟩; have HB7 := Lib.hid (HB6.out.trans (hb7.mono HB6.out.size)); have BL7 := Lib.hid (block_kept BL6.out (World.lt_of_block BL6.out) hb7); have x7 := six_cells BL7.out; have RT7 := Lib.hid (RT6.out.later hb7); clear hb7)
        | (go_at_call 10; (with_reducible refine (HRR.out _ _ _ RT7.out _).mono ?_); rintro e w8 ⟨rfl, hb8⟩; have HB8 := Lib.hid (HB7.out.trans (hb8.mono HB7.out.size)); have BL8 := Lib.hid (block_kept BL7.out (World.lt_of_block BL7.out) hb8); have x8 := six_cells BL8.out; have RT8 := Lib.hid (RT7.out.later hb8); clear hb8))
    · by_cases hr : R = root
      · have hI : root.toList = R.toList := by rw [hr]
        have HOR2 := Lib.hid (HOP.out root w8 HB8.out)
        rw [if_pos hr] at HOR2
        unfold EdRes at HOR2
        clear hr
        go_wp2_with fail
        refine HOR2.out.mono ?_
        rintro e w9 ⟨y9, rfl, hp9, hb9⟩
        obtain ⟨d9, rfl⟩ := hp9.ptr
        have B9 := Lib.hid (HB8.out.trans (hb9.mono HB8.out.size))
        have BL9 := Lib.hid (block_kept BL8.out (World.lt_of_block BL8.out) hb9)
        obtain ⟨z0, z1, z2, z3, z4, z5⟩ := six_cells BL9.out
        have RT9 := Lib.hid (RT8.out.later hb9)
        clear hb9 hp9 HOR2 x4 x5 x6 x7 x8
        go_wp2_with fail
        refine (HRR.out _ _ _ RT9.out w9).mono ?_
        rintro e w10 ⟨rfl, hb10⟩
        have B10 := Lib.hid (B9.out.trans (hb10.mono B9.out.size))
        clear hb10
        go_wp2_with fail
        go_ret
        exact ⟨rfl, B10.out⟩
      · have hI : (root.toList == R.toList) = false := str_ne (fun e => hr e.symm)
        have HOR2 := Lib.hid (HOP.out root w8 HB8.out)
        rw [if_neg hr] at HOR2
        unfold EdRes at HOR2
        clear hr
        go_wp2_with fail
        refine HOR2.out.mono ?_
        rintro e w9 ⟨rfl, hb9⟩
        have B9 := Lib.hid (HB8.out.trans (hb9.mono HB8.out.size))
        have BL9 := Lib.hid (block_kept BL8.out (World.lt_of_block BL8.out) hb9)
        obtain ⟨z0, z1, z2, z3, z4, z5⟩ := six_cells BL9.out
        have RT9 := Lib.hid (RT8.out.later hb9)
        clear hb9 HOR2 x4 x5 x6 x7 x8
        go_wp2_with fail
        refine (HRR.out _ _ _ RT9.out w9).mono ?_
        rintro e w10 ⟨rfl, hb10⟩
        have B10 := Lib.hid (B9.out.trans (hb10.mono B9.out.size))
        clear hb10
        go_wp2_with fail
        go_ret
        exact ⟨rfl, B10.out⟩
end Go.Proofs.YtmpjpaomgifpcaaDoor
