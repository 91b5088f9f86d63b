/- part's firstTree. -/
import Derived.Test.YtmpjpaomgifpcaaGreatDoorPFits
namespace Go.Proofs.YtmpjpaomgifpcaaGreatDoor
open Go.RowKit
open Cod (F Nd KidsAt Lies nodeV)

theorem single_prog (k n : Int) (s : ByteArray) (c : F) (S : Nat → Prop) (kv : Value) (w : World) (hk : KidsAt w S c kv) (hok : c.ok) (hs : sml 5000 c) (hst : Start w) :
    Calls Tryz.prog 79 #[.agg #[.int .i64 k, .int .u64 n, .string s, kv]] w (SgRes w (singP k s c)) := by
  obtain ⟨ka, kc, rfl⟩ := hk.shape
  unfold singP
  by_cases h1 : k = 1
  · subst h1
    rw [if_pos rfl]
    exact single_str n s ka c.len kc w
  rw [if_neg h1]
  by_cases h2 : k = 2
  · subst h2
    rw [if_pos rfl]
    match c, hk, hok, hs with
    | .nil, _, _, _ => exact single_bad 2 n s ka 0 kc w (by decide) (.inr (by decide))
    | .cons k1 n1 s1 c1 .nil, _, _, _ => exact single_bad 2 n s ka 1 kc w (by decide) (.inr (by decide))
    | .cons k1 n1 s1 c1 (.cons k2 n2 s2 c2 .nil), hk, hok, hs =>
      obtain ⟨g, o, cap, e, _, hl⟩ := hk.lies (by simp [F.len])
      injection e with e1 _ e3
      subst e1 e3
      obtain ⟨⟨v1, q0, q1, q2, q3, hv1⟩, hl2⟩ := Cod.lies_cons.1 hl
      obtain ⟨⟨v2, p0, p1, p2, p3, hv2⟩, _⟩ := Cod.lies_cons.1 hl2
      obtain ⟨a1, m1, rfl⟩ := hv1.shape
      exact single_two n s k1 n1 s1 k2 s2 a1 c1.len m1 g o _ w q0 q1 q2 q3 p0 p2 hok.1 hs.2.2.1 hst
    | .cons k1 n1 s1 c1 (.cons k2 n2 s2 c2 (.cons k3 n3 s3 c3 r)), _, _, _ => exact single_bad 2 n s ka _ kc w (by decide) (.inr (by simp [F.len]))
  · rw [if_neg h2]
    exact single_bad k n s ka _ kc w h1 (.inl h2)

def FtRes (B : Nat) (w : World) (o : Option (PT × F)) (e : Ending) (w' : World) : Prop := match o with
  | none => e = .returned (.tuple #[.pointer none, .slice none 0 0, .bool false]) ∧ Below w.heap.size w w'
  | some (t, r) => ∃ b v, e = .returned (.tuple #[pp b, v, .bool true]) ∧ PRep w' t b ∧ KidsAt w' (· < B) r v ∧ Below w.heap.size w w'

theorem tree_nil (a : Option Addr) (c : Nat) (av : Value) (si : Int) (B : Nat) (w : World) :
    Calls Tryz.prog 41 #[.slice a 0 c, av, .int .u8 si] w (FtRes B w none) := by
  go_enter Tryz.func41, Tryz.ntmps41
  go_wp2
  go_ret3
  exact ⟨rfl, Below.refl _ _⟩

/-- What a list's rest is. -/
theorem kids_rest {w : World} {B : Nat} {k n : Int} {s : ByteArray} {c r : F} {g o cap : Nat} (hg : g < B) (hu : Cod.Unf w g) (hc : r.len + 1 ≤ cap) (hl : Lies w (· < B) (.cons k n s c r) g o) :
    (cap ≠ 1 → KidsAt w (· < B) r (.slice (some ⟨g, o + 4, none⟩) r.len (cap - 1))) ∧ (cap = 1 → KidsAt w (· < B) r (.slice (some ⟨g, o, none⟩) 0 0) ∧ r.len = 0) := by
  refine ⟨fun _ => .inr ⟨g, o + 4, cap - 1, rfl, hg, hu, by omega, (Cod.lies_cons.1 hl).2⟩, fun h => ?_⟩
  have h0 : r.len = 0 := by omega
  have := Cod.F.len_zero h0
  subst this
  exact ⟨.inr ⟨g, o, 0, rfl, hg, hu, by simp [F.len], trivial⟩, rfl⟩

theorem run_rest (ga : Addr) (L cap : Nat) (hL : 1 ≤ L) (W : World) :
    (Instr.sliceAt 72 (.slice (some ga) L cap) (some (.int .i64 1)) none none).run Tryz.prog W = .ok (.slice (some (if cap = 1 then ga else ga.add 4)) (L - 1) (cap - 1)) W := by
  obtain ⟨i, hi, hz, hsz, hby⟩ := info_parts Cod.Tryz.nodeSl.info
  have hund := Cod.Tryz.nodeSl.und
  have he : Tryz.prog.elem 72 = 80 := by simp [Program.elem, hund]
  rw [run_sliceAt_slice W _ _ _ _ _ (by rw [he]; exact hund), run_slice_l W _ _ _ _ (by rw [he]; exact hund) .i64 1 (by omega) (by omega), he]
  simp [sizeOf, typeInfo, hi, hsz, Result.andThen, sliced]
  split <;> rfl

set_option maxRecDepth 30000 in
set_option maxHeartbeats 4000000 in
theorem tree_prog (B : Nat) : ∀ (m : Nat) (f : F) (fv av : Value) (ab : Option (Nat × ByteArray)) (side : Bool) (si : Int) (w : World), f.len ≤ m → Cod.Lim f.len → f.ok → sml 5000 f → B ≤ w.heap.size → KidsAt w (· < B) f fv → AbV w ab av → si = bitN side → Start w →
    Calls Tryz.prog 41 #[fv, av, .int .u8 si] w (FtRes B w (treeP m f ab side)) := by
  intro m
  induction m with
  | zero =>
    intro f fv av ab side si w hm _ _ _ _ hk _ _ _
    obtain ⟨a, c, rfl⟩ := hk.shape
    have h0 : f.len = 0 := by omega
    rw [h0]
    exact tree_nil a c av si B w
  | succ m ih =>
    intro f fv av ab side si w hm hlim hok hs hB hk hab hsi hst
    match f, hm, hlim, hok, hs, hk with
    | .nil, _, _, _, _, hk =>
      obtain ⟨a, c, rfl⟩ := hk.shape
      exact tree_nil a c av si B w
    | .cons k n s c r, hm, hlim, hok, hs, hk =>
      obtain ⟨g, o, cap, rfl, hg, hu, hcap, hl⟩ := hk.full (by simp [F.len])
      obtain ⟨⟨kv, c0, c1, c2, c3, hkc⟩, hlr⟩ := Cod.lies_cons.1 hl
      obtain ⟨ka, kc, rfl⟩ := hkc.shape
      have hcap' : r.len + 1 ≤ cap := hcap
      have hrm : r.len ≤ m := by simp only [F.len] at hm; omega
      have hrl : Cod.Lim r.len := by unfold Cod.Lim at hlim ⊢; simp only [F.len] at hlim; omega
      obtain ⟨L, hL⟩ : ∃ L, L = (F.cons k n s c r).len := ⟨_, rfl⟩
      have hL1 : L = r.len + 1 := hL
      have hLm : L ≤ 268435456 := by unfold Cod.Lim at hlim; omega
      have HSG := Lib.hid (single_prog k n s c _ _ w hkc hok.2.2.2.1 hs.2.1 hst)
      have HSO := Lib.hid (fun x (h : singP k s c = some x) => singP_ok hok.2.2.2.1 hs.2.1 h)
      have HAB := Lib.hid hab
      have HST := Lib.hid hst
      have HSI := Lib.hid hsi
      have HKR := Lib.hid (fun (W : World) (hb : Below w.heap.size w W) => kids_rest (cap := cap) hg (Cod.Unf.of hu (hb.block g (by omega))) hcap' (Lies.below hl hg (hb.mono hB)))
      have HOK := Lib.hid hok.2.2.2.2
      have HSS := Lib.hid hs.2.2
      have HIH := Lib.hid (fun (f : F) (fv av : Value) (ab : Option (Nat × ByteArray)) (side : Bool) (si : Int) (W : World) (h1 : f.len ≤ m) (h2 : Cod.Lim f.len) => ih f fv av ab side si W h1 h2)
      obtain ⟨ra, rc, hrun, hrk⟩ : ∃ (ra : Option Addr) (rc : Nat), (∀ W, (Instr.sliceAt 72 (.slice (some ⟨g, o, none⟩) L cap) (some (.int .i64 1)) none none).run Tryz.prog W = .ok (.slice ra r.len rc) W) ∧
          (∀ W, Below w.heap.size w W → KidsAt W (· < B) r (.slice ra r.len rc)) := by
        by_cases hc1 : cap = 1
        · refine ⟨some ⟨g, o, none⟩, 0, fun W => ?_, fun W hb => ?_⟩
          · rw [run_rest _ _ _ (by omega), if_pos hc1]
            rw [show L - 1 = r.len by omega, show cap - 1 = 0 by omega]
          · obtain ⟨h1, h2⟩ := (HKR.out W hb).2 hc1
            rw [h2]; exact h1
        · refine ⟨some ⟨g, o + 4, none⟩, cap - 1, fun W => ?_, fun W hb => (HKR.out W hb).1 hc1⟩
          rw [run_rest _ _ _ (by omega), if_neg hc1]
          rw [show L - 1 = r.len by omega]; rfl
      have HRK := Lib.hid hrk
      have hLI : ((L : Int) == 0) = false := by simp; omega
      have hL0 : 0 < L := by omega
      obtain ⟨T, hT⟩ : ∃ T, T = treeP (m + 1) (.cons k n s c r) ab side := ⟨_, rfl⟩
      rw [← hT, ← hL]
      have HT := Lib.hid hT
      have HRM := Lib.hid hrm
      have HRL := Lib.hid hrl
      clear hsi hkc hl hlr hu hab hst hok hs hk hlim hm hcap hcap' hL hL1 ih hrk hT hg hrm hrl
      cases hx : singP k s c with
      | none =>
        have e : T = none := by rw [HT.out, treeP, hx]
        rw [hx] at HSG
        rw [e]
        clear e hx
        go_enter Tryz.func41, Tryz.ntmps41
        go_wp2_with fail
        refine HSG.out.mono ?_
        rintro e w1 ⟨q, rfl, hb1⟩
        clear HSG
        go_wp2
        go_ret3
        exact ⟨rfl, hb1⟩
      | some x =>
        have hfine : x.fine := by
          rcases HSO.out x hx with ⟨u, rfl, _⟩ | ⟨u, v, rfl, h, _⟩ | ⟨p, u, rfl, _, h, _⟩
          · trivial
          · exact h
          · exact h
        have hx3 := HSO.out x hx
        rw [hx] at HSG
        cases hfit : fitS ab side x with
        | false =>
          have HFIT := Lib.hid hfit
          have e : T = none := by rw [HT.out, treeP, hx]; simp [hfit]
          rw [e]
          clear e hx hx3 hfit
          go_enter Tryz.func41, Tryz.ntmps41
          go_wp2_with fail
          refine HSG.out.mono ?_
          rintro e w1 ⟨b1, rfl, hsn, hb1⟩
          have hcf := Lib.hid (fits_prog x b1 ab av side si HSI.out w1 hsn hfine (HAB.out.later hb1))
          rw [HFIT.out] at hcf
          have HSN := Lib.hid hsn
          have HB1 := Lib.hid hb1
          unfold pp at hcf ⊢
          clear hsn hb1 HSG
          go_wp2_with fail
          refine hcf.out.mono ?_
          rintro e w2 ⟨rfl, hs2⟩
          have hb2 := hs2.below w1.heap.size
          have HB2 := Lib.hid (HB1.out.trans (hb2.mono HB1.out.size))
          clear hcf hb2 hs2
          go_wp2
          go_ret3
          exact ⟨rfl, HB2.out⟩
        | true =>
          match x, HSG, hfine, hx, hfit, hx3 with
          | .stub h, HSG, hfine, hx, hfit, hx3 =>
            have e : T = some (.stub h, r) := by rw [HT.out, treeP, hx]; simp [hfit]
            rw [e]
            have HFIT := Lib.hid hfit
            clear e hx hx3 hfit
            go_enter Tryz.func41, Tryz.ntmps41
            go_wp2_with fail
            refine HSG.out.mono ?_
            rintro e w1 ⟨b1, rfl, hsn, hb1⟩
            have hcf := Lib.hid (fits_prog (.stub h) b1 ab av side si HSI.out w1 hsn hfine (HAB.out.later hb1))
            rw [HFIT.out] at hcf
            have HSN := Lib.hid hsn
            have HB1 := Lib.hid hb1
            unfold pp at hcf ⊢
            clear hsn hb1 HSG
            go_wp2_with fail
            refine hcf.out.mono ?_
            rintro e w2 ⟨rfl, hs2⟩
            have hb2 := hs2.below w1.heap.size
            have HB2 := Lib.hid (HB1.out.trans (hb2.mono HB1.out.size))
            have HSN2 := Lib.hid (show PRep w2 (.stub h) b1 from (PRep.later hb2 (t := .stub h) HSN.out))
            obtain ⟨d0, d1, _⟩ := StubAt.cells (show StubAt w2 b1 h from HSN2.out)
            clear hcf hb2 hs2
            go_wp2_with fail
            go_quiet (fail)
            go_wp2
            go_ret3
            exact ⟨_, _, rfl, HSN2.out.later (drewN_below _ _), HRK.out _ (HB2.out.trans ((drewN_below _ _).mono HB2.out.size)), HB2.out.trans ((drewN_below _ _).mono HB2.out.size)⟩
          | .leaf u v, HSG, hfine, hx, hfit, hx3 =>
            have e : T = some (.leaf u v, r) := by rw [HT.out, treeP, hx]; simp [hfit]
            rw [e]
            have HFIT := Lib.hid hfit
            clear e hx hx3 hfit
            go_enter Tryz.func41, Tryz.ntmps41
            go_wp2_with fail
            refine HSG.out.mono ?_
            rintro e w1 ⟨b1, rfl, hsn, hb1⟩
            have hcf := Lib.hid (fits_prog (.leaf u v) b1 ab av side si HSI.out w1 hsn hfine (HAB.out.later hb1))
            rw [HFIT.out] at hcf
            have HSN := Lib.hid hsn
            have HB1 := Lib.hid hb1
            unfold pp at hcf ⊢
            clear hsn hb1 HSG
            go_wp2_with fail
            refine hcf.out.mono ?_
            rintro e w2 ⟨rfl, hs2⟩
            have hb2 := hs2.below w1.heap.size
            have HB2 := Lib.hid (HB1.out.trans (hb2.mono HB1.out.size))
            have HSN2 := Lib.hid (show PRep w2 (.leaf u v) b1 from (PRep.later hb2 (t := .leaf u v) HSN.out))
            obtain ⟨d0, d1, _⟩ := NodeAt.cells8 (show NodeAt w2 b1 true u v 0 _ _ _ from HSN2.out)
            clear hcf hb2 hs2
            go_wp2_with fail
            go_quiet (fail)
            go_wp2
            go_ret3
            exact ⟨_, _, rfl, HSN2.out.later (drewN_below _ _), HRK.out _ (HB2.out.trans ((drewN_below _ _).mono HB2.out.size)), HB2.out.trans ((drewN_below _ _).mono HB2.out.size)⟩
          | .fork p u, HSG, hfine, hx, hfit, hx3 =>
            have HPU : Hid (p < 256 ∧ u.size = 32) := Lib.hid (by
              rcases hx3 with ⟨v, h, _⟩ | ⟨v, v', h, _⟩ | ⟨q, v, h, h1, h2, _⟩
              · cases h
              · cases h
              · cases h; exact ⟨h1, h2⟩)
            have HFIT := Lib.hid hfit
            cases hO1 : treeP m r (some (p, u)) false with
            | none =>
              have e : T = none := by rw [HT.out, treeP, hx]; simp [hfit, hO1]
              have HO1 := Lib.hid hO1
              rw [e]
              clear e hx hx3 hfit hO1
              go_enter Tryz.func41, Tryz.ntmps41
              go_wp2_with fail
              refine HSG.out.mono ?_
              rintro e w1 ⟨b1, rfl, hsn, hb1⟩
              have hcf := Lib.hid (fits_prog (.fork p u) b1 ab av side si HSI.out w1 hsn hfine (HAB.out.later hb1))
              rw [HFIT.out] at hcf
              have HSN := Lib.hid hsn
              have HB1 := Lib.hid hb1
              unfold pp at hcf ⊢
              clear hsn hb1 HSG
              go_wp2_with fail
              refine hcf.out.mono ?_
              rintro e w2 ⟨rfl, hs2⟩
              have hb2 := hs2.below w1.heap.size
              have HB2 := Lib.hid (HB1.out.trans (hb2.mono HB1.out.size))
              have HSN2 := Lib.hid (NodeAt.later (show NodeAt w1 b1 false u ⟨#[]⟩ p (.pointer none) (.pointer none) ⟨#[]⟩ from HSN.out) hb2)
              obtain ⟨d0, d1, d2, _, d4, _⟩ := NodeAt.cells8 HSN2.out
              have hc1 := Lib.hid (HIH.out r (.slice ra r.len rc) (pp b1) (some (p, u)) false 0 w2 HRM.out HRL.out HOK.out HSS.out (Nat.le_trans hB HB2.out.size) (HRK.out w2 HB2.out) ⟨HPU.out.1, HPU.out.2, b1, rfl, d2, d4⟩ rfl (HST.out.later HB2.out))
              rw [HO1.out] at hc1
              unfold pp at hc1
              clear hcf hb2 hs2
              go_wp2_with fail
              refine hc1.out.mono ?_
              rintro e w3 ⟨rfl, hb3⟩
              have HB3 := Lib.hid (HB2.out.trans (hb3.mono HB2.out.size))
              clear hc1 hb3
              go_wp2
              go_ret3
              exact ⟨rfl, HB3.out⟩
            | some zr =>
              obtain ⟨z, r1⟩ := zr
              have HO1 := Lib.hid hO1
              have HZK := Lib.hid (treeP_ok m r _ _ z r1 HOK.out HSS.out hO1)
              have HLN := Lib.hid (treeP_len m r _ _ z r1 hO1)
              cases hO2 : treeP m r1 (some (p, u)) true with
              | none =>
                have e : T = none := by rw [HT.out, treeP, hx]; simp [hfit, hO1, hO2]
                have HO2 := Lib.hid hO2
                rw [e]
                clear e hx hx3 hfit hO1 hO2
                go_enter Tryz.func41, Tryz.ntmps41
                go_wp2_with fail
                refine HSG.out.mono ?_
                rintro e w1 ⟨b1, rfl, hsn, hb1⟩
                have hcf := Lib.hid (fits_prog (.fork p u) b1 ab av side si HSI.out w1 hsn hfine (HAB.out.later hb1))
                rw [HFIT.out] at hcf
                have HSN := Lib.hid hsn
                have HB1 := Lib.hid hb1
                unfold pp at hcf ⊢
                clear hsn hb1 HSG
                go_wp2_with fail
                refine hcf.out.mono ?_
                rintro e w2 ⟨rfl, hs2⟩
                have hb2 := hs2.below w1.heap.size
                have HB2 := Lib.hid (HB1.out.trans (hb2.mono HB1.out.size))
                have HSN2 := Lib.hid (NodeAt.later (show NodeAt w1 b1 false u ⟨#[]⟩ p (.pointer none) (.pointer none) ⟨#[]⟩ from HSN.out) hb2)
                obtain ⟨d0, d1, d2, _, d4, _⟩ := NodeAt.cells8 HSN2.out
                have hc1 := Lib.hid (HIH.out r (.slice ra r.len rc) (pp b1) (some (p, u)) false 0 w2 HRM.out HRL.out HOK.out HSS.out (Nat.le_trans hB HB2.out.size) (HRK.out w2 HB2.out) ⟨HPU.out.1, HPU.out.2, b1, rfl, d2, d4⟩ rfl (HST.out.later HB2.out))
                rw [HO1.out] at hc1
                unfold pp at hc1
                clear hcf hb2 hs2
                go_wp2_with fail
                refine hc1.out.mono ?_
                rintro e w3 ⟨bz, vz, rfl, hz, hk3, hb3⟩
                obtain ⟨za, zc, rfl⟩ := hk3.shape
                have HZ := Lib.hid hz
                have HB3 := Lib.hid (HB2.out.trans (hb3.mono HB2.out.size))
                have q2 := cellB hb3 d2
                have q4 := cellB hb3 d4
                have hc2 := Lib.hid (HIH.out r1 (.slice za r1.len zc) (pp b1) (some (p, u)) true 1 w3 (by have := HLN.out; have := HRM.out; omega) (by have := HLN.out; have := HRL.out; unfold Cod.Lim at *; omega) HZK.out.2.1 HZK.out.2.2.1 (Nat.le_trans hB HB3.out.size) hk3 ⟨HPU.out.1, HPU.out.2, b1, rfl, q2, q4⟩ rfl (HST.out.later HB3.out))
                rw [HO2.out] at hc2
                unfold pp at hc2 ⊢
                have HHB3 := Lib.hid hb3
                clear hc1 hb3 hk3 hz d0 d1 d2 d4
                go_wp2_with fail
                refine hc2.out.mono ?_
                rintro e w4 ⟨rfl, hb4⟩
                have HB4 := Lib.hid (HB3.out.trans (hb4.mono HB3.out.size))
                clear hc2 hb4
                go_wp2
                go_ret3
                exact ⟨rfl, HB4.out⟩
              | some oo =>
                obtain ⟨ot, r2⟩ := oo
                have e : T = some (.fork p u z ot, r2) := by rw [HT.out, treeP, hx]; simp [hfit, hO1, hO2]
                have HO2 := Lib.hid hO2
                have HZO := Lib.hid (treeP_ok m r1 _ _ ot r2 HZK.out.2.1 HZK.out.2.2.1 hO2)
                rw [e]
                clear e hx hx3 hfit hO1 hO2
                go_enter Tryz.func41, Tryz.ntmps41
                go_wp2_with fail
                refine HSG.out.mono ?_
                rintro e w1 ⟨b1, rfl, hsn, hb1⟩
                have hcf := Lib.hid (fits_prog (.fork p u) b1 ab av side si HSI.out w1 hsn hfine (HAB.out.later hb1))
                rw [HFIT.out] at hcf
                have HSN := Lib.hid hsn
                have HB1 := Lib.hid hb1
                unfold pp at hcf ⊢
                clear hsn hb1 HSG
                go_wp2_with fail
                refine hcf.out.mono ?_
                rintro e w2 ⟨rfl, hs2⟩
                have hb2 := hs2.below w1.heap.size
                have HB2 := Lib.hid (HB1.out.trans (hb2.mono HB1.out.size))
                have HSN2 := Lib.hid (NodeAt.later (show NodeAt w1 b1 false u ⟨#[]⟩ p (.pointer none) (.pointer none) ⟨#[]⟩ from HSN.out) hb2)
                obtain ⟨d0, d1, d2, _, d4, _⟩ := NodeAt.cells8 HSN2.out
                have hc1 := Lib.hid (HIH.out r (.slice ra r.len rc) (pp b1) (some (p, u)) false 0 w2 HRM.out HRL.out HOK.out HSS.out (Nat.le_trans hB HB2.out.size) (HRK.out w2 HB2.out) ⟨HPU.out.1, HPU.out.2, b1, rfl, d2, d4⟩ rfl (HST.out.later HB2.out))
                rw [HO1.out] at hc1
                unfold pp at hc1
                clear hcf hb2 hs2
                go_wp2_with fail
                refine hc1.out.mono ?_
                rintro e w3 ⟨bz, vz, rfl, hz, hk3, hb3⟩
                obtain ⟨za, zc, rfl⟩ := hk3.shape
                have HZ := Lib.hid hz
                have HB3 := Lib.hid (HB2.out.trans (hb3.mono HB2.out.size))
                have q2 := cellB hb3 d2
                have q4 := cellB hb3 d4
                have hc2 := Lib.hid (HIH.out r1 (.slice za r1.len zc) (pp b1) (some (p, u)) true 1 w3 (by have := HLN.out; have := HRM.out; omega) (by have := HLN.out; have := HRL.out; unfold Cod.Lim at *; omega) HZK.out.2.1 HZK.out.2.2.1 (Nat.le_trans hB HB3.out.size) hk3 ⟨HPU.out.1, HPU.out.2, b1, rfl, q2, q4⟩ rfl (HST.out.later HB3.out))
                rw [HO2.out] at hc2
                unfold pp at hc2 ⊢
                have HHB3 := Lib.hid hb3
                clear hc1 hb3 hk3 hz d0 d1 d2 d4
                go_wp2_with fail
                refine hc2.out.mono ?_
                rintro e w4 ⟨bo, vo, rfl, ho, hk4, hb4⟩
                obtain ⟨oa, oc, rfl⟩ := hk4.shape
                have HB4 := Lib.hid (HB3.out.trans (hb4.mono HB3.out.size))
                have y2 := cellB hb4 q2
                have y4 := cellB hb4 q4
                have HB4D : Hid (Below w.heap.size w w4.drew) := Lib.hid (HB4.out.trans ((Below.refl _ w4).drew.mono HB4.out.size))
                have HFK := Lib.hid (fork_part p u z ot bz bo w4.drew HPU.out.1 HPU.out.2 (by have := PT.hash_size z HZK.out.1; omega) (by have := PT.hash_size ot HZO.out.1; omega) ((HZ.out.later hb4).later (Below.refl _ w4).drew) (ho.later (Below.refl _ w4).drew) (HST.out.later HB4D.out))
                have HK4 := Lib.hid hk4
                unfold pp at HFK ⊢
                clear hc2 hb4 hk4 ho q2 q4
                go_wp2_with fail
                go_region_held3 (fun X => X.cell? ⟨b1, 2, none⟩ = some (.string u) ∧ X.cell? ⟨b1, 4, none⟩ = some (.int .i64 p))
                  (first | exact ⟨y2, y4⟩ | exact hcs5)
                  ((go_at_call 81; (with_reducible refine HFK.out.mono ?_); rintro e w5 ⟨d5, rfl, hd5, hb5⟩; unfold pp; have hcs5 := And.intro (cellD hb5 y2) (cellD hb5 y4); have HD5 := Lib.hid hd5; have HB5 := Lib.hid hb5))
                go_wp2
                go_ret3
                exact ⟨_, _, rfl, HD5.out, Cod.KidsAt.below HK4.out (((Below.refl _ w4).drew.trans HB5.out).mono (Nat.le_trans hB HB4.out.size)), HB4D.out.trans (HB5.out.mono HB4D.out.size)⟩
end Go.Proofs.YtmpjpaomgifpcaaGreatDoor
