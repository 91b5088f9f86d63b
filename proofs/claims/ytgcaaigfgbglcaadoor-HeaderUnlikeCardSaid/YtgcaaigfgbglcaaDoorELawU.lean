/- HeaderUnlike's walk. -/
import Derived.Test.YtgcaaigfgbglcaaDoorEUnlP
namespace Go.Proofs.YtgcaaigfgbglcaaDoor
open Go.RowKit
theorem unturn_fit2 {l : List Stp} (h : ∀ x ∈ l, x.Fit) : ∀ x ∈ l.map unturn, x.Fit := fun x hx => by
  obtain ⟨y, hy, rfl⟩ := List.mem_map.1 hx
  obtain ⟨h1, h2, h3, _⟩ := h y hy
  exact ⟨h1, h2, h3, by simp [unturn]⟩
def EqTo (m n : List Sg) (k : Nat) : Prop := ∀ i, i < k → ∀ x y, m[i]? = some x → n[i]? = some y → x.h = y.h
theorem EqTo.zero (m n : List Sg) : EqTo m n 0 := fun i hi => by omega
theorem EqTo.succ {m n : List Sg} {k : Nat} {x y : Sg} (hx : m[k]? = some x) (hy : n[k]? = some y) : EqTo m n (k + 1) ↔ EqTo m n k ∧ x.h = y.h := by
  constructor
  · intro h; exact ⟨fun i hi => h i (by omega), h k (by omega) x y hx hy⟩
  · rintro ⟨h1, h2⟩ i hi a b ha hb
    rcases Nat.lt_or_ge i k with h | h
    · exact h1 i h a b ha hb
    · obtain rfl : i = k := by omega
      rw [hx] at ha; rw [hy] at hb
      injection ha with ha; injection hb with hb
      rw [← ha, ← hb]; exact h2
def unRel (WB : World) (m n : List Sg) (N : Nat) (s i : Value) (wr : World) : Prop :=
  ∃ (k : Nat) (b : Bool), i = .int .i64 (k : Int) ∧ s = .bool b ∧ k ≤ N ∧ Hid (b = true ↔ EqTo m n k) ∧ Hid (Below WB.heap.size WB wr)
set_option maxHeartbeats 8000000 in
set_option maxRecDepth 100000 in
theorem unlike_law (key : ByteArray) (hkey : key.size ≤ maxLen) (l : List Stp) (hl : l.length ≤ maxLen) (hx : ∀ x ∈ l, x.Fit) (hb : l.length * 40 ≤ 140737488355328) (v : Value)
    (l2 : List Stp) (hl2 : l2.length ≤ maxLen) (hx2 : ∀ x ∈ l2, x.Fit) (hb2 : l2.length * 40 ≤ 140737488355328) (v2 : Value) (w : World) (hv : StpSl w v l) (hv2 : StpSl w v2 l2) (hst : Start w) :
    Calls Tryd.prog 6 #[.string key, v, v2] w fun e w' => e = .returned (.bool true) ∧ Below w.heap.size w w' := by
  have HST := Lib.hid hst
  have KW := Lib.hid (fun W (hS : Start W) => awake_prog W hS)
  have KU := Lib.hid (fun W (hW : StpSl W v l) => unturn_prog l hb v W hW)
  have KU2 := Lib.hid (fun W (hW : StpSl W v2 l2) => unturn_prog l2 hb2 v2 W hW)
  have KM := Lib.hid (fun (q : List Stp) (h1 : q.length ≤ maxLen) (h2 : ∀ x ∈ q, x.Fit) u W (hW : StpSl W u (q.map unturn)) => made_prog key hkey 1 ⟨by decide, by decide⟩ (q.map unturn) (by rw [List.length_map]; exact h1) (unturn_fit2 h2) u W hW)
  have HV := Lib.hid hv
  have HV2 := Lib.hid hv2
  have HX := Lib.hid hx
  have HX2 := Lib.hid hx2
  have HL := Lib.hid hl
  have HL2 := Lib.hid hl2
  obtain ⟨va, vc, rfl⟩ := hv.shape
  obtain ⟨vd, ve, rfl⟩ := hv2.shape
  clear hst hkey hl hx hv hb hl2 hx2 hb2 hv2
  go_enter Tryd.func6, Tryd.ntmps6
  go_wp2_with fail
  refine (KW.out _ HST.out).mono ?_
  rintro e w1 ⟨rfl, hb1⟩
  have HB1 := Lib.hid hb1
  clear hb1 KW
  go_wp2_with fail
  refine (KU.out _ (HV.out.later HB1.out)).mono ?_
  rintro e w2 ⟨u2, rfl, hu2, hb2⟩
  have HB2 := Lib.hid (HB1.out.trans (hb2.mono HB1.out.size))
  clear hb2 KU
  obtain ⟨u2a, u2c, rfl⟩ := hu2.out.shape
  obtain ⟨N2, hN2⟩ : ∃ n, (l.map unturn).length = n := ⟨_, rfl⟩
  have HU2 : Hid (StpSl w2 (.slice u2a N2 u2c) (l.map unturn)) := Lib.hid (by rw [← hN2]; exact hu2.out)
  rw [hN2]
  clear hu2 hN2
  go_wp2_with fail
  refine (KM.out l HL.out HX.out _ _ HU2.out).mono ?_
  rintro e w3 ⟨u, rfl, hu, hb3⟩
  have HB3 := Lib.hid (HB2.out.trans (hb3.mono HB2.out.size))
  have HU := Lib.hid hu.out.sl
  clear hu hb3 HU2
  obtain ⟨R, hR⟩ : ∃ R, madeR key 1 (l.map unturn) = R := ⟨_, rfl⟩
  rw [hR] at HU ⊢
  obtain ⟨ua, uc, hus⟩ := HU.out.shape
  subst hus
  have HRR := Lib.hid hR
  obtain ⟨NR, hNR⟩ : ∃ n, (R.getD []).length = n := ⟨_, rfl⟩
  have HUR : Hid (SSl w3 (.slice ua NR uc) (R.getD [])) := Lib.hid (by rw [← hNR]; exact HU.out)
  have HNR := Lib.hid hNR
  rw [hNR]
  obtain ⟨rb, hrb⟩ : ∃ b, R.isSome = b := ⟨_, rfl⟩
  have HRB := Lib.hid hrb
  rw [hrb]
  clear hR HU hNR hrb
  go_wp2_with fail
  refine (KU2.out _ (HV2.out.later HB3.out)).mono ?_
  rintro e w4 ⟨u4, rfl, hu4, hb4⟩
  have HB4 := Lib.hid (HB3.out.trans (hb4.mono HB3.out.size))
  have HU4 := Lib.hid (HUR.out.later hb4)
  clear hb4 KU2 HUR
  obtain ⟨u4a, u4c, rfl⟩ := hu4.out.shape
  obtain ⟨N4, hN4⟩ : ∃ n, (l2.map unturn).length = n := ⟨_, rfl⟩
  have HW4 : Hid (StpSl w4 (.slice u4a N4 u4c) (l2.map unturn)) := Lib.hid (by rw [← hN4]; exact hu4.out)
  rw [hN4]
  clear hu4 hN4
  go_wp2_with fail
  refine (KM.out l2 HL2.out HX2.out _ _ HW4.out).mono ?_
  rintro e w5 ⟨y, rfl, hy, hb5⟩
  have HB5 := Lib.hid (HB4.out.trans (hb5.mono HB4.out.size))
  have HU5 := Lib.hid (HU4.out.later hb5)
  have HY := Lib.hid hy.out.sl
  clear hy hb5 HW4 HU4 KM
  obtain ⟨R2, hR2⟩ : ∃ R, madeR key 1 (l2.map unturn) = R := ⟨_, rfl⟩
  rw [hR2] at HY ⊢
  obtain ⟨ya, yc, hys⟩ := HY.out.shape
  subst hys
  have HRR2 := Lib.hid hR2
  obtain ⟨NR2, hNR2⟩ : ∃ n, (R2.getD []).length = n := ⟨_, rfl⟩
  have HY5 : Hid (SSl w5 (.slice ya NR2 yc) (R2.getD [])) := Lib.hid (by rw [← hNR2]; exact HY.out)
  have HNR2 := Lib.hid hNR2
  rw [hNR2]
  obtain ⟨rb2, hrb2⟩ : ∃ b, R2.isSome = b := ⟨_, rfl⟩
  have HRB2 := Lib.hid hrb2
  rw [hrb2]
  clear hR2 HY hNR2 hrb2
  cases rb with
  | false =>
    go_wp2_with fail
    go_ret
    exact ⟨rfl, HB5.out⟩
  | true =>
    cases rb2 with
    | false =>
      go_wp2_with fail
      go_ret
      exact ⟨rfl, HB5.out⟩
    | true =>
      obtain ⟨m, hm⟩ := Option.isSome_iff_exists.1 HRB.out
      obtain ⟨n, hn⟩ := Option.isSome_iff_exists.1 HRB2.out
      obtain ⟨hl20, hk100, hmo⟩ := madeR_some (HRR.out.trans hm)
      obtain ⟨hl20', _, hno⟩ := madeR_some (HRR2.out.trans hn)
      have hgf := first_good key 1 ⟨by decide, by decide⟩
      have HGM := Lib.hid (madeO_good key _ _ m hgf (unturn_fit2 HX.out) hmo)
      have HGN := Lib.hid (madeO_good key _ _ n hgf (unturn_fit2 HX2.out) hno)
      have HLM : Hid (Links (firstS key 1) m) := Lib.hid (fun i p s h1 h2 => (made_links key l _ m hgf HX.out hmo i p s h1 h2).1)
      have HLN : Hid (Links (firstS key 1) n) := Lib.hid (fun i p s h1 h2 => (made_links key l2 _ n hgf HX2.out hno i p s h1 h2).1)
      have hml : m.length ≤ 20 := by rw [madeO_length key _ _ m hmo]; exact hl20
      have hnl : n.length ≤ 20 := by rw [madeO_length key _ _ n hno]; exact hl20'
      have hNm : m.length = NR := by rw [← HNR.out, hm]; rfl
      have hNn : n.length = NR2 := by rw [← HNR2.out, hn]; rfl
      have HUm : Hid (SSl w5 (.slice ua NR uc) m) := Lib.hid (by have := HU5.out; rw [hm] at this; exact this)
      have HYn : Hid (SSl w5 (.slice ya NR2 yc) n) := Lib.hid (by have := HY5.out; rw [hn] at this; exact this)
      have b1 : (NR : Int) ≤ 20 := by omega
      have b2 : (NR2 : Int) ≤ 20 := by omega
      have HNm := Lib.hid hNm
      have HNn := Lib.hid hNn
      clear hl20 hk100 hmo hl20' hno hgf hml hnl hNm hNn hm hn HU5 HY5 HNR HNR2 HRR HRR2 HRB HRB2
      by_cases hNN : NR = NR2
      · subst hNN
        have n1 : ((NR : Int) != (NR : Int)) = false := by simp
        by_cases h0 : NR = 0
        · have n2 : ((NR : Int) == 0) = true := by simp [h0]
          have HH := Lib.hid h0
          clear h0
          go_wp2_with fail
          go_ret
          exact ⟨rfl, HB5.out⟩
        · have n2 : ((NR : Int) == 0) = false := by simp; omega
          have HN0 := Lib.hid h0
          clear h0
          go_wp2_with fail
          go_loopw [11, 51] (unRel w5 m n NR) (fun _ i _ => NR - (intOf i).toNat)
          case atStart => exact ⟨0, true, rfl, rfl, Nat.zero_le _, Lib.hid ⟨fun _ => EqTo.zero m n, fun _ => rfl⟩, Lib.hid (Below.refl _ _)⟩
          case round =>
            obtain ⟨k, s, rfl, rfl, hk, HE, HB⟩ := hrel
            by_cases hlt : k < NR
            · have i0 : (0 : Int) ≤ (k : Int) := by omega
              have i1 : (k : Int) < (NR : Int) := by omega
              obtain ⟨x, hxs⟩ : ∃ x, m[k]? = some x := ⟨m[k]'(by rw [HNm.out]; exact hlt), List.getElem?_eq_getElem _⟩
              obtain ⟨y, hys⟩ : ∃ y, n[k]? = some y := ⟨n[k]'(by rw [HNn.out]; exact hlt), List.getElem?_eq_getElem _⟩
              have HES := Lib.hid (EqTo.succ hxs hys)
              obtain ⟨g1, o1, c1, ev1, hc1⟩ := (HUm.out.later HB.out).get hxs
              rw [HNm.out] at ev1
              injection ev1 with e1 e2 e3
              subst e1 e3
              clear e2
              obtain ⟨g2, o2, c2, ev2, hc2⟩ := (HYn.out.later HB.out).get hys
              rw [HNn.out] at ev2
              injection ev2 with e1 e2 e3
              subst e1 e3
              clear e2
              have HCX : Hid (SCl wr g1 (o1 + k * 7) x) := Lib.hid hc1
              have HCY : Hid (SCl wr g2 (o2 + k * 7) y) := Lib.hid hc2
              have HLT := Lib.hid hlt
              have hk20 : (k : Int) ≤ 20 := by omega
              clear hxs hys hc1 hc2 hlt hk
              go_upto_region 11 with fail
              cases s with
              | false =>
                refine wp_region_held_drew (S := fun w' => Below w5.heap.size w5 w' ∧ SCl w' g1 (o1 + k * 7) x ∧ SCl w' g2 (o2 + k * 7) y) (by kernel_rfl) (⟨HB.out.drew, HCX.out.later (Below.refl _ _).drew, HCY.out.later (Below.refl _ _).drew⟩) (fun hHeld => ?_)
                refine wpAnyH_take (i := 0) (v := ?_) rfl (by kernel_rfl) (by kernel_rfl) (by kernel_rfl) (fun _ _ _ h => h) (Or.inl ⟨by rfl, ?_⟩) hHeld ?_
                rotate_left
                · intro w' hSw; obtain ⟨c0, c1, c2, c3, c4, c5, c6⟩ := hSw.2.1; obtain ⟨d0, d1, d2, d3, d4, d5, d6⟩ := hSw.2.2; go_simp; first | done | with_reducible rfl | rfl
                try simp only [Act.put, List.getElem_toArray, List.getElem_cons_zero, List.setIfInBounds_toArray, List.set_cons_zero, List.set_cons_succ]
                refine wpAnyH_take (i := 1) (v := ?_) rfl (by kernel_rfl) (by kernel_rfl) (by kernel_rfl) (fun _ _ _ h => h) (Or.inl ⟨by rfl, ?_⟩) hHeld ?_
                rotate_left
                · intro w' hSw; obtain ⟨c0, c1, c2, c3, c4, c5, c6⟩ := hSw.2.1; obtain ⟨d0, d1, d2, d3, d4, d5, d6⟩ := hSw.2.2; go_simp; first | done | with_reducible rfl | rfl
                try simp only [Act.put, List.getElem_toArray, List.getElem_cons_zero, List.getElem_cons_succ, List.setIfInBounds_toArray, List.set_cons_zero, List.set_cons_succ]
                refine wpAnyH_take (i := 2) (v := undef) rfl (by kernel_rfl) (by kernel_rfl) (by kernel_rfl) (fun _ _ _ h => h) (Or.inr ⟨by rfl, by rfl⟩) hHeld ?_
                try simp only [Act.put, List.getElem_toArray, List.getElem_cons_zero, List.getElem_cons_succ, List.setIfInBounds_toArray, List.set_cons_zero, List.set_cons_succ]
                refine wpAnyH_take (i := 3) (v := undef) rfl (by kernel_rfl) (by kernel_rfl) (by kernel_rfl) (fun _ _ _ h => h) (Or.inr ⟨by rfl, by rfl⟩) hHeld ?_
                try simp only [Act.put, List.getElem_toArray, List.getElem_cons_zero, List.getElem_cons_succ, List.setIfInBounds_toArray, List.set_cons_zero, List.set_cons_succ]
                refine wpAnyH_take (i := 4) (v := undef) rfl (by kernel_rfl) (by kernel_rfl) (by kernel_rfl) (fun _ _ _ h => h) (Or.inr ⟨by rfl, by rfl⟩) hHeld ?_
                try simp only [Act.put, List.getElem_toArray, List.getElem_cons_zero, List.getElem_cons_succ, List.setIfInBounds_toArray, List.set_cons_zero, List.set_cons_succ]
                refine wpAnyH_take (i := 5) (v := undef) rfl (by kernel_rfl) (by kernel_rfl) (by kernel_rfl) (fun _ _ _ h => h) (Or.inr ⟨by rfl, by rfl⟩) hHeld ?_
                try simp only [Act.put, List.getElem_toArray, List.getElem_cons_zero, List.getElem_cons_succ, List.setIfInBounds_toArray, List.set_cons_zero, List.set_cons_succ]
                refine wpAnyH_take (i := 6) (v := undef) rfl (by kernel_rfl) (by kernel_rfl) (by kernel_rfl) (fun _ _ _ h => h) (Or.inr ⟨by rfl, by rfl⟩) hHeld ?_
                try simp only [Act.put, List.getElem_toArray, List.getElem_cons_zero, List.getElem_cons_succ, List.setIfInBounds_toArray, List.set_cons_zero, List.set_cons_succ]
                refine wpAnyH_take (i := 7) (v := undef) rfl (by kernel_rfl) (by kernel_rfl) (by kernel_rfl) (fun _ _ _ h => h) (Or.inr ⟨by rfl, by rfl⟩) hHeld ?_
                try simp only [Act.put, List.getElem_toArray, List.getElem_cons_zero, List.getElem_cons_succ, List.setIfInBounds_toArray, List.set_cons_zero, List.set_cons_succ]
                refine wpAnyH_take (i := 8) (v := undef) rfl (by kernel_rfl) (by kernel_rfl) (by kernel_rfl) (fun _ _ _ h => h) (Or.inr ⟨by rfl, by rfl⟩) hHeld ?_
                try simp only [Act.put, List.getElem_toArray, List.getElem_cons_zero, List.getElem_cons_succ, List.setIfInBounds_toArray, List.set_cons_zero, List.set_cons_succ]
                refine wpAnyH_take (i := 9) (v := undef) rfl (by kernel_rfl) (by kernel_rfl) (by kernel_rfl) (fun _ _ _ h => h) (Or.inr ⟨by rfl, by rfl⟩) hHeld ?_
                try simp only [Act.put, List.getElem_toArray, List.getElem_cons_zero, List.getElem_cons_succ, List.setIfInBounds_toArray, List.set_cons_zero, List.set_cons_succ]
                refine wpAnyH_take (i := 10) (v := undef) rfl (by kernel_rfl) (by kernel_rfl) (by kernel_rfl) (fun _ _ _ h => h) (Or.inr ⟨by rfl, by rfl⟩) hHeld ?_
                try simp only [Act.put, List.getElem_toArray, List.getElem_cons_zero, List.getElem_cons_succ, List.setIfInBounds_toArray, List.set_cons_zero, List.set_cons_succ]
                refine wpAnyH_take (i := 11) (v := undef) rfl (by kernel_rfl) (by kernel_rfl) (by kernel_rfl) (fun _ _ _ h => h) (Or.inr ⟨by rfl, by rfl⟩) hHeld ?_
                try simp only [Act.put, List.getElem_toArray, List.getElem_cons_zero, List.getElem_cons_succ, List.setIfInBounds_toArray, List.set_cons_zero, List.set_cons_succ]
                refine wpAnyH_take (i := 12) (v := undef) rfl (by kernel_rfl) (by kernel_rfl) (by kernel_rfl) (fun _ _ _ h => h) (Or.inr ⟨by rfl, by rfl⟩) hHeld ?_
                try simp only [Act.put, List.getElem_toArray, List.getElem_cons_zero, List.getElem_cons_succ, List.setIfInBounds_toArray, List.set_cons_zero, List.set_cons_succ]
                refine wpAnyH_take (i := 13) (v := ?_) rfl (by kernel_rfl) (by kernel_rfl) (by kernel_rfl) (fun _ _ _ h => h) (Or.inl ⟨by rfl, ?_⟩) hHeld ?_
                rotate_left
                · intro w' hSw; obtain ⟨c0, c1, c2, c3, c4, c5, c6⟩ := hSw.2.1; obtain ⟨d0, d1, d2, d3, d4, d5, d6⟩ := hSw.2.2; go_simp; first | done | with_reducible rfl | rfl
                try simp only [Act.put, List.getElem_toArray, List.getElem_cons_zero, List.getElem_cons_succ, List.setIfInBounds_toArray, List.set_cons_zero, List.set_cons_succ]
                refine wpAnyH_take (i := 14) (v := ?_) rfl (by kernel_rfl) (by kernel_rfl) (by kernel_rfl) (fun _ _ _ h => h) (Or.inl ⟨by rfl, ?_⟩) hHeld ?_
                rotate_left
                · intro w' hSw; obtain ⟨c0, c1, c2, c3, c4, c5, c6⟩ := hSw.2.1; obtain ⟨d0, d1, d2, d3, d4, d5, d6⟩ := hSw.2.2; go_simp; first | done | with_reducible rfl | rfl
                try simp only [Act.put, List.getElem_toArray, List.getElem_cons_zero, List.getElem_cons_succ, List.setIfInBounds_toArray, List.set_cons_zero, List.set_cons_succ]
                refine wpAnyH_done (by kernel_rfl) ?_ _
                go_wp2_with fail
                go_roundw
                case rel =>
                  exact ⟨k + 1, false, by go_num, rfl, HLT.out, Lib.hid (by rw [HES.out, ← HE.out]; simp), Lib.hid HB.out.drew⟩
                case measure => simp [intOf]; omega
              | true =>
                obtain ⟨⟨x0, x1, x2, x3, x4, x5⟩, x6⟩ := x
                obtain ⟨⟨y0, y1, y2, y3, y4, y5⟩, y6⟩ := y
                by_cases e0 : x0 = y0
                · subst e0
                  by_cases e1 : x1 = y1
                  · subst e1
                    by_cases e2 : x2 = y2
                    · subst e2
                      by_cases e3 : x3 = y3
                      · subst e3
                        by_cases e4 : x4 = y4
                        · subst e4
                          by_cases e5 : x5 = y5
                          · subst e5
                            refine wp_region_held_drew (S := fun w' => Below w5.heap.size w5 w' ∧ SCl w' g1 (o1 + k * 7) ⟨⟨x0, x1, x2, x3, x4, x5⟩, x6⟩ ∧ SCl w' g2 (o2 + k * 7) ⟨⟨x0, x1, x2, x3, x4, x5⟩, y6⟩) (by kernel_rfl) (⟨HB.out.drew, HCX.out.later (Below.refl _ _).drew, HCY.out.later (Below.refl _ _).drew⟩) (fun hHeld => ?_)
                            refine wpAnyH_take (i := 0) (v := ?_) rfl (by kernel_rfl) (by kernel_rfl) (by kernel_rfl) (fun _ _ _ h => h) (Or.inl ⟨by rfl, ?_⟩) hHeld ?_
                            rotate_left
                            · intro w' hSw; obtain ⟨c0, c1, c2, c3, c4, c5, c6⟩ := hSw.2.1; obtain ⟨d0, d1, d2, d3, d4, d5, d6⟩ := hSw.2.2; go_simp; first | done | with_reducible rfl | rfl
                            try simp only [Act.put, List.getElem_toArray, List.getElem_cons_zero, List.setIfInBounds_toArray, List.set_cons_zero, List.set_cons_succ]
                            refine wpAnyH_take (i := 1) (v := ?_) rfl (by kernel_rfl) (by kernel_rfl) (by kernel_rfl) (fun _ _ _ h => h) (Or.inl ⟨by rfl, ?_⟩) hHeld ?_
                            rotate_left
                            · intro w' hSw; obtain ⟨c0, c1, c2, c3, c4, c5, c6⟩ := hSw.2.1; obtain ⟨d0, d1, d2, d3, d4, d5, d6⟩ := hSw.2.2; go_simp; first | done | with_reducible rfl | rfl
                            try simp only [Act.put, List.getElem_toArray, List.getElem_cons_zero, List.getElem_cons_succ, List.setIfInBounds_toArray, List.set_cons_zero, List.set_cons_succ]
                            refine wpAnyH_take (i := 2) (v := ?_) rfl (by kernel_rfl) (by kernel_rfl) (by kernel_rfl) (fun _ _ _ h => h) (Or.inl ⟨by rfl, ?_⟩) hHeld ?_
                            rotate_left
                            · intro w' hSw; obtain ⟨c0, c1, c2, c3, c4, c5, c6⟩ := hSw.2.1; obtain ⟨d0, d1, d2, d3, d4, d5, d6⟩ := hSw.2.2; go_simp; first | done | with_reducible rfl | rfl
                            try simp only [Act.put, List.getElem_toArray, List.getElem_cons_zero, List.getElem_cons_succ, List.setIfInBounds_toArray, List.set_cons_zero, List.set_cons_succ]
                            refine wpAnyH_take (i := 3) (v := ?_) rfl (by kernel_rfl) (by kernel_rfl) (by kernel_rfl) (fun _ _ _ h => h) (Or.inl ⟨by rfl, ?_⟩) hHeld ?_
                            rotate_left
                            · intro w' hSw; obtain ⟨c0, c1, c2, c3, c4, c5, c6⟩ := hSw.2.1; obtain ⟨d0, d1, d2, d3, d4, d5, d6⟩ := hSw.2.2; go_simp; first | done | with_reducible rfl | rfl
                            try simp only [Act.put, List.getElem_toArray, List.getElem_cons_zero, List.getElem_cons_succ, List.setIfInBounds_toArray, List.set_cons_zero, List.set_cons_succ]
                            refine wpAnyH_take (i := 4) (v := ?_) rfl (by kernel_rfl) (by kernel_rfl) (by kernel_rfl) (fun _ _ _ h => h) (Or.inl ⟨by rfl, ?_⟩) hHeld ?_
                            rotate_left
                            · intro w' hSw; obtain ⟨c0, c1, c2, c3, c4, c5, c6⟩ := hSw.2.1; obtain ⟨d0, d1, d2, d3, d4, d5, d6⟩ := hSw.2.2; go_simp; first | done | with_reducible rfl | rfl
                            try simp only [Act.put, List.getElem_toArray, List.getElem_cons_zero, List.getElem_cons_succ, List.setIfInBounds_toArray, List.set_cons_zero, List.set_cons_succ]
                            refine wpAnyH_take (i := 5) (v := ?_) rfl (by kernel_rfl) (by kernel_rfl) (by kernel_rfl) (fun _ _ _ h => h) (Or.inl ⟨by rfl, ?_⟩) hHeld ?_
                            rotate_left
                            · intro w' hSw; obtain ⟨c0, c1, c2, c3, c4, c5, c6⟩ := hSw.2.1; obtain ⟨d0, d1, d2, d3, d4, d5, d6⟩ := hSw.2.2; go_simp; first | done | with_reducible rfl | rfl
                            try simp only [Act.put, List.getElem_toArray, List.getElem_cons_zero, List.getElem_cons_succ, List.setIfInBounds_toArray, List.set_cons_zero, List.set_cons_succ]
                            refine wpAnyH_take (i := 6) (v := ?_) rfl (by kernel_rfl) (by kernel_rfl) (by kernel_rfl) (fun _ _ _ h => h) (Or.inl ⟨by rfl, ?_⟩) hHeld ?_
                            rotate_left
                            · intro w' hSw; obtain ⟨c0, c1, c2, c3, c4, c5, c6⟩ := hSw.2.1; obtain ⟨d0, d1, d2, d3, d4, d5, d6⟩ := hSw.2.2; go_simp; first | done | with_reducible rfl | rfl
                            try simp only [Act.put, List.getElem_toArray, List.getElem_cons_zero, List.getElem_cons_succ, List.setIfInBounds_toArray, List.set_cons_zero, List.set_cons_succ]
                            refine wpAnyH_take (i := 7) (v := ?_) rfl (by kernel_rfl) (by kernel_rfl) (by kernel_rfl) (fun _ _ _ h => h) (Or.inl ⟨by rfl, ?_⟩) hHeld ?_
                            rotate_left
                            · intro w' hSw; obtain ⟨c0, c1, c2, c3, c4, c5, c6⟩ := hSw.2.1; obtain ⟨d0, d1, d2, d3, d4, d5, d6⟩ := hSw.2.2; go_simp; first | done | with_reducible rfl | rfl
                            try simp only [Act.put, List.getElem_toArray, List.getElem_cons_zero, List.getElem_cons_succ, List.setIfInBounds_toArray, List.set_cons_zero, List.set_cons_succ]
                            refine wpAnyH_take (i := 8) (v := ?_) rfl (by kernel_rfl) (by kernel_rfl) (by kernel_rfl) (fun _ _ _ h => h) (Or.inl ⟨by rfl, ?_⟩) hHeld ?_
                            rotate_left
                            · intro w' hSw; obtain ⟨c0, c1, c2, c3, c4, c5, c6⟩ := hSw.2.1; obtain ⟨d0, d1, d2, d3, d4, d5, d6⟩ := hSw.2.2; go_simp; first | done | with_reducible rfl | rfl
                            try simp only [Act.put, List.getElem_toArray, List.getElem_cons_zero, List.getElem_cons_succ, List.setIfInBounds_toArray, List.set_cons_zero, List.set_cons_succ]
                            refine wpAnyH_take (i := 9) (v := ?_) rfl (by kernel_rfl) (by kernel_rfl) (by kernel_rfl) (fun _ _ _ h => h) (Or.inl ⟨by rfl, ?_⟩) hHeld ?_
                            rotate_left
                            · intro w' hSw; obtain ⟨c0, c1, c2, c3, c4, c5, c6⟩ := hSw.2.1; obtain ⟨d0, d1, d2, d3, d4, d5, d6⟩ := hSw.2.2; go_simp; first | done | with_reducible rfl | rfl
                            try simp only [Act.put, List.getElem_toArray, List.getElem_cons_zero, List.getElem_cons_succ, List.setIfInBounds_toArray, List.set_cons_zero, List.set_cons_succ]
                            refine wpAnyH_take (i := 10) (v := ?_) rfl (by kernel_rfl) (by kernel_rfl) (by kernel_rfl) (fun _ _ _ h => h) (Or.inl ⟨by rfl, ?_⟩) hHeld ?_
                            rotate_left
                            · intro w' hSw; obtain ⟨c0, c1, c2, c3, c4, c5, c6⟩ := hSw.2.1; obtain ⟨d0, d1, d2, d3, d4, d5, d6⟩ := hSw.2.2; go_simp; first | done | with_reducible rfl | rfl
                            try simp only [Act.put, List.getElem_toArray, List.getElem_cons_zero, List.getElem_cons_succ, List.setIfInBounds_toArray, List.set_cons_zero, List.set_cons_succ]
                            refine wpAnyH_take (i := 11) (v := ?_) rfl (by kernel_rfl) (by kernel_rfl) (by kernel_rfl) (fun _ _ _ h => h) (Or.inl ⟨by rfl, ?_⟩) hHeld ?_
                            rotate_left
                            · intro w' hSw; obtain ⟨c0, c1, c2, c3, c4, c5, c6⟩ := hSw.2.1; obtain ⟨d0, d1, d2, d3, d4, d5, d6⟩ := hSw.2.2; go_simp; first | done | with_reducible rfl | rfl
                            try simp only [Act.put, List.getElem_toArray, List.getElem_cons_zero, List.getElem_cons_succ, List.setIfInBounds_toArray, List.set_cons_zero, List.set_cons_succ]
                            refine wpAnyH_take (i := 12) (v := ?_) rfl (by kernel_rfl) (by kernel_rfl) (by kernel_rfl) (fun _ _ _ h => h) (Or.inl ⟨by rfl, ?_⟩) hHeld ?_
                            rotate_left
                            · intro w' hSw; obtain ⟨c0, c1, c2, c3, c4, c5, c6⟩ := hSw.2.1; obtain ⟨d0, d1, d2, d3, d4, d5, d6⟩ := hSw.2.2; go_simp; first | done | with_reducible rfl | rfl
                            try simp only [Act.put, List.getElem_toArray, List.getElem_cons_zero, List.getElem_cons_succ, List.setIfInBounds_toArray, List.set_cons_zero, List.set_cons_succ]
                            refine wpAnyH_take (i := 13) (v := ?_) rfl (by kernel_rfl) (by kernel_rfl) (by kernel_rfl) (fun _ _ _ h => h) (Or.inl ⟨by rfl, ?_⟩) hHeld ?_
                            rotate_left
                            · intro w' hSw; obtain ⟨c0, c1, c2, c3, c4, c5, c6⟩ := hSw.2.1; obtain ⟨d0, d1, d2, d3, d4, d5, d6⟩ := hSw.2.2; go_simp; first | done | with_reducible rfl | rfl
                            try simp only [Act.put, List.getElem_toArray, List.getElem_cons_zero, List.getElem_cons_succ, List.setIfInBounds_toArray, List.set_cons_zero, List.set_cons_succ]
                            refine wpAnyH_take (i := 14) (v := ?_) rfl (by kernel_rfl) (by kernel_rfl) (by kernel_rfl) (fun _ _ _ h => h) (Or.inl ⟨by rfl, ?_⟩) hHeld ?_
                            rotate_left
                            · intro w' hSw; obtain ⟨c0, c1, c2, c3, c4, c5, c6⟩ := hSw.2.1; obtain ⟨d0, d1, d2, d3, d4, d5, d6⟩ := hSw.2.2; go_simp; first | done | with_reducible rfl | rfl
                            try simp only [Act.put, List.getElem_toArray, List.getElem_cons_zero, List.getElem_cons_succ, List.setIfInBounds_toArray, List.set_cons_zero, List.set_cons_succ]
                            refine wpAnyH_done (by kernel_rfl) ?_ _
                            go_wp2_with fail
                            go_roundw
                            case rel =>
                              exact ⟨k + 1, true, by go_num, rfl, HLT.out, Lib.hid (by rw [HES.out, ← HE.out]; simp), Lib.hid HB.out.drew⟩
                            case measure => simp [intOf]; omega
                          · have hne : (x5 == y5) = false := by simpa using e5
                            have HNE := Lib.hid e5
                            clear e5
                            refine wp_region_held_drew (S := fun w' => Below w5.heap.size w5 w' ∧ SCl w' g1 (o1 + k * 7) ⟨⟨x0, x1, x2, x3, x4, x5⟩, x6⟩ ∧ SCl w' g2 (o2 + k * 7) ⟨⟨x0, x1, x2, x3, x4, y5⟩, y6⟩) (by kernel_rfl) (⟨HB.out.drew, HCX.out.later (Below.refl _ _).drew, HCY.out.later (Below.refl _ _).drew⟩) (fun hHeld => ?_)
                            refine wpAnyH_take (i := 0) (v := ?_) rfl (by kernel_rfl) (by kernel_rfl) (by kernel_rfl) (fun _ _ _ h => h) (Or.inl ⟨by rfl, ?_⟩) hHeld ?_
                            rotate_left
                            · intro w' hSw; obtain ⟨c0, c1, c2, c3, c4, c5, c6⟩ := hSw.2.1; obtain ⟨d0, d1, d2, d3, d4, d5, d6⟩ := hSw.2.2; go_simp; first | done | with_reducible rfl | rfl
                            try simp only [Act.put, List.getElem_toArray, List.getElem_cons_zero, List.setIfInBounds_toArray, List.set_cons_zero, List.set_cons_succ]
                            refine wpAnyH_take (i := 1) (v := ?_) rfl (by kernel_rfl) (by kernel_rfl) (by kernel_rfl) (fun _ _ _ h => h) (Or.inl ⟨by rfl, ?_⟩) hHeld ?_
                            rotate_left
                            · intro w' hSw; obtain ⟨c0, c1, c2, c3, c4, c5, c6⟩ := hSw.2.1; obtain ⟨d0, d1, d2, d3, d4, d5, d6⟩ := hSw.2.2; go_simp; first | done | with_reducible rfl | rfl
                            try simp only [Act.put, List.getElem_toArray, List.getElem_cons_zero, List.getElem_cons_succ, List.setIfInBounds_toArray, List.set_cons_zero, List.set_cons_succ]
                            refine wpAnyH_take (i := 2) (v := ?_) rfl (by kernel_rfl) (by kernel_rfl) (by kernel_rfl) (fun _ _ _ h => h) (Or.inl ⟨by rfl, ?_⟩) hHeld ?_
                            rotate_left
                            · intro w' hSw; obtain ⟨c0, c1, c2, c3, c4, c5, c6⟩ := hSw.2.1; obtain ⟨d0, d1, d2, d3, d4, d5, d6⟩ := hSw.2.2; go_simp; first | done | with_reducible rfl | rfl
                            try simp only [Act.put, List.getElem_toArray, List.getElem_cons_zero, List.getElem_cons_succ, List.setIfInBounds_toArray, List.set_cons_zero, List.set_cons_succ]
                            refine wpAnyH_take (i := 3) (v := ?_) rfl (by kernel_rfl) (by kernel_rfl) (by kernel_rfl) (fun _ _ _ h => h) (Or.inl ⟨by rfl, ?_⟩) hHeld ?_
                            rotate_left
                            · intro w' hSw; obtain ⟨c0, c1, c2, c3, c4, c5, c6⟩ := hSw.2.1; obtain ⟨d0, d1, d2, d3, d4, d5, d6⟩ := hSw.2.2; go_simp; first | done | with_reducible rfl | rfl
                            try simp only [Act.put, List.getElem_toArray, List.getElem_cons_zero, List.getElem_cons_succ, List.setIfInBounds_toArray, List.set_cons_zero, List.set_cons_succ]
                            refine wpAnyH_take (i := 4) (v := ?_) rfl (by kernel_rfl) (by kernel_rfl) (by kernel_rfl) (fun _ _ _ h => h) (Or.inl ⟨by rfl, ?_⟩) hHeld ?_
                            rotate_left
                            · intro w' hSw; obtain ⟨c0, c1, c2, c3, c4, c5, c6⟩ := hSw.2.1; obtain ⟨d0, d1, d2, d3, d4, d5, d6⟩ := hSw.2.2; go_simp; first | done | with_reducible rfl | rfl
                            try simp only [Act.put, List.getElem_toArray, List.getElem_cons_zero, List.getElem_cons_succ, List.setIfInBounds_toArray, List.set_cons_zero, List.set_cons_succ]
                            refine wpAnyH_take (i := 5) (v := ?_) rfl (by kernel_rfl) (by kernel_rfl) (by kernel_rfl) (fun _ _ _ h => h) (Or.inl ⟨by rfl, ?_⟩) hHeld ?_
                            rotate_left
                            · intro w' hSw; obtain ⟨c0, c1, c2, c3, c4, c5, c6⟩ := hSw.2.1; obtain ⟨d0, d1, d2, d3, d4, d5, d6⟩ := hSw.2.2; go_simp; first | done | with_reducible rfl | rfl
                            try simp only [Act.put, List.getElem_toArray, List.getElem_cons_zero, List.getElem_cons_succ, List.setIfInBounds_toArray, List.set_cons_zero, List.set_cons_succ]
                            refine wpAnyH_take (i := 6) (v := ?_) rfl (by kernel_rfl) (by kernel_rfl) (by kernel_rfl) (fun _ _ _ h => h) (Or.inl ⟨by rfl, ?_⟩) hHeld ?_
                            rotate_left
                            · intro w' hSw; obtain ⟨c0, c1, c2, c3, c4, c5, c6⟩ := hSw.2.1; obtain ⟨d0, d1, d2, d3, d4, d5, d6⟩ := hSw.2.2; go_simp; first | done | with_reducible rfl | rfl
                            try simp only [Act.put, List.getElem_toArray, List.getElem_cons_zero, List.getElem_cons_succ, List.setIfInBounds_toArray, List.set_cons_zero, List.set_cons_succ]
                            refine wpAnyH_take (i := 7) (v := ?_) rfl (by kernel_rfl) (by kernel_rfl) (by kernel_rfl) (fun _ _ _ h => h) (Or.inl ⟨by rfl, ?_⟩) hHeld ?_
                            rotate_left
                            · intro w' hSw; obtain ⟨c0, c1, c2, c3, c4, c5, c6⟩ := hSw.2.1; obtain ⟨d0, d1, d2, d3, d4, d5, d6⟩ := hSw.2.2; go_simp; first | done | with_reducible rfl | rfl
                            try simp only [Act.put, List.getElem_toArray, List.getElem_cons_zero, List.getElem_cons_succ, List.setIfInBounds_toArray, List.set_cons_zero, List.set_cons_succ]
                            refine wpAnyH_take (i := 8) (v := ?_) rfl (by kernel_rfl) (by kernel_rfl) (by kernel_rfl) (fun _ _ _ h => h) (Or.inl ⟨by rfl, ?_⟩) hHeld ?_
                            rotate_left
                            · intro w' hSw; obtain ⟨c0, c1, c2, c3, c4, c5, c6⟩ := hSw.2.1; obtain ⟨d0, d1, d2, d3, d4, d5, d6⟩ := hSw.2.2; go_simp; first | done | with_reducible rfl | rfl
                            try simp only [Act.put, List.getElem_toArray, List.getElem_cons_zero, List.getElem_cons_succ, List.setIfInBounds_toArray, List.set_cons_zero, List.set_cons_succ]
                            refine wpAnyH_take (i := 9) (v := ?_) rfl (by kernel_rfl) (by kernel_rfl) (by kernel_rfl) (fun _ _ _ h => h) (Or.inl ⟨by rfl, ?_⟩) hHeld ?_
                            rotate_left
                            · intro w' hSw; obtain ⟨c0, c1, c2, c3, c4, c5, c6⟩ := hSw.2.1; obtain ⟨d0, d1, d2, d3, d4, d5, d6⟩ := hSw.2.2; go_simp; first | done | with_reducible rfl | rfl
                            try simp only [Act.put, List.getElem_toArray, List.getElem_cons_zero, List.getElem_cons_succ, List.setIfInBounds_toArray, List.set_cons_zero, List.set_cons_succ]
                            refine wpAnyH_take (i := 10) (v := ?_) rfl (by kernel_rfl) (by kernel_rfl) (by kernel_rfl) (fun _ _ _ h => h) (Or.inl ⟨by rfl, ?_⟩) hHeld ?_
                            rotate_left
                            · intro w' hSw; obtain ⟨c0, c1, c2, c3, c4, c5, c6⟩ := hSw.2.1; obtain ⟨d0, d1, d2, d3, d4, d5, d6⟩ := hSw.2.2; go_simp; first | done | with_reducible rfl | rfl
                            try simp only [Act.put, List.getElem_toArray, List.getElem_cons_zero, List.getElem_cons_succ, List.setIfInBounds_toArray, List.set_cons_zero, List.set_cons_succ]
                            refine wpAnyH_take (i := 11) (v := ?_) rfl (by kernel_rfl) (by kernel_rfl) (by kernel_rfl) (fun _ _ _ h => h) (Or.inl ⟨by rfl, ?_⟩) hHeld ?_
                            rotate_left
                            · intro w' hSw; obtain ⟨c0, c1, c2, c3, c4, c5, c6⟩ := hSw.2.1; obtain ⟨d0, d1, d2, d3, d4, d5, d6⟩ := hSw.2.2; go_simp; first | done | with_reducible rfl | rfl
                            try simp only [Act.put, List.getElem_toArray, List.getElem_cons_zero, List.getElem_cons_succ, List.setIfInBounds_toArray, List.set_cons_zero, List.set_cons_succ]
                            refine wpAnyH_take (i := 12) (v := ?_) rfl (by kernel_rfl) (by kernel_rfl) (by kernel_rfl) (fun _ _ _ h => h) (Or.inl ⟨by rfl, ?_⟩) hHeld ?_
                            rotate_left
                            · intro w' hSw; obtain ⟨c0, c1, c2, c3, c4, c5, c6⟩ := hSw.2.1; obtain ⟨d0, d1, d2, d3, d4, d5, d6⟩ := hSw.2.2; go_simp; first | done | with_reducible rfl | rfl
                            try simp only [Act.put, List.getElem_toArray, List.getElem_cons_zero, List.getElem_cons_succ, List.setIfInBounds_toArray, List.set_cons_zero, List.set_cons_succ]
                            refine wpAnyH_take (i := 13) (v := ?_) rfl (by kernel_rfl) (by kernel_rfl) (by kernel_rfl) (fun _ _ _ h => h) (Or.inl ⟨by rfl, ?_⟩) hHeld ?_
                            rotate_left
                            · intro w' hSw; obtain ⟨c0, c1, c2, c3, c4, c5, c6⟩ := hSw.2.1; obtain ⟨d0, d1, d2, d3, d4, d5, d6⟩ := hSw.2.2; go_simp; first | done | with_reducible rfl | rfl
                            try simp only [Act.put, List.getElem_toArray, List.getElem_cons_zero, List.getElem_cons_succ, List.setIfInBounds_toArray, List.set_cons_zero, List.set_cons_succ]
                            refine wpAnyH_take (i := 14) (v := ?_) rfl (by kernel_rfl) (by kernel_rfl) (by kernel_rfl) (fun _ _ _ h => h) (Or.inl ⟨by rfl, ?_⟩) hHeld ?_
                            rotate_left
                            · intro w' hSw; obtain ⟨c0, c1, c2, c3, c4, c5, c6⟩ := hSw.2.1; obtain ⟨d0, d1, d2, d3, d4, d5, d6⟩ := hSw.2.2; go_simp; first | done | with_reducible rfl | rfl
                            try simp only [Act.put, List.getElem_toArray, List.getElem_cons_zero, List.getElem_cons_succ, List.setIfInBounds_toArray, List.set_cons_zero, List.set_cons_succ]
                            refine wpAnyH_done (by kernel_rfl) ?_ _
                            go_wp2_with fail
                            go_roundw
                            case rel =>
                              exact ⟨k + 1, false, by go_num, rfl, HLT.out, Lib.hid (by rw [HES.out]; simp only [Bool.false_eq_true, false_iff, not_and]; intro _ h; injection h with h0 h1 h2 h3 h4 h5; exact HNE.out h5), Lib.hid HB.out.drew⟩
                            case measure => simp [intOf]; omega
                        · have hne : (x4 == y4) = false := by simpa using e4
                          have HNE := Lib.hid e4
                          clear e4
                          refine wp_region_held_drew (S := fun w' => Below w5.heap.size w5 w' ∧ SCl w' g1 (o1 + k * 7) ⟨⟨x0, x1, x2, x3, x4, x5⟩, x6⟩ ∧ SCl w' g2 (o2 + k * 7) ⟨⟨x0, x1, x2, x3, y4, y5⟩, y6⟩) (by kernel_rfl) (⟨HB.out.drew, HCX.out.later (Below.refl _ _).drew, HCY.out.later (Below.refl _ _).drew⟩) (fun hHeld => ?_)
                          refine wpAnyH_take (i := 0) (v := ?_) rfl (by kernel_rfl) (by kernel_rfl) (by kernel_rfl) (fun _ _ _ h => h) (Or.inl ⟨by rfl, ?_⟩) hHeld ?_
                          rotate_left
                          · intro w' hSw; obtain ⟨c0, c1, c2, c3, c4, c5, c6⟩ := hSw.2.1; obtain ⟨d0, d1, d2, d3, d4, d5, d6⟩ := hSw.2.2; go_simp; first | done | with_reducible rfl | rfl
                          try simp only [Act.put, List.getElem_toArray, List.getElem_cons_zero, List.setIfInBounds_toArray, List.set_cons_zero, List.set_cons_succ]
                          refine wpAnyH_take (i := 1) (v := ?_) rfl (by kernel_rfl) (by kernel_rfl) (by kernel_rfl) (fun _ _ _ h => h) (Or.inl ⟨by rfl, ?_⟩) hHeld ?_
                          rotate_left
                          · intro w' hSw; obtain ⟨c0, c1, c2, c3, c4, c5, c6⟩ := hSw.2.1; obtain ⟨d0, d1, d2, d3, d4, d5, d6⟩ := hSw.2.2; go_simp; first | done | with_reducible rfl | rfl
                          try simp only [Act.put, List.getElem_toArray, List.getElem_cons_zero, List.getElem_cons_succ, List.setIfInBounds_toArray, List.set_cons_zero, List.set_cons_succ]
                          refine wpAnyH_take (i := 2) (v := ?_) rfl (by kernel_rfl) (by kernel_rfl) (by kernel_rfl) (fun _ _ _ h => h) (Or.inl ⟨by rfl, ?_⟩) hHeld ?_
                          rotate_left
                          · intro w' hSw; obtain ⟨c0, c1, c2, c3, c4, c5, c6⟩ := hSw.2.1; obtain ⟨d0, d1, d2, d3, d4, d5, d6⟩ := hSw.2.2; go_simp; first | done | with_reducible rfl | rfl
                          try simp only [Act.put, List.getElem_toArray, List.getElem_cons_zero, List.getElem_cons_succ, List.setIfInBounds_toArray, List.set_cons_zero, List.set_cons_succ]
                          refine wpAnyH_take (i := 3) (v := ?_) rfl (by kernel_rfl) (by kernel_rfl) (by kernel_rfl) (fun _ _ _ h => h) (Or.inl ⟨by rfl, ?_⟩) hHeld ?_
                          rotate_left
                          · intro w' hSw; obtain ⟨c0, c1, c2, c3, c4, c5, c6⟩ := hSw.2.1; obtain ⟨d0, d1, d2, d3, d4, d5, d6⟩ := hSw.2.2; go_simp; first | done | with_reducible rfl | rfl
                          try simp only [Act.put, List.getElem_toArray, List.getElem_cons_zero, List.getElem_cons_succ, List.setIfInBounds_toArray, List.set_cons_zero, List.set_cons_succ]
                          refine wpAnyH_take (i := 4) (v := ?_) rfl (by kernel_rfl) (by kernel_rfl) (by kernel_rfl) (fun _ _ _ h => h) (Or.inl ⟨by rfl, ?_⟩) hHeld ?_
                          rotate_left
                          · intro w' hSw; obtain ⟨c0, c1, c2, c3, c4, c5, c6⟩ := hSw.2.1; obtain ⟨d0, d1, d2, d3, d4, d5, d6⟩ := hSw.2.2; go_simp; first | done | with_reducible rfl | rfl
                          try simp only [Act.put, List.getElem_toArray, List.getElem_cons_zero, List.getElem_cons_succ, List.setIfInBounds_toArray, List.set_cons_zero, List.set_cons_succ]
                          refine wpAnyH_take (i := 5) (v := ?_) rfl (by kernel_rfl) (by kernel_rfl) (by kernel_rfl) (fun _ _ _ h => h) (Or.inl ⟨by rfl, ?_⟩) hHeld ?_
                          rotate_left
                          · intro w' hSw; obtain ⟨c0, c1, c2, c3, c4, c5, c6⟩ := hSw.2.1; obtain ⟨d0, d1, d2, d3, d4, d5, d6⟩ := hSw.2.2; go_simp; first | done | with_reducible rfl | rfl
                          try simp only [Act.put, List.getElem_toArray, List.getElem_cons_zero, List.getElem_cons_succ, List.setIfInBounds_toArray, List.set_cons_zero, List.set_cons_succ]
                          refine wpAnyH_take (i := 6) (v := ?_) rfl (by kernel_rfl) (by kernel_rfl) (by kernel_rfl) (fun _ _ _ h => h) (Or.inl ⟨by rfl, ?_⟩) hHeld ?_
                          rotate_left
                          · intro w' hSw; obtain ⟨c0, c1, c2, c3, c4, c5, c6⟩ := hSw.2.1; obtain ⟨d0, d1, d2, d3, d4, d5, d6⟩ := hSw.2.2; go_simp; first | done | with_reducible rfl | rfl
                          try simp only [Act.put, List.getElem_toArray, List.getElem_cons_zero, List.getElem_cons_succ, List.setIfInBounds_toArray, List.set_cons_zero, List.set_cons_succ]
                          refine wpAnyH_take (i := 7) (v := ?_) rfl (by kernel_rfl) (by kernel_rfl) (by kernel_rfl) (fun _ _ _ h => h) (Or.inl ⟨by rfl, ?_⟩) hHeld ?_
                          rotate_left
                          · intro w' hSw; obtain ⟨c0, c1, c2, c3, c4, c5, c6⟩ := hSw.2.1; obtain ⟨d0, d1, d2, d3, d4, d5, d6⟩ := hSw.2.2; go_simp; first | done | with_reducible rfl | rfl
                          try simp only [Act.put, List.getElem_toArray, List.getElem_cons_zero, List.getElem_cons_succ, List.setIfInBounds_toArray, List.set_cons_zero, List.set_cons_succ]
                          refine wpAnyH_take (i := 8) (v := ?_) rfl (by kernel_rfl) (by kernel_rfl) (by kernel_rfl) (fun _ _ _ h => h) (Or.inl ⟨by rfl, ?_⟩) hHeld ?_
                          rotate_left
                          · intro w' hSw; obtain ⟨c0, c1, c2, c3, c4, c5, c6⟩ := hSw.2.1; obtain ⟨d0, d1, d2, d3, d4, d5, d6⟩ := hSw.2.2; go_simp; first | done | with_reducible rfl | rfl
                          try simp only [Act.put, List.getElem_toArray, List.getElem_cons_zero, List.getElem_cons_succ, List.setIfInBounds_toArray, List.set_cons_zero, List.set_cons_succ]
                          refine wpAnyH_take (i := 9) (v := ?_) rfl (by kernel_rfl) (by kernel_rfl) (by kernel_rfl) (fun _ _ _ h => h) (Or.inl ⟨by rfl, ?_⟩) hHeld ?_
                          rotate_left
                          · intro w' hSw; obtain ⟨c0, c1, c2, c3, c4, c5, c6⟩ := hSw.2.1; obtain ⟨d0, d1, d2, d3, d4, d5, d6⟩ := hSw.2.2; go_simp; first | done | with_reducible rfl | rfl
                          try simp only [Act.put, List.getElem_toArray, List.getElem_cons_zero, List.getElem_cons_succ, List.setIfInBounds_toArray, List.set_cons_zero, List.set_cons_succ]
                          refine wpAnyH_take (i := 10) (v := ?_) rfl (by kernel_rfl) (by kernel_rfl) (by kernel_rfl) (fun _ _ _ h => h) (Or.inl ⟨by rfl, ?_⟩) hHeld ?_
                          rotate_left
                          · intro w' hSw; obtain ⟨c0, c1, c2, c3, c4, c5, c6⟩ := hSw.2.1; obtain ⟨d0, d1, d2, d3, d4, d5, d6⟩ := hSw.2.2; go_simp; first | done | with_reducible rfl | rfl
                          try simp only [Act.put, List.getElem_toArray, List.getElem_cons_zero, List.getElem_cons_succ, List.setIfInBounds_toArray, List.set_cons_zero, List.set_cons_succ]
                          refine wpAnyH_take (i := 11) (v := ?_) rfl (by kernel_rfl) (by kernel_rfl) (by kernel_rfl) (fun _ _ _ h => h) (Or.inl ⟨by rfl, ?_⟩) hHeld ?_
                          rotate_left
                          · intro w' hSw; obtain ⟨c0, c1, c2, c3, c4, c5, c6⟩ := hSw.2.1; obtain ⟨d0, d1, d2, d3, d4, d5, d6⟩ := hSw.2.2; go_simp; first | done | with_reducible rfl | rfl
                          try simp only [Act.put, List.getElem_toArray, List.getElem_cons_zero, List.getElem_cons_succ, List.setIfInBounds_toArray, List.set_cons_zero, List.set_cons_succ]
                          refine wpAnyH_take (i := 12) (v := ?_) rfl (by kernel_rfl) (by kernel_rfl) (by kernel_rfl) (fun _ _ _ h => h) (Or.inl ⟨by rfl, ?_⟩) hHeld ?_
                          rotate_left
                          · intro w' hSw; obtain ⟨c0, c1, c2, c3, c4, c5, c6⟩ := hSw.2.1; obtain ⟨d0, d1, d2, d3, d4, d5, d6⟩ := hSw.2.2; go_simp; first | done | with_reducible rfl | rfl
                          try simp only [Act.put, List.getElem_toArray, List.getElem_cons_zero, List.getElem_cons_succ, List.setIfInBounds_toArray, List.set_cons_zero, List.set_cons_succ]
                          refine wpAnyH_take (i := 13) (v := ?_) rfl (by kernel_rfl) (by kernel_rfl) (by kernel_rfl) (fun _ _ _ h => h) (Or.inl ⟨by rfl, ?_⟩) hHeld ?_
                          rotate_left
                          · intro w' hSw; obtain ⟨c0, c1, c2, c3, c4, c5, c6⟩ := hSw.2.1; obtain ⟨d0, d1, d2, d3, d4, d5, d6⟩ := hSw.2.2; go_simp; first | done | with_reducible rfl | rfl
                          try simp only [Act.put, List.getElem_toArray, List.getElem_cons_zero, List.getElem_cons_succ, List.setIfInBounds_toArray, List.set_cons_zero, List.set_cons_succ]
                          refine wpAnyH_take (i := 14) (v := ?_) rfl (by kernel_rfl) (by kernel_rfl) (by kernel_rfl) (fun _ _ _ h => h) (Or.inl ⟨by rfl, ?_⟩) hHeld ?_
                          rotate_left
                          · intro w' hSw; obtain ⟨c0, c1, c2, c3, c4, c5, c6⟩ := hSw.2.1; obtain ⟨d0, d1, d2, d3, d4, d5, d6⟩ := hSw.2.2; go_simp; first | done | with_reducible rfl | rfl
                          try simp only [Act.put, List.getElem_toArray, List.getElem_cons_zero, List.getElem_cons_succ, List.setIfInBounds_toArray, List.set_cons_zero, List.set_cons_succ]
                          refine wpAnyH_done (by kernel_rfl) ?_ _
                          go_wp2_with fail
                          go_roundw
                          case rel =>
                            exact ⟨k + 1, false, by go_num, rfl, HLT.out, Lib.hid (by rw [HES.out]; simp only [Bool.false_eq_true, false_iff, not_and]; intro _ h; injection h with h0 h1 h2 h3 h4 h5; exact HNE.out h4), Lib.hid HB.out.drew⟩
                          case measure => simp [intOf]; omega
                      · have hne : (x3.toList == y3.toList) = false := by rw [str_beq, decide_eq_false e3]
                        have HNE := Lib.hid e3
                        clear e3
                        refine wp_region_held_drew (S := fun w' => Below w5.heap.size w5 w' ∧ SCl w' g1 (o1 + k * 7) ⟨⟨x0, x1, x2, x3, x4, x5⟩, x6⟩ ∧ SCl w' g2 (o2 + k * 7) ⟨⟨x0, x1, x2, y3, y4, y5⟩, y6⟩) (by kernel_rfl) (⟨HB.out.drew, HCX.out.later (Below.refl _ _).drew, HCY.out.later (Below.refl _ _).drew⟩) (fun hHeld => ?_)
                        refine wpAnyH_take (i := 0) (v := ?_) rfl (by kernel_rfl) (by kernel_rfl) (by kernel_rfl) (fun _ _ _ h => h) (Or.inl ⟨by rfl, ?_⟩) hHeld ?_
                        rotate_left
                        · intro w' hSw; obtain ⟨c0, c1, c2, c3, c4, c5, c6⟩ := hSw.2.1; obtain ⟨d0, d1, d2, d3, d4, d5, d6⟩ := hSw.2.2; go_simp; first | done | with_reducible rfl | rfl
                        try simp only [Act.put, List.getElem_toArray, List.getElem_cons_zero, List.setIfInBounds_toArray, List.set_cons_zero, List.set_cons_succ]
                        refine wpAnyH_take (i := 1) (v := ?_) rfl (by kernel_rfl) (by kernel_rfl) (by kernel_rfl) (fun _ _ _ h => h) (Or.inl ⟨by rfl, ?_⟩) hHeld ?_
                        rotate_left
                        · intro w' hSw; obtain ⟨c0, c1, c2, c3, c4, c5, c6⟩ := hSw.2.1; obtain ⟨d0, d1, d2, d3, d4, d5, d6⟩ := hSw.2.2; go_simp; first | done | with_reducible rfl | rfl
                        try simp only [Act.put, List.getElem_toArray, List.getElem_cons_zero, List.getElem_cons_succ, List.setIfInBounds_toArray, List.set_cons_zero, List.set_cons_succ]
                        refine wpAnyH_take (i := 2) (v := ?_) rfl (by kernel_rfl) (by kernel_rfl) (by kernel_rfl) (fun _ _ _ h => h) (Or.inl ⟨by rfl, ?_⟩) hHeld ?_
                        rotate_left
                        · intro w' hSw; obtain ⟨c0, c1, c2, c3, c4, c5, c6⟩ := hSw.2.1; obtain ⟨d0, d1, d2, d3, d4, d5, d6⟩ := hSw.2.2; go_simp; first | done | with_reducible rfl | rfl
                        try simp only [Act.put, List.getElem_toArray, List.getElem_cons_zero, List.getElem_cons_succ, List.setIfInBounds_toArray, List.set_cons_zero, List.set_cons_succ]
                        refine wpAnyH_take (i := 3) (v := ?_) rfl (by kernel_rfl) (by kernel_rfl) (by kernel_rfl) (fun _ _ _ h => h) (Or.inl ⟨by rfl, ?_⟩) hHeld ?_
                        rotate_left
                        · intro w' hSw; obtain ⟨c0, c1, c2, c3, c4, c5, c6⟩ := hSw.2.1; obtain ⟨d0, d1, d2, d3, d4, d5, d6⟩ := hSw.2.2; go_simp; first | done | with_reducible rfl | rfl
                        try simp only [Act.put, List.getElem_toArray, List.getElem_cons_zero, List.getElem_cons_succ, List.setIfInBounds_toArray, List.set_cons_zero, List.set_cons_succ]
                        refine wpAnyH_take (i := 4) (v := ?_) rfl (by kernel_rfl) (by kernel_rfl) (by kernel_rfl) (fun _ _ _ h => h) (Or.inl ⟨by rfl, ?_⟩) hHeld ?_
                        rotate_left
                        · intro w' hSw; obtain ⟨c0, c1, c2, c3, c4, c5, c6⟩ := hSw.2.1; obtain ⟨d0, d1, d2, d3, d4, d5, d6⟩ := hSw.2.2; go_simp; first | done | with_reducible rfl | rfl
                        try simp only [Act.put, List.getElem_toArray, List.getElem_cons_zero, List.getElem_cons_succ, List.setIfInBounds_toArray, List.set_cons_zero, List.set_cons_succ]
                        refine wpAnyH_take (i := 5) (v := ?_) rfl (by kernel_rfl) (by kernel_rfl) (by kernel_rfl) (fun _ _ _ h => h) (Or.inl ⟨by rfl, ?_⟩) hHeld ?_
                        rotate_left
                        · intro w' hSw; obtain ⟨c0, c1, c2, c3, c4, c5, c6⟩ := hSw.2.1; obtain ⟨d0, d1, d2, d3, d4, d5, d6⟩ := hSw.2.2; go_simp; first | done | with_reducible rfl | rfl
                        try simp only [Act.put, List.getElem_toArray, List.getElem_cons_zero, List.getElem_cons_succ, List.setIfInBounds_toArray, List.set_cons_zero, List.set_cons_succ]
                        refine wpAnyH_take (i := 6) (v := ?_) rfl (by kernel_rfl) (by kernel_rfl) (by kernel_rfl) (fun _ _ _ h => h) (Or.inl ⟨by rfl, ?_⟩) hHeld ?_
                        rotate_left
                        · intro w' hSw; obtain ⟨c0, c1, c2, c3, c4, c5, c6⟩ := hSw.2.1; obtain ⟨d0, d1, d2, d3, d4, d5, d6⟩ := hSw.2.2; go_simp; first | done | with_reducible rfl | rfl
                        try simp only [Act.put, List.getElem_toArray, List.getElem_cons_zero, List.getElem_cons_succ, List.setIfInBounds_toArray, List.set_cons_zero, List.set_cons_succ]
                        refine wpAnyH_take (i := 7) (v := ?_) rfl (by kernel_rfl) (by kernel_rfl) (by kernel_rfl) (fun _ _ _ h => h) (Or.inl ⟨by rfl, ?_⟩) hHeld ?_
                        rotate_left
                        · intro w' hSw; obtain ⟨c0, c1, c2, c3, c4, c5, c6⟩ := hSw.2.1; obtain ⟨d0, d1, d2, d3, d4, d5, d6⟩ := hSw.2.2; go_simp; first | done | with_reducible rfl | rfl
                        try simp only [Act.put, List.getElem_toArray, List.getElem_cons_zero, List.getElem_cons_succ, List.setIfInBounds_toArray, List.set_cons_zero, List.set_cons_succ]
                        refine wpAnyH_take (i := 8) (v := ?_) rfl (by kernel_rfl) (by kernel_rfl) (by kernel_rfl) (fun _ _ _ h => h) (Or.inl ⟨by rfl, ?_⟩) hHeld ?_
                        rotate_left
                        · intro w' hSw; obtain ⟨c0, c1, c2, c3, c4, c5, c6⟩ := hSw.2.1; obtain ⟨d0, d1, d2, d3, d4, d5, d6⟩ := hSw.2.2; go_simp; first | done | with_reducible rfl | rfl
                        try simp only [Act.put, List.getElem_toArray, List.getElem_cons_zero, List.getElem_cons_succ, List.setIfInBounds_toArray, List.set_cons_zero, List.set_cons_succ]
                        refine wpAnyH_take (i := 9) (v := ?_) rfl (by kernel_rfl) (by kernel_rfl) (by kernel_rfl) (fun _ _ _ h => h) (Or.inl ⟨by rfl, ?_⟩) hHeld ?_
                        rotate_left
                        · intro w' hSw; obtain ⟨c0, c1, c2, c3, c4, c5, c6⟩ := hSw.2.1; obtain ⟨d0, d1, d2, d3, d4, d5, d6⟩ := hSw.2.2; go_simp; first | done | with_reducible rfl | rfl
                        try simp only [Act.put, List.getElem_toArray, List.getElem_cons_zero, List.getElem_cons_succ, List.setIfInBounds_toArray, List.set_cons_zero, List.set_cons_succ]
                        refine wpAnyH_take (i := 10) (v := ?_) rfl (by kernel_rfl) (by kernel_rfl) (by kernel_rfl) (fun _ _ _ h => h) (Or.inl ⟨by rfl, ?_⟩) hHeld ?_
                        rotate_left
                        · intro w' hSw; obtain ⟨c0, c1, c2, c3, c4, c5, c6⟩ := hSw.2.1; obtain ⟨d0, d1, d2, d3, d4, d5, d6⟩ := hSw.2.2; go_simp; first | done | with_reducible rfl | rfl
                        try simp only [Act.put, List.getElem_toArray, List.getElem_cons_zero, List.getElem_cons_succ, List.setIfInBounds_toArray, List.set_cons_zero, List.set_cons_succ]
                        refine wpAnyH_take (i := 11) (v := ?_) rfl (by kernel_rfl) (by kernel_rfl) (by kernel_rfl) (fun _ _ _ h => h) (Or.inl ⟨by rfl, ?_⟩) hHeld ?_
                        rotate_left
                        · intro w' hSw; obtain ⟨c0, c1, c2, c3, c4, c5, c6⟩ := hSw.2.1; obtain ⟨d0, d1, d2, d3, d4, d5, d6⟩ := hSw.2.2; go_simp; first | done | with_reducible rfl | rfl
                        try simp only [Act.put, List.getElem_toArray, List.getElem_cons_zero, List.getElem_cons_succ, List.setIfInBounds_toArray, List.set_cons_zero, List.set_cons_succ]
                        refine wpAnyH_take (i := 12) (v := ?_) rfl (by kernel_rfl) (by kernel_rfl) (by kernel_rfl) (fun _ _ _ h => h) (Or.inl ⟨by rfl, ?_⟩) hHeld ?_
                        rotate_left
                        · intro w' hSw; obtain ⟨c0, c1, c2, c3, c4, c5, c6⟩ := hSw.2.1; obtain ⟨d0, d1, d2, d3, d4, d5, d6⟩ := hSw.2.2; go_simp; first | done | with_reducible rfl | rfl
                        try simp only [Act.put, List.getElem_toArray, List.getElem_cons_zero, List.getElem_cons_succ, List.setIfInBounds_toArray, List.set_cons_zero, List.set_cons_succ]
                        refine wpAnyH_take (i := 13) (v := ?_) rfl (by kernel_rfl) (by kernel_rfl) (by kernel_rfl) (fun _ _ _ h => h) (Or.inl ⟨by rfl, ?_⟩) hHeld ?_
                        rotate_left
                        · intro w' hSw; obtain ⟨c0, c1, c2, c3, c4, c5, c6⟩ := hSw.2.1; obtain ⟨d0, d1, d2, d3, d4, d5, d6⟩ := hSw.2.2; go_simp; first | done | with_reducible rfl | rfl
                        try simp only [Act.put, List.getElem_toArray, List.getElem_cons_zero, List.getElem_cons_succ, List.setIfInBounds_toArray, List.set_cons_zero, List.set_cons_succ]
                        refine wpAnyH_take (i := 14) (v := ?_) rfl (by kernel_rfl) (by kernel_rfl) (by kernel_rfl) (fun _ _ _ h => h) (Or.inl ⟨by rfl, ?_⟩) hHeld ?_
                        rotate_left
                        · intro w' hSw; obtain ⟨c0, c1, c2, c3, c4, c5, c6⟩ := hSw.2.1; obtain ⟨d0, d1, d2, d3, d4, d5, d6⟩ := hSw.2.2; go_simp; first | done | with_reducible rfl | rfl
                        try simp only [Act.put, List.getElem_toArray, List.getElem_cons_zero, List.getElem_cons_succ, List.setIfInBounds_toArray, List.set_cons_zero, List.set_cons_succ]
                        refine wpAnyH_done (by kernel_rfl) ?_ _
                        go_wp2_with fail
                        go_roundw
                        case rel =>
                          exact ⟨k + 1, false, by go_num, rfl, HLT.out, Lib.hid (by rw [HES.out]; simp only [Bool.false_eq_true, false_iff, not_and]; intro _ h; injection h with h0 h1 h2 h3 h4 h5; exact HNE.out h3), Lib.hid HB.out.drew⟩
                        case measure => simp [intOf]; omega
                    · have hne : (x2.toList == y2.toList) = false := by rw [str_beq, decide_eq_false e2]
                      have HNE := Lib.hid e2
                      clear e2
                      refine wp_region_held_drew (S := fun w' => Below w5.heap.size w5 w' ∧ SCl w' g1 (o1 + k * 7) ⟨⟨x0, x1, x2, x3, x4, x5⟩, x6⟩ ∧ SCl w' g2 (o2 + k * 7) ⟨⟨x0, x1, y2, y3, y4, y5⟩, y6⟩) (by kernel_rfl) (⟨HB.out.drew, HCX.out.later (Below.refl _ _).drew, HCY.out.later (Below.refl _ _).drew⟩) (fun hHeld => ?_)
                      refine wpAnyH_take (i := 0) (v := ?_) rfl (by kernel_rfl) (by kernel_rfl) (by kernel_rfl) (fun _ _ _ h => h) (Or.inl ⟨by rfl, ?_⟩) hHeld ?_
                      rotate_left
                      · intro w' hSw; obtain ⟨c0, c1, c2, c3, c4, c5, c6⟩ := hSw.2.1; obtain ⟨d0, d1, d2, d3, d4, d5, d6⟩ := hSw.2.2; go_simp; first | done | with_reducible rfl | rfl
                      try simp only [Act.put, List.getElem_toArray, List.getElem_cons_zero, List.setIfInBounds_toArray, List.set_cons_zero, List.set_cons_succ]
                      refine wpAnyH_take (i := 1) (v := ?_) rfl (by kernel_rfl) (by kernel_rfl) (by kernel_rfl) (fun _ _ _ h => h) (Or.inl ⟨by rfl, ?_⟩) hHeld ?_
                      rotate_left
                      · intro w' hSw; obtain ⟨c0, c1, c2, c3, c4, c5, c6⟩ := hSw.2.1; obtain ⟨d0, d1, d2, d3, d4, d5, d6⟩ := hSw.2.2; go_simp; first | done | with_reducible rfl | rfl
                      try simp only [Act.put, List.getElem_toArray, List.getElem_cons_zero, List.getElem_cons_succ, List.setIfInBounds_toArray, List.set_cons_zero, List.set_cons_succ]
                      refine wpAnyH_take (i := 2) (v := ?_) rfl (by kernel_rfl) (by kernel_rfl) (by kernel_rfl) (fun _ _ _ h => h) (Or.inl ⟨by rfl, ?_⟩) hHeld ?_
                      rotate_left
                      · intro w' hSw; obtain ⟨c0, c1, c2, c3, c4, c5, c6⟩ := hSw.2.1; obtain ⟨d0, d1, d2, d3, d4, d5, d6⟩ := hSw.2.2; go_simp; first | done | with_reducible rfl | rfl
                      try simp only [Act.put, List.getElem_toArray, List.getElem_cons_zero, List.getElem_cons_succ, List.setIfInBounds_toArray, List.set_cons_zero, List.set_cons_succ]
                      refine wpAnyH_take (i := 3) (v := ?_) rfl (by kernel_rfl) (by kernel_rfl) (by kernel_rfl) (fun _ _ _ h => h) (Or.inl ⟨by rfl, ?_⟩) hHeld ?_
                      rotate_left
                      · intro w' hSw; obtain ⟨c0, c1, c2, c3, c4, c5, c6⟩ := hSw.2.1; obtain ⟨d0, d1, d2, d3, d4, d5, d6⟩ := hSw.2.2; go_simp; first | done | with_reducible rfl | rfl
                      try simp only [Act.put, List.getElem_toArray, List.getElem_cons_zero, List.getElem_cons_succ, List.setIfInBounds_toArray, List.set_cons_zero, List.set_cons_succ]
                      refine wpAnyH_take (i := 4) (v := ?_) rfl (by kernel_rfl) (by kernel_rfl) (by kernel_rfl) (fun _ _ _ h => h) (Or.inl ⟨by rfl, ?_⟩) hHeld ?_
                      rotate_left
                      · intro w' hSw; obtain ⟨c0, c1, c2, c3, c4, c5, c6⟩ := hSw.2.1; obtain ⟨d0, d1, d2, d3, d4, d5, d6⟩ := hSw.2.2; go_simp; first | done | with_reducible rfl | rfl
                      try simp only [Act.put, List.getElem_toArray, List.getElem_cons_zero, List.getElem_cons_succ, List.setIfInBounds_toArray, List.set_cons_zero, List.set_cons_succ]
                      refine wpAnyH_take (i := 5) (v := ?_) rfl (by kernel_rfl) (by kernel_rfl) (by kernel_rfl) (fun _ _ _ h => h) (Or.inl ⟨by rfl, ?_⟩) hHeld ?_
                      rotate_left
                      · intro w' hSw; obtain ⟨c0, c1, c2, c3, c4, c5, c6⟩ := hSw.2.1; obtain ⟨d0, d1, d2, d3, d4, d5, d6⟩ := hSw.2.2; go_simp; first | done | with_reducible rfl | rfl
                      try simp only [Act.put, List.getElem_toArray, List.getElem_cons_zero, List.getElem_cons_succ, List.setIfInBounds_toArray, List.set_cons_zero, List.set_cons_succ]
                      refine wpAnyH_take (i := 6) (v := ?_) rfl (by kernel_rfl) (by kernel_rfl) (by kernel_rfl) (fun _ _ _ h => h) (Or.inl ⟨by rfl, ?_⟩) hHeld ?_
                      rotate_left
                      · intro w' hSw; obtain ⟨c0, c1, c2, c3, c4, c5, c6⟩ := hSw.2.1; obtain ⟨d0, d1, d2, d3, d4, d5, d6⟩ := hSw.2.2; go_simp; first | done | with_reducible rfl | rfl
                      try simp only [Act.put, List.getElem_toArray, List.getElem_cons_zero, List.getElem_cons_succ, List.setIfInBounds_toArray, List.set_cons_zero, List.set_cons_succ]
                      refine wpAnyH_take (i := 7) (v := ?_) rfl (by kernel_rfl) (by kernel_rfl) (by kernel_rfl) (fun _ _ _ h => h) (Or.inl ⟨by rfl, ?_⟩) hHeld ?_
                      rotate_left
                      · intro w' hSw; obtain ⟨c0, c1, c2, c3, c4, c5, c6⟩ := hSw.2.1; obtain ⟨d0, d1, d2, d3, d4, d5, d6⟩ := hSw.2.2; go_simp; first | done | with_reducible rfl | rfl
                      try simp only [Act.put, List.getElem_toArray, List.getElem_cons_zero, List.getElem_cons_succ, List.setIfInBounds_toArray, List.set_cons_zero, List.set_cons_succ]
                      refine wpAnyH_take (i := 8) (v := ?_) rfl (by kernel_rfl) (by kernel_rfl) (by kernel_rfl) (fun _ _ _ h => h) (Or.inl ⟨by rfl, ?_⟩) hHeld ?_
                      rotate_left
                      · intro w' hSw; obtain ⟨c0, c1, c2, c3, c4, c5, c6⟩ := hSw.2.1; obtain ⟨d0, d1, d2, d3, d4, d5, d6⟩ := hSw.2.2; go_simp; first | done | with_reducible rfl | rfl
                      try simp only [Act.put, List.getElem_toArray, List.getElem_cons_zero, List.getElem_cons_succ, List.setIfInBounds_toArray, List.set_cons_zero, List.set_cons_succ]
                      refine wpAnyH_take (i := 9) (v := ?_) rfl (by kernel_rfl) (by kernel_rfl) (by kernel_rfl) (fun _ _ _ h => h) (Or.inl ⟨by rfl, ?_⟩) hHeld ?_
                      rotate_left
                      · intro w' hSw; obtain ⟨c0, c1, c2, c3, c4, c5, c6⟩ := hSw.2.1; obtain ⟨d0, d1, d2, d3, d4, d5, d6⟩ := hSw.2.2; go_simp; first | done | with_reducible rfl | rfl
                      try simp only [Act.put, List.getElem_toArray, List.getElem_cons_zero, List.getElem_cons_succ, List.setIfInBounds_toArray, List.set_cons_zero, List.set_cons_succ]
                      refine wpAnyH_take (i := 10) (v := ?_) rfl (by kernel_rfl) (by kernel_rfl) (by kernel_rfl) (fun _ _ _ h => h) (Or.inl ⟨by rfl, ?_⟩) hHeld ?_
                      rotate_left
                      · intro w' hSw; obtain ⟨c0, c1, c2, c3, c4, c5, c6⟩ := hSw.2.1; obtain ⟨d0, d1, d2, d3, d4, d5, d6⟩ := hSw.2.2; go_simp; first | done | with_reducible rfl | rfl
                      try simp only [Act.put, List.getElem_toArray, List.getElem_cons_zero, List.getElem_cons_succ, List.setIfInBounds_toArray, List.set_cons_zero, List.set_cons_succ]
                      refine wpAnyH_take (i := 11) (v := ?_) rfl (by kernel_rfl) (by kernel_rfl) (by kernel_rfl) (fun _ _ _ h => h) (Or.inl ⟨by rfl, ?_⟩) hHeld ?_
                      rotate_left
                      · intro w' hSw; obtain ⟨c0, c1, c2, c3, c4, c5, c6⟩ := hSw.2.1; obtain ⟨d0, d1, d2, d3, d4, d5, d6⟩ := hSw.2.2; go_simp; first | done | with_reducible rfl | rfl
                      try simp only [Act.put, List.getElem_toArray, List.getElem_cons_zero, List.getElem_cons_succ, List.setIfInBounds_toArray, List.set_cons_zero, List.set_cons_succ]
                      refine wpAnyH_take (i := 12) (v := ?_) rfl (by kernel_rfl) (by kernel_rfl) (by kernel_rfl) (fun _ _ _ h => h) (Or.inl ⟨by rfl, ?_⟩) hHeld ?_
                      rotate_left
                      · intro w' hSw; obtain ⟨c0, c1, c2, c3, c4, c5, c6⟩ := hSw.2.1; obtain ⟨d0, d1, d2, d3, d4, d5, d6⟩ := hSw.2.2; go_simp; first | done | with_reducible rfl | rfl
                      try simp only [Act.put, List.getElem_toArray, List.getElem_cons_zero, List.getElem_cons_succ, List.setIfInBounds_toArray, List.set_cons_zero, List.set_cons_succ]
                      refine wpAnyH_take (i := 13) (v := ?_) rfl (by kernel_rfl) (by kernel_rfl) (by kernel_rfl) (fun _ _ _ h => h) (Or.inl ⟨by rfl, ?_⟩) hHeld ?_
                      rotate_left
                      · intro w' hSw; obtain ⟨c0, c1, c2, c3, c4, c5, c6⟩ := hSw.2.1; obtain ⟨d0, d1, d2, d3, d4, d5, d6⟩ := hSw.2.2; go_simp; first | done | with_reducible rfl | rfl
                      try simp only [Act.put, List.getElem_toArray, List.getElem_cons_zero, List.getElem_cons_succ, List.setIfInBounds_toArray, List.set_cons_zero, List.set_cons_succ]
                      refine wpAnyH_take (i := 14) (v := ?_) rfl (by kernel_rfl) (by kernel_rfl) (by kernel_rfl) (fun _ _ _ h => h) (Or.inl ⟨by rfl, ?_⟩) hHeld ?_
                      rotate_left
                      · intro w' hSw; obtain ⟨c0, c1, c2, c3, c4, c5, c6⟩ := hSw.2.1; obtain ⟨d0, d1, d2, d3, d4, d5, d6⟩ := hSw.2.2; go_simp; first | done | with_reducible rfl | rfl
                      try simp only [Act.put, List.getElem_toArray, List.getElem_cons_zero, List.getElem_cons_succ, List.setIfInBounds_toArray, List.set_cons_zero, List.set_cons_succ]
                      refine wpAnyH_done (by kernel_rfl) ?_ _
                      go_wp2_with fail
                      go_roundw
                      case rel =>
                        exact ⟨k + 1, false, by go_num, rfl, HLT.out, Lib.hid (by rw [HES.out]; simp only [Bool.false_eq_true, false_iff, not_and]; intro _ h; injection h with h0 h1 h2 h3 h4 h5; exact HNE.out h2), Lib.hid HB.out.drew⟩
                      case measure => simp [intOf]; omega
                  · have hne : (x1 == y1) = false := by simpa using e1
                    have HNE := Lib.hid e1
                    clear e1
                    refine wp_region_held_drew (S := fun w' => Below w5.heap.size w5 w' ∧ SCl w' g1 (o1 + k * 7) ⟨⟨x0, x1, x2, x3, x4, x5⟩, x6⟩ ∧ SCl w' g2 (o2 + k * 7) ⟨⟨x0, y1, y2, y3, y4, y5⟩, y6⟩) (by kernel_rfl) (⟨HB.out.drew, HCX.out.later (Below.refl _ _).drew, HCY.out.later (Below.refl _ _).drew⟩) (fun hHeld => ?_)
                    refine wpAnyH_take (i := 0) (v := ?_) rfl (by kernel_rfl) (by kernel_rfl) (by kernel_rfl) (fun _ _ _ h => h) (Or.inl ⟨by rfl, ?_⟩) hHeld ?_
                    rotate_left
                    · intro w' hSw; obtain ⟨c0, c1, c2, c3, c4, c5, c6⟩ := hSw.2.1; obtain ⟨d0, d1, d2, d3, d4, d5, d6⟩ := hSw.2.2; go_simp; first | done | with_reducible rfl | rfl
                    try simp only [Act.put, List.getElem_toArray, List.getElem_cons_zero, List.setIfInBounds_toArray, List.set_cons_zero, List.set_cons_succ]
                    refine wpAnyH_take (i := 1) (v := ?_) rfl (by kernel_rfl) (by kernel_rfl) (by kernel_rfl) (fun _ _ _ h => h) (Or.inl ⟨by rfl, ?_⟩) hHeld ?_
                    rotate_left
                    · intro w' hSw; obtain ⟨c0, c1, c2, c3, c4, c5, c6⟩ := hSw.2.1; obtain ⟨d0, d1, d2, d3, d4, d5, d6⟩ := hSw.2.2; go_simp; first | done | with_reducible rfl | rfl
                    try simp only [Act.put, List.getElem_toArray, List.getElem_cons_zero, List.getElem_cons_succ, List.setIfInBounds_toArray, List.set_cons_zero, List.set_cons_succ]
                    refine wpAnyH_take (i := 2) (v := ?_) rfl (by kernel_rfl) (by kernel_rfl) (by kernel_rfl) (fun _ _ _ h => h) (Or.inl ⟨by rfl, ?_⟩) hHeld ?_
                    rotate_left
                    · intro w' hSw; obtain ⟨c0, c1, c2, c3, c4, c5, c6⟩ := hSw.2.1; obtain ⟨d0, d1, d2, d3, d4, d5, d6⟩ := hSw.2.2; go_simp; first | done | with_reducible rfl | rfl
                    try simp only [Act.put, List.getElem_toArray, List.getElem_cons_zero, List.getElem_cons_succ, List.setIfInBounds_toArray, List.set_cons_zero, List.set_cons_succ]
                    refine wpAnyH_take (i := 3) (v := ?_) rfl (by kernel_rfl) (by kernel_rfl) (by kernel_rfl) (fun _ _ _ h => h) (Or.inl ⟨by rfl, ?_⟩) hHeld ?_
                    rotate_left
                    · intro w' hSw; obtain ⟨c0, c1, c2, c3, c4, c5, c6⟩ := hSw.2.1; obtain ⟨d0, d1, d2, d3, d4, d5, d6⟩ := hSw.2.2; go_simp; first | done | with_reducible rfl | rfl
                    try simp only [Act.put, List.getElem_toArray, List.getElem_cons_zero, List.getElem_cons_succ, List.setIfInBounds_toArray, List.set_cons_zero, List.set_cons_succ]
                    refine wpAnyH_take (i := 4) (v := ?_) rfl (by kernel_rfl) (by kernel_rfl) (by kernel_rfl) (fun _ _ _ h => h) (Or.inl ⟨by rfl, ?_⟩) hHeld ?_
                    rotate_left
                    · intro w' hSw; obtain ⟨c0, c1, c2, c3, c4, c5, c6⟩ := hSw.2.1; obtain ⟨d0, d1, d2, d3, d4, d5, d6⟩ := hSw.2.2; go_simp; first | done | with_reducible rfl | rfl
                    try simp only [Act.put, List.getElem_toArray, List.getElem_cons_zero, List.getElem_cons_succ, List.setIfInBounds_toArray, List.set_cons_zero, List.set_cons_succ]
                    refine wpAnyH_take (i := 5) (v := ?_) rfl (by kernel_rfl) (by kernel_rfl) (by kernel_rfl) (fun _ _ _ h => h) (Or.inl ⟨by rfl, ?_⟩) hHeld ?_
                    rotate_left
                    · intro w' hSw; obtain ⟨c0, c1, c2, c3, c4, c5, c6⟩ := hSw.2.1; obtain ⟨d0, d1, d2, d3, d4, d5, d6⟩ := hSw.2.2; go_simp; first | done | with_reducible rfl | rfl
                    try simp only [Act.put, List.getElem_toArray, List.getElem_cons_zero, List.getElem_cons_succ, List.setIfInBounds_toArray, List.set_cons_zero, List.set_cons_succ]
                    refine wpAnyH_take (i := 6) (v := ?_) rfl (by kernel_rfl) (by kernel_rfl) (by kernel_rfl) (fun _ _ _ h => h) (Or.inl ⟨by rfl, ?_⟩) hHeld ?_
                    rotate_left
                    · intro w' hSw; obtain ⟨c0, c1, c2, c3, c4, c5, c6⟩ := hSw.2.1; obtain ⟨d0, d1, d2, d3, d4, d5, d6⟩ := hSw.2.2; go_simp; first | done | with_reducible rfl | rfl
                    try simp only [Act.put, List.getElem_toArray, List.getElem_cons_zero, List.getElem_cons_succ, List.setIfInBounds_toArray, List.set_cons_zero, List.set_cons_succ]
                    refine wpAnyH_take (i := 7) (v := ?_) rfl (by kernel_rfl) (by kernel_rfl) (by kernel_rfl) (fun _ _ _ h => h) (Or.inl ⟨by rfl, ?_⟩) hHeld ?_
                    rotate_left
                    · intro w' hSw; obtain ⟨c0, c1, c2, c3, c4, c5, c6⟩ := hSw.2.1; obtain ⟨d0, d1, d2, d3, d4, d5, d6⟩ := hSw.2.2; go_simp; first | done | with_reducible rfl | rfl
                    try simp only [Act.put, List.getElem_toArray, List.getElem_cons_zero, List.getElem_cons_succ, List.setIfInBounds_toArray, List.set_cons_zero, List.set_cons_succ]
                    refine wpAnyH_take (i := 8) (v := ?_) rfl (by kernel_rfl) (by kernel_rfl) (by kernel_rfl) (fun _ _ _ h => h) (Or.inl ⟨by rfl, ?_⟩) hHeld ?_
                    rotate_left
                    · intro w' hSw; obtain ⟨c0, c1, c2, c3, c4, c5, c6⟩ := hSw.2.1; obtain ⟨d0, d1, d2, d3, d4, d5, d6⟩ := hSw.2.2; go_simp; first | done | with_reducible rfl | rfl
                    try simp only [Act.put, List.getElem_toArray, List.getElem_cons_zero, List.getElem_cons_succ, List.setIfInBounds_toArray, List.set_cons_zero, List.set_cons_succ]
                    refine wpAnyH_take (i := 9) (v := ?_) rfl (by kernel_rfl) (by kernel_rfl) (by kernel_rfl) (fun _ _ _ h => h) (Or.inl ⟨by rfl, ?_⟩) hHeld ?_
                    rotate_left
                    · intro w' hSw; obtain ⟨c0, c1, c2, c3, c4, c5, c6⟩ := hSw.2.1; obtain ⟨d0, d1, d2, d3, d4, d5, d6⟩ := hSw.2.2; go_simp; first | done | with_reducible rfl | rfl
                    try simp only [Act.put, List.getElem_toArray, List.getElem_cons_zero, List.getElem_cons_succ, List.setIfInBounds_toArray, List.set_cons_zero, List.set_cons_succ]
                    refine wpAnyH_take (i := 10) (v := ?_) rfl (by kernel_rfl) (by kernel_rfl) (by kernel_rfl) (fun _ _ _ h => h) (Or.inl ⟨by rfl, ?_⟩) hHeld ?_
                    rotate_left
                    · intro w' hSw; obtain ⟨c0, c1, c2, c3, c4, c5, c6⟩ := hSw.2.1; obtain ⟨d0, d1, d2, d3, d4, d5, d6⟩ := hSw.2.2; go_simp; first | done | with_reducible rfl | rfl
                    try simp only [Act.put, List.getElem_toArray, List.getElem_cons_zero, List.getElem_cons_succ, List.setIfInBounds_toArray, List.set_cons_zero, List.set_cons_succ]
                    refine wpAnyH_take (i := 11) (v := ?_) rfl (by kernel_rfl) (by kernel_rfl) (by kernel_rfl) (fun _ _ _ h => h) (Or.inl ⟨by rfl, ?_⟩) hHeld ?_
                    rotate_left
                    · intro w' hSw; obtain ⟨c0, c1, c2, c3, c4, c5, c6⟩ := hSw.2.1; obtain ⟨d0, d1, d2, d3, d4, d5, d6⟩ := hSw.2.2; go_simp; first | done | with_reducible rfl | rfl
                    try simp only [Act.put, List.getElem_toArray, List.getElem_cons_zero, List.getElem_cons_succ, List.setIfInBounds_toArray, List.set_cons_zero, List.set_cons_succ]
                    refine wpAnyH_take (i := 12) (v := ?_) rfl (by kernel_rfl) (by kernel_rfl) (by kernel_rfl) (fun _ _ _ h => h) (Or.inl ⟨by rfl, ?_⟩) hHeld ?_
                    rotate_left
                    · intro w' hSw; obtain ⟨c0, c1, c2, c3, c4, c5, c6⟩ := hSw.2.1; obtain ⟨d0, d1, d2, d3, d4, d5, d6⟩ := hSw.2.2; go_simp; first | done | with_reducible rfl | rfl
                    try simp only [Act.put, List.getElem_toArray, List.getElem_cons_zero, List.getElem_cons_succ, List.setIfInBounds_toArray, List.set_cons_zero, List.set_cons_succ]
                    refine wpAnyH_take (i := 13) (v := ?_) rfl (by kernel_rfl) (by kernel_rfl) (by kernel_rfl) (fun _ _ _ h => h) (Or.inl ⟨by rfl, ?_⟩) hHeld ?_
                    rotate_left
                    · intro w' hSw; obtain ⟨c0, c1, c2, c3, c4, c5, c6⟩ := hSw.2.1; obtain ⟨d0, d1, d2, d3, d4, d5, d6⟩ := hSw.2.2; go_simp; first | done | with_reducible rfl | rfl
                    try simp only [Act.put, List.getElem_toArray, List.getElem_cons_zero, List.getElem_cons_succ, List.setIfInBounds_toArray, List.set_cons_zero, List.set_cons_succ]
                    refine wpAnyH_take (i := 14) (v := ?_) rfl (by kernel_rfl) (by kernel_rfl) (by kernel_rfl) (fun _ _ _ h => h) (Or.inl ⟨by rfl, ?_⟩) hHeld ?_
                    rotate_left
                    · intro w' hSw; obtain ⟨c0, c1, c2, c3, c4, c5, c6⟩ := hSw.2.1; obtain ⟨d0, d1, d2, d3, d4, d5, d6⟩ := hSw.2.2; go_simp; first | done | with_reducible rfl | rfl
                    try simp only [Act.put, List.getElem_toArray, List.getElem_cons_zero, List.getElem_cons_succ, List.setIfInBounds_toArray, List.set_cons_zero, List.set_cons_succ]
                    refine wpAnyH_done (by kernel_rfl) ?_ _
                    go_wp2_with fail
                    go_roundw
                    case rel =>
                      exact ⟨k + 1, false, by go_num, rfl, HLT.out, Lib.hid (by rw [HES.out]; simp only [Bool.false_eq_true, false_iff, not_and]; intro _ h; injection h with h0 h1 h2 h3 h4 h5; exact HNE.out h1), Lib.hid HB.out.drew⟩
                    case measure => simp [intOf]; omega
                · have hne : (x0 == y0) = false := by simpa using e0
                  have HNE := Lib.hid e0
                  clear e0
                  refine wp_region_held_drew (S := fun w' => Below w5.heap.size w5 w' ∧ SCl w' g1 (o1 + k * 7) ⟨⟨x0, x1, x2, x3, x4, x5⟩, x6⟩ ∧ SCl w' g2 (o2 + k * 7) ⟨⟨y0, y1, y2, y3, y4, y5⟩, y6⟩) (by kernel_rfl) (⟨HB.out.drew, HCX.out.later (Below.refl _ _).drew, HCY.out.later (Below.refl _ _).drew⟩) (fun hHeld => ?_)
                  refine wpAnyH_take (i := 0) (v := ?_) rfl (by kernel_rfl) (by kernel_rfl) (by kernel_rfl) (fun _ _ _ h => h) (Or.inl ⟨by rfl, ?_⟩) hHeld ?_
                  rotate_left
                  · intro w' hSw; obtain ⟨c0, c1, c2, c3, c4, c5, c6⟩ := hSw.2.1; obtain ⟨d0, d1, d2, d3, d4, d5, d6⟩ := hSw.2.2; go_simp; first | done | with_reducible rfl | rfl
                  try simp only [Act.put, List.getElem_toArray, List.getElem_cons_zero, List.setIfInBounds_toArray, List.set_cons_zero, List.set_cons_succ]
                  refine wpAnyH_take (i := 1) (v := ?_) rfl (by kernel_rfl) (by kernel_rfl) (by kernel_rfl) (fun _ _ _ h => h) (Or.inl ⟨by rfl, ?_⟩) hHeld ?_
                  rotate_left
                  · intro w' hSw; obtain ⟨c0, c1, c2, c3, c4, c5, c6⟩ := hSw.2.1; obtain ⟨d0, d1, d2, d3, d4, d5, d6⟩ := hSw.2.2; go_simp; first | done | with_reducible rfl | rfl
                  try simp only [Act.put, List.getElem_toArray, List.getElem_cons_zero, List.getElem_cons_succ, List.setIfInBounds_toArray, List.set_cons_zero, List.set_cons_succ]
                  refine wpAnyH_take (i := 2) (v := ?_) rfl (by kernel_rfl) (by kernel_rfl) (by kernel_rfl) (fun _ _ _ h => h) (Or.inl ⟨by rfl, ?_⟩) hHeld ?_
                  rotate_left
                  · intro w' hSw; obtain ⟨c0, c1, c2, c3, c4, c5, c6⟩ := hSw.2.1; obtain ⟨d0, d1, d2, d3, d4, d5, d6⟩ := hSw.2.2; go_simp; first | done | with_reducible rfl | rfl
                  try simp only [Act.put, List.getElem_toArray, List.getElem_cons_zero, List.getElem_cons_succ, List.setIfInBounds_toArray, List.set_cons_zero, List.set_cons_succ]
                  refine wpAnyH_take (i := 3) (v := ?_) rfl (by kernel_rfl) (by kernel_rfl) (by kernel_rfl) (fun _ _ _ h => h) (Or.inl ⟨by rfl, ?_⟩) hHeld ?_
                  rotate_left
                  · intro w' hSw; obtain ⟨c0, c1, c2, c3, c4, c5, c6⟩ := hSw.2.1; obtain ⟨d0, d1, d2, d3, d4, d5, d6⟩ := hSw.2.2; go_simp; first | done | with_reducible rfl | rfl
                  try simp only [Act.put, List.getElem_toArray, List.getElem_cons_zero, List.getElem_cons_succ, List.setIfInBounds_toArray, List.set_cons_zero, List.set_cons_succ]
                  refine wpAnyH_take (i := 4) (v := ?_) rfl (by kernel_rfl) (by kernel_rfl) (by kernel_rfl) (fun _ _ _ h => h) (Or.inl ⟨by rfl, ?_⟩) hHeld ?_
                  rotate_left
                  · intro w' hSw; obtain ⟨c0, c1, c2, c3, c4, c5, c6⟩ := hSw.2.1; obtain ⟨d0, d1, d2, d3, d4, d5, d6⟩ := hSw.2.2; go_simp; first | done | with_reducible rfl | rfl
                  try simp only [Act.put, List.getElem_toArray, List.getElem_cons_zero, List.getElem_cons_succ, List.setIfInBounds_toArray, List.set_cons_zero, List.set_cons_succ]
                  refine wpAnyH_take (i := 5) (v := ?_) rfl (by kernel_rfl) (by kernel_rfl) (by kernel_rfl) (fun _ _ _ h => h) (Or.inl ⟨by rfl, ?_⟩) hHeld ?_
                  rotate_left
                  · intro w' hSw; obtain ⟨c0, c1, c2, c3, c4, c5, c6⟩ := hSw.2.1; obtain ⟨d0, d1, d2, d3, d4, d5, d6⟩ := hSw.2.2; go_simp; first | done | with_reducible rfl | rfl
                  try simp only [Act.put, List.getElem_toArray, List.getElem_cons_zero, List.getElem_cons_succ, List.setIfInBounds_toArray, List.set_cons_zero, List.set_cons_succ]
                  refine wpAnyH_take (i := 6) (v := ?_) rfl (by kernel_rfl) (by kernel_rfl) (by kernel_rfl) (fun _ _ _ h => h) (Or.inl ⟨by rfl, ?_⟩) hHeld ?_
                  rotate_left
                  · intro w' hSw; obtain ⟨c0, c1, c2, c3, c4, c5, c6⟩ := hSw.2.1; obtain ⟨d0, d1, d2, d3, d4, d5, d6⟩ := hSw.2.2; go_simp; first | done | with_reducible rfl | rfl
                  try simp only [Act.put, List.getElem_toArray, List.getElem_cons_zero, List.getElem_cons_succ, List.setIfInBounds_toArray, List.set_cons_zero, List.set_cons_succ]
                  refine wpAnyH_take (i := 7) (v := ?_) rfl (by kernel_rfl) (by kernel_rfl) (by kernel_rfl) (fun _ _ _ h => h) (Or.inl ⟨by rfl, ?_⟩) hHeld ?_
                  rotate_left
                  · intro w' hSw; obtain ⟨c0, c1, c2, c3, c4, c5, c6⟩ := hSw.2.1; obtain ⟨d0, d1, d2, d3, d4, d5, d6⟩ := hSw.2.2; go_simp; first | done | with_reducible rfl | rfl
                  try simp only [Act.put, List.getElem_toArray, List.getElem_cons_zero, List.getElem_cons_succ, List.setIfInBounds_toArray, List.set_cons_zero, List.set_cons_succ]
                  refine wpAnyH_take (i := 8) (v := ?_) rfl (by kernel_rfl) (by kernel_rfl) (by kernel_rfl) (fun _ _ _ h => h) (Or.inl ⟨by rfl, ?_⟩) hHeld ?_
                  rotate_left
                  · intro w' hSw; obtain ⟨c0, c1, c2, c3, c4, c5, c6⟩ := hSw.2.1; obtain ⟨d0, d1, d2, d3, d4, d5, d6⟩ := hSw.2.2; go_simp; first | done | with_reducible rfl | rfl
                  try simp only [Act.put, List.getElem_toArray, List.getElem_cons_zero, List.getElem_cons_succ, List.setIfInBounds_toArray, List.set_cons_zero, List.set_cons_succ]
                  refine wpAnyH_take (i := 9) (v := ?_) rfl (by kernel_rfl) (by kernel_rfl) (by kernel_rfl) (fun _ _ _ h => h) (Or.inl ⟨by rfl, ?_⟩) hHeld ?_
                  rotate_left
                  · intro w' hSw; obtain ⟨c0, c1, c2, c3, c4, c5, c6⟩ := hSw.2.1; obtain ⟨d0, d1, d2, d3, d4, d5, d6⟩ := hSw.2.2; go_simp; first | done | with_reducible rfl | rfl
                  try simp only [Act.put, List.getElem_toArray, List.getElem_cons_zero, List.getElem_cons_succ, List.setIfInBounds_toArray, List.set_cons_zero, List.set_cons_succ]
                  refine wpAnyH_take (i := 10) (v := ?_) rfl (by kernel_rfl) (by kernel_rfl) (by kernel_rfl) (fun _ _ _ h => h) (Or.inl ⟨by rfl, ?_⟩) hHeld ?_
                  rotate_left
                  · intro w' hSw; obtain ⟨c0, c1, c2, c3, c4, c5, c6⟩ := hSw.2.1; obtain ⟨d0, d1, d2, d3, d4, d5, d6⟩ := hSw.2.2; go_simp; first | done | with_reducible rfl | rfl
                  try simp only [Act.put, List.getElem_toArray, List.getElem_cons_zero, List.getElem_cons_succ, List.setIfInBounds_toArray, List.set_cons_zero, List.set_cons_succ]
                  refine wpAnyH_take (i := 11) (v := ?_) rfl (by kernel_rfl) (by kernel_rfl) (by kernel_rfl) (fun _ _ _ h => h) (Or.inl ⟨by rfl, ?_⟩) hHeld ?_
                  rotate_left
                  · intro w' hSw; obtain ⟨c0, c1, c2, c3, c4, c5, c6⟩ := hSw.2.1; obtain ⟨d0, d1, d2, d3, d4, d5, d6⟩ := hSw.2.2; go_simp; first | done | with_reducible rfl | rfl
                  try simp only [Act.put, List.getElem_toArray, List.getElem_cons_zero, List.getElem_cons_succ, List.setIfInBounds_toArray, List.set_cons_zero, List.set_cons_succ]
                  refine wpAnyH_take (i := 12) (v := ?_) rfl (by kernel_rfl) (by kernel_rfl) (by kernel_rfl) (fun _ _ _ h => h) (Or.inl ⟨by rfl, ?_⟩) hHeld ?_
                  rotate_left
                  · intro w' hSw; obtain ⟨c0, c1, c2, c3, c4, c5, c6⟩ := hSw.2.1; obtain ⟨d0, d1, d2, d3, d4, d5, d6⟩ := hSw.2.2; go_simp; first | done | with_reducible rfl | rfl
                  try simp only [Act.put, List.getElem_toArray, List.getElem_cons_zero, List.getElem_cons_succ, List.setIfInBounds_toArray, List.set_cons_zero, List.set_cons_succ]
                  refine wpAnyH_take (i := 13) (v := ?_) rfl (by kernel_rfl) (by kernel_rfl) (by kernel_rfl) (fun _ _ _ h => h) (Or.inl ⟨by rfl, ?_⟩) hHeld ?_
                  rotate_left
                  · intro w' hSw; obtain ⟨c0, c1, c2, c3, c4, c5, c6⟩ := hSw.2.1; obtain ⟨d0, d1, d2, d3, d4, d5, d6⟩ := hSw.2.2; go_simp; first | done | with_reducible rfl | rfl
                  try simp only [Act.put, List.getElem_toArray, List.getElem_cons_zero, List.getElem_cons_succ, List.setIfInBounds_toArray, List.set_cons_zero, List.set_cons_succ]
                  refine wpAnyH_take (i := 14) (v := ?_) rfl (by kernel_rfl) (by kernel_rfl) (by kernel_rfl) (fun _ _ _ h => h) (Or.inl ⟨by rfl, ?_⟩) hHeld ?_
                  rotate_left
                  · intro w' hSw; obtain ⟨c0, c1, c2, c3, c4, c5, c6⟩ := hSw.2.1; obtain ⟨d0, d1, d2, d3, d4, d5, d6⟩ := hSw.2.2; go_simp; first | done | with_reducible rfl | rfl
                  try simp only [Act.put, List.getElem_toArray, List.getElem_cons_zero, List.getElem_cons_succ, List.setIfInBounds_toArray, List.set_cons_zero, List.set_cons_succ]
                  refine wpAnyH_done (by kernel_rfl) ?_ _
                  go_wp2_with fail
                  go_roundw
                  case rel =>
                    exact ⟨k + 1, false, by go_num, rfl, HLT.out, Lib.hid (by rw [HES.out]; simp only [Bool.false_eq_true, false_iff, not_and]; intro _ h; injection h with h0 h1 h2 h3 h4 h5; exact HNE.out h0), Lib.hid HB.out.drew⟩
                  case measure => simp [intOf]; omega
            · have hkN : k = NR := by omega
              have hlt2 : ¬ (k : Int) < (NR : Int) := by omega
              rw [hkN] at HE
              obtain ⟨K, hK⟩ : ∃ K, NR = K + 1 := ⟨NR - 1, by have := HN0.out; omega⟩
              obtain ⟨x, hxs⟩ : ∃ x, m[K]? = some x := ⟨m[K]'(by rw [HNm.out]; omega), List.getElem?_eq_getElem _⟩
              obtain ⟨y, hys⟩ : ∃ y, n[K]? = some y := ⟨n[K]'(by rw [HNn.out]; omega), List.getElem?_eq_getElem _⟩
              have HGX := Lib.hid (HGM.out x (List.mem_of_getElem? hxs))
              have HGY := Lib.hid (HGN.out y (List.mem_of_getElem? hys))
              have HUr : Hid (SSl wr (.slice ua NR uc) m) := Lib.hid (HUm.out.later HB.out)
              have HYr : Hid (SSl wr (.slice ya NR yc) n) := Lib.hid (HYn.out.later HB.out)
              obtain ⟨g1, o1, c1, ev1, hc1⟩ := HUr.out.get hxs
              rw [HNm.out] at ev1
              injection ev1 with e1 e2 e3
              subst e1 e3
              clear e2
              obtain ⟨g2, o2, c2, ev2, hc2⟩ := HYr.out.get hys
              rw [HNn.out] at ev2
              injection ev2 with e1 e2 e3
              subst e1 e3
              clear e2
              have HCX : Hid (SCl wr g1 (o1 + K * 7) x) := Lib.hid hc1
              have HCY : Hid (SCl wr g2 (o2 + K * 7) y) := Lib.hid hc2
              have HSE : Hid (s = true → x.h = y.h) := Lib.hid (fun e => HE.out.1 e K (by omega) x y hxs hys)
              have HDN : Hid (¬ ClB (bytesOf m ++ bytesOf n) → x.h.hash = y.h.hash → s = true) := Lib.hid (fun hc he => HE.out.2 (fun i hi a b ha hb => down HGM.out HGN.out HLM.out HLN.out hc K x y hxs hys he i (by omega) a b ha hb))
              have i4 : IntKind.i64.wrap ((NR : Int) - 1) = (K : Int) := by rw [IntWalk.i64_in _ (by omega)]; omega
              have i5 : (K : Int) < (NR : Int) := by omega
              have i6 : (0 : Int) ≤ (K : Int) := by omega
              have KH1 := Lib.hid (fun W (hS : Start W) => phash_prog sum_ok x.h 32 HGX.out.1 (by decide) W hS)
              have KH2 := Lib.hid (fun W (hS : Start W) => phash_prog sum_ok y.h 32 HGY.out.1 (by decide) W hS)
              unfold hdV at KH1 KH2
              have HBW : Hid (Below w.heap.size w wr) := Lib.hid (HB5.out.trans (HB.out.mono HB5.out.size))
              obtain ⟨X, hX⟩ : ∃ X, x.h.hash = X := ⟨_, rfl⟩
              obtain ⟨Y, hY⟩ : ∃ Y, y.h.hash = Y := ⟨_, rfl⟩
              have HXY : Hid (s = true → X = Y) := Lib.hid (fun e => by rw [← hX, ← hY, HSE.out e])
              rw [hX, hY] at HDN
              rw [hX] at KH1
              rw [hY] at KH2
              clear hxs hys hc1 hc2 hk hkN hK hX hY
              go_upto_region 13 with fail
              have HCXD : Hid (SCl wr.drew g1 (o1 + K * 7) x) := Lib.hid (HCX.out.later (Below.refl _ _).drew)
              have HCYD : Hid (SCl wr.drew g2 (o2 + K * 7) y) := Lib.hid (HCY.out.later (Below.refl _ _).drew)
              refine wp_region_held_drew (S := fun w' => Below w5.heap.size w5 w' ∧ SCl w' g1 (o1 + K * 7) x ∧ SCl w' g2 (o2 + K * 7) y) (by kernel_rfl) (⟨HB.out.drew, HCXD.out, HCYD.out⟩) (fun hHeld => ?_)
              refine wpAnyH_take (i := 0) (v := ?_) rfl (by kernel_rfl) (by kernel_rfl) (by kernel_rfl) (fun _ _ _ h => h) (Or.inl ⟨by rfl, ?_⟩) hHeld ?_
              rotate_left
              · intro w' hSw; obtain ⟨c0, c1, c2, c3, c4, c5, c6⟩ := hSw.2.1; obtain ⟨d0, d1, d2, d3, d4, d5, d6⟩ := hSw.2.2; go_simp; first | done | with_reducible rfl | rfl
              try simp only [Act.put, List.getElem_toArray, List.getElem_cons_zero, List.setIfInBounds_toArray, List.set_cons_zero, List.set_cons_succ]
              refine wpAnyH_take (i := 1) (v := ?_) rfl (by kernel_rfl) (by kernel_rfl) (by kernel_rfl) (fun _ _ _ h => h) (Or.inl ⟨by rfl, ?_⟩) hHeld ?_
              rotate_left
              · intro w' hSw; obtain ⟨c0, c1, c2, c3, c4, c5, c6⟩ := hSw.2.1; obtain ⟨d0, d1, d2, d3, d4, d5, d6⟩ := hSw.2.2; go_simp; first | done | with_reducible rfl | rfl
              try simp only [Act.put, List.getElem_toArray, List.getElem_cons_zero, List.getElem_cons_succ, List.setIfInBounds_toArray, List.set_cons_zero, List.set_cons_succ]
              refine wpAnyH_take (i := 2) (v := ?_) rfl (by kernel_rfl) (by kernel_rfl) (by kernel_rfl) (fun _ _ _ h => h) (Or.inl ⟨by rfl, ?_⟩) hHeld ?_
              rotate_left
              · intro w' hSw; obtain ⟨c0, c1, c2, c3, c4, c5, c6⟩ := hSw.2.1; obtain ⟨d0, d1, d2, d3, d4, d5, d6⟩ := hSw.2.2; go_simp; first | done | with_reducible rfl | rfl
              try simp only [Act.put, List.getElem_toArray, List.getElem_cons_zero, List.getElem_cons_succ, List.setIfInBounds_toArray, List.set_cons_zero, List.set_cons_succ]
              refine wpAnyH_take (i := 3) (v := ?_) rfl (by kernel_rfl) (by kernel_rfl) (by kernel_rfl) (fun _ _ _ h => h) (Or.inl ⟨by rfl, ?_⟩) hHeld ?_
              rotate_left
              · intro w' hSw; obtain ⟨c0, c1, c2, c3, c4, c5, c6⟩ := hSw.2.1; obtain ⟨d0, d1, d2, d3, d4, d5, d6⟩ := hSw.2.2; go_simp; first | done | with_reducible rfl | rfl
              try simp only [Act.put, List.getElem_toArray, List.getElem_cons_zero, List.getElem_cons_succ, List.setIfInBounds_toArray, List.set_cons_zero, List.set_cons_succ]
              refine wpAnyH_take (i := 4) (v := ?_) rfl (by kernel_rfl) (by kernel_rfl) (by kernel_rfl) (fun _ _ _ h => h) (Or.inl ⟨by rfl, ?_⟩) hHeld ?_
              rotate_left
              · intro w' hSw; obtain ⟨c0, c1, c2, c3, c4, c5, c6⟩ := hSw.2.1; obtain ⟨d0, d1, d2, d3, d4, d5, d6⟩ := hSw.2.2; go_simp; first | done | with_reducible rfl | rfl
              try simp only [Act.put, List.getElem_toArray, List.getElem_cons_zero, List.getElem_cons_succ, List.setIfInBounds_toArray, List.set_cons_zero, List.set_cons_succ]
              refine wpAnyH_take (i := 5) (v := ?_) rfl (by kernel_rfl) (by kernel_rfl) (by kernel_rfl) (fun _ _ _ h => h) (Or.inl ⟨by rfl, ?_⟩) hHeld ?_
              rotate_left
              · intro w' hSw; obtain ⟨c0, c1, c2, c3, c4, c5, c6⟩ := hSw.2.1; obtain ⟨d0, d1, d2, d3, d4, d5, d6⟩ := hSw.2.2; go_simp; first | done | with_reducible rfl | rfl
              try simp only [Act.put, List.getElem_toArray, List.getElem_cons_zero, List.getElem_cons_succ, List.setIfInBounds_toArray, List.set_cons_zero, List.set_cons_succ]
              refine wpAnyH_take (i := 6) (v := ?_) rfl (by kernel_rfl) (by kernel_rfl) (by kernel_rfl) (fun _ _ _ h => h) (Or.inl ⟨by rfl, ?_⟩) hHeld ?_
              rotate_left
              · intro w' hSw; obtain ⟨c0, c1, c2, c3, c4, c5, c6⟩ := hSw.2.1; obtain ⟨d0, d1, d2, d3, d4, d5, d6⟩ := hSw.2.2; go_simp; first | done | with_reducible rfl | rfl
              try simp only [Act.put, List.getElem_toArray, List.getElem_cons_zero, List.getElem_cons_succ, List.setIfInBounds_toArray, List.set_cons_zero, List.set_cons_succ]
              refine wpAnyH_take (i := 8) (v := ?_) rfl (by kernel_rfl) (by kernel_rfl) (by kernel_rfl) (fun _ _ _ h => h) (Or.inl ⟨by rfl, ?_⟩) hHeld ?_
              rotate_left
              · intro w' hSw; obtain ⟨c0, c1, c2, c3, c4, c5, c6⟩ := hSw.2.1; obtain ⟨d0, d1, d2, d3, d4, d5, d6⟩ := hSw.2.2; go_simp; first | done | with_reducible rfl | rfl
              try simp only [Act.put, List.getElem_toArray, List.getElem_cons_zero, List.getElem_cons_succ, List.setIfInBounds_toArray, List.set_cons_zero, List.set_cons_succ]
              refine wpAnyH_take (i := 9) (v := ?_) rfl (by kernel_rfl) (by kernel_rfl) (by kernel_rfl) (fun _ _ _ h => h) (Or.inl ⟨by rfl, ?_⟩) hHeld ?_
              rotate_left
              · intro w' hSw; obtain ⟨c0, c1, c2, c3, c4, c5, c6⟩ := hSw.2.1; obtain ⟨d0, d1, d2, d3, d4, d5, d6⟩ := hSw.2.2; go_simp; first | done | with_reducible rfl | rfl
              try simp only [Act.put, List.getElem_toArray, List.getElem_cons_zero, List.getElem_cons_succ, List.setIfInBounds_toArray, List.set_cons_zero, List.set_cons_succ]
              refine wpAnyH_take (i := 10) (v := ?_) rfl (by kernel_rfl) (by kernel_rfl) (by kernel_rfl) (fun _ _ _ h => h) (Or.inl ⟨by rfl, ?_⟩) hHeld ?_
              rotate_left
              · intro w' hSw; obtain ⟨c0, c1, c2, c3, c4, c5, c6⟩ := hSw.2.1; obtain ⟨d0, d1, d2, d3, d4, d5, d6⟩ := hSw.2.2; go_simp; first | done | with_reducible rfl | rfl
              try simp only [Act.put, List.getElem_toArray, List.getElem_cons_zero, List.getElem_cons_succ, List.setIfInBounds_toArray, List.set_cons_zero, List.set_cons_succ]
              refine wpAnyH_take (i := 11) (v := ?_) rfl (by kernel_rfl) (by kernel_rfl) (by kernel_rfl) (fun _ _ _ h => h) (Or.inl ⟨by rfl, ?_⟩) hHeld ?_
              rotate_left
              · intro w' hSw; obtain ⟨c0, c1, c2, c3, c4, c5, c6⟩ := hSw.2.1; obtain ⟨d0, d1, d2, d3, d4, d5, d6⟩ := hSw.2.2; go_simp; first | done | with_reducible rfl | rfl
              try simp only [Act.put, List.getElem_toArray, List.getElem_cons_zero, List.getElem_cons_succ, List.setIfInBounds_toArray, List.set_cons_zero, List.set_cons_succ]
              refine wpAnyH_take (i := 12) (v := ?_) rfl (by kernel_rfl) (by kernel_rfl) (by kernel_rfl) (fun _ _ _ h => h) (Or.inl ⟨by rfl, ?_⟩) hHeld ?_
              rotate_left
              · intro w' hSw; obtain ⟨c0, c1, c2, c3, c4, c5, c6⟩ := hSw.2.1; obtain ⟨d0, d1, d2, d3, d4, d5, d6⟩ := hSw.2.2; go_simp; first | done | with_reducible rfl | rfl
              try simp only [Act.put, List.getElem_toArray, List.getElem_cons_zero, List.getElem_cons_succ, List.setIfInBounds_toArray, List.set_cons_zero, List.set_cons_succ]
              refine wpAnyH_take (i := 13) (v := ?_) rfl (by kernel_rfl) (by kernel_rfl) (by kernel_rfl) (fun _ _ _ h => h) (Or.inl ⟨by rfl, ?_⟩) hHeld ?_
              rotate_left
              · intro w' hSw; obtain ⟨c0, c1, c2, c3, c4, c5, c6⟩ := hSw.2.1; obtain ⟨d0, d1, d2, d3, d4, d5, d6⟩ := hSw.2.2; go_simp; first | done | with_reducible rfl | rfl
              try simp only [Act.put, List.getElem_toArray, List.getElem_cons_zero, List.getElem_cons_succ, List.setIfInBounds_toArray, List.set_cons_zero, List.set_cons_succ]
              refine wpAnyH_take (i := 14) (v := ?_) rfl (by kernel_rfl) (by kernel_rfl) (by kernel_rfl) (fun _ _ _ h => h) (Or.inl ⟨by rfl, ?_⟩) hHeld ?_
              rotate_left
              · intro w' hSw; obtain ⟨c0, c1, c2, c3, c4, c5, c6⟩ := hSw.2.1; obtain ⟨d0, d1, d2, d3, d4, d5, d6⟩ := hSw.2.2; go_simp; first | done | with_reducible rfl | rfl
              try simp only [Act.put, List.getElem_toArray, List.getElem_cons_zero, List.getElem_cons_succ, List.setIfInBounds_toArray, List.set_cons_zero, List.set_cons_succ]
              refine wpAnyH_ready (rs := [7]) (by kernel_rfl) (by simp) ?_
              refine AllReadyH.cons rfl (fun K hK => ?_) AllReadyH.nil
              try simp only [Act.put, List.getElem_toArray, List.getElem_cons_zero, List.getElem_cons_succ, List.setIfInBounds_toArray, List.set_cons_zero, List.set_cons_succ]
              go_simp
              go_at_call 15
              refine (KH1.out _ (HST.out.later (HB5.out.trans ((HB.out.drew).mono HB5.out.size)))).mono ?_
              rintro e wa7 ⟨rfl, hba7⟩
              have HBa7 := (HB.out.drew).trans (hba7.mono (HB.out.drew).size)
              have HXa7 := (HCXD.out).later hba7
              have HYa7 := (HCYD.out).later hba7
              go_wp2_with fail
              clear hHeld
              refine hK.out _ _ (⟨HBa7, HXa7, HYa7⟩) (fun hHeld => ?_)
              clear hK K
              try simp only [Act.put, List.getElem_toArray, List.getElem_cons_zero, List.getElem_cons_succ, List.setIfInBounds_toArray, List.set_cons_zero, List.set_cons_succ]
              refine wpAnyH_ready (rs := [15]) (by kernel_rfl) (by simp) ?_
              refine AllReadyH.cons rfl (fun K hK => ?_) AllReadyH.nil
              try simp only [Act.put, List.getElem_toArray, List.getElem_cons_zero, List.getElem_cons_succ, List.setIfInBounds_toArray, List.set_cons_zero, List.set_cons_succ]
              go_simp
              go_at_call 15
              refine (KH2.out _ (HST.out.later (HB5.out.trans ((HBa7).mono HB5.out.size)))).mono ?_
              rintro e wa15 ⟨rfl, hba15⟩
              have HBa15 := (HBa7).trans (hba15.mono (HBa7).size)
              have HXa15 := (HXa7).later hba15
              have HYa15 := (HYa7).later hba15
              go_wp2_with fail
              clear hHeld
              refine hK.out _ _ (⟨HBa15, HXa15, HYa15⟩) (fun hHeld => ?_)
              clear hK K
              try simp only [Act.put, List.getElem_toArray, List.getElem_cons_zero, List.getElem_cons_succ, List.setIfInBounds_toArray, List.set_cons_zero, List.set_cons_succ]
              refine wpAnyH_take (i := 16) (v := ?_) rfl (by kernel_rfl) (by kernel_rfl) (by kernel_rfl) (fun _ _ _ h => h) (Or.inl ⟨by rfl, ?_⟩) hHeld ?_
              rotate_left
              · intro w' hSw; obtain ⟨c0, c1, c2, c3, c4, c5, c6⟩ := hSw.2.1; obtain ⟨d0, d1, d2, d3, d4, d5, d6⟩ := hSw.2.2; go_simp; first | done | with_reducible rfl | rfl
              try simp only [Act.put, List.getElem_toArray, List.getElem_cons_zero, List.getElem_cons_succ, List.setIfInBounds_toArray, List.set_cons_zero, List.set_cons_succ]
              refine wpAnyH_take (i := 17) (v := ?_) rfl (by kernel_rfl) (by kernel_rfl) (by kernel_rfl) (fun _ _ _ h => h) (Or.inl ⟨by rfl, ?_⟩) hHeld ?_
              rotate_left
              · intro w' hSw; obtain ⟨c0, c1, c2, c3, c4, c5, c6⟩ := hSw.2.1; obtain ⟨d0, d1, d2, d3, d4, d5, d6⟩ := hSw.2.2; go_simp; first | done | with_reducible rfl | rfl
              try simp only [Act.put, List.getElem_toArray, List.getElem_cons_zero, List.getElem_cons_succ, List.setIfInBounds_toArray, List.set_cons_zero, List.set_cons_succ]
              refine wpAnyH_done (by kernel_rfl) ?_ _
              have HBZ := Lib.hid HBa15
              have HMZ : Hid (SSl wa15 (.slice (some ⟨g1, o1, none⟩) NR uc) m) := Lib.hid (HUm.out.later HBa15)
              have HNZ : Hid (SSl wa15 (.slice (some ⟨g2, o2, none⟩) NR yc) n) := Lib.hid (HYn.out.later HBa15)
              clear HBa15 HXa15 HYa15
              by_cases hXY : X = Y
              · have q1 : (X.toList == Y.toList) = true := by rw [hXY]; simp
                have HEQ := Lib.hid hXY
                clear hXY
                cases s with
                | true =>
                  go_wp2_with fail
                  go_ret
                  exact ⟨rfl, HB5.out.trans (HBZ.out.mono HB5.out.size)⟩
                | false =>
                  have hcl : ClB (bytesOf m ++ bytesOf n) := Classical.byContradiction (fun hc => by have := HDN.out hc HEQ.out; cases this)
                  have HCL := Lib.hid hcl
                  have hml : m.length ≤ 1000 := by rw [HNm.out]; omega
                  have hnl : n.length ≤ 1000 := by rw [HNn.out]; omega
                  have HLS : Hid ((bytesOf m).length + (bytesOf n).length ≤ 1000) := Lib.hid (by unfold bytesOf; rw [List.length_map, List.length_map, HNm.out, HNn.out]; omega)
                  have KT1 := Lib.hid (fun W (hW : SSl W (.slice (some ⟨g1, o1, none⟩) NR uc) m) => texts_prog m HGM.out hml _ W hW)
                  have KT2 := Lib.hid (fun W (hW : SSl W (.slice (some ⟨g2, o2, none⟩) NR yc) n) => texts_prog n HGN.out hnl _ W hW)
                  clear hcl hml hnl
                  go_wp2_with fail
                  refine (KT1.out _ HMZ.out).mono ?_
                  rintro e w7 ⟨t1, rfl, ht1, hb7⟩
                  have HB7 := Lib.hid (HBZ.out.trans (hb7.mono HBZ.out.size))
                  have HNZ7 := Lib.hid (HNZ.out.later hb7)
                  obtain ⟨t1a, t1c, rfl⟩ := SOwn.shape ht1.out
                  obtain ⟨L1, hL1⟩ : ∃ L, (bytesOf m).length = L := ⟨_, rfl⟩
                  have HT1 : Hid (SOwn w7 wa15.heap.size (.slice t1a L1 t1c) (bytesOf m)) := Lib.hid (by rw [← hL1]; exact ht1.out)
                  rw [hL1]
                  clear ht1 hb7 hL1
                  go_wp2_with fail
                  refine (KT2.out _ HNZ7.out).mono ?_
                  rintro e w8 ⟨t2, rfl, ht2, hb8⟩
                  have HB8 := Lib.hid (HB7.out.trans (hb8.mono HB7.out.size))
                  have HT18 := Lib.hid (SOwn.later HT1.out hb8)
                  obtain ⟨t2a, t2c, rfl⟩ := SOwn.shape ht2.out
                  obtain ⟨L2, hL2⟩ : ∃ L, (bytesOf n).length = L := ⟨_, rfl⟩
                  have HT2 : Hid (SOwn w8 w7.heap.size (.slice t2a L2 t2c) (bytesOf n)) := Lib.hid (by rw [← hL2]; exact ht2.out)
                  rw [hL2]
                  clear ht2 hb8 hL2
                  obtain ⟨gz, hgz⟩ : ∃ g, g = w8.heap.size := ⟨_, rfl⟩
                  obtain ⟨W9, hW9⟩ : ∃ W, W = w8.alloc (.cells #[.slice t1a L1 t1c, .slice t2a L2 t2c] 46) := ⟨_, rfl⟩
                  have HB9 : Hid (Below w5.heap.size w5 W9) := Lib.hid (by rw [hW9]; exact HB8.out.alloc HB8.out.size _)
                  have hz9 : W9.heap[gz]? = some (.cells #[.slice t1a L1 t1c, .slice t2a L2 t2c] 46 (0, 0)) := by rw [hW9, hgz]; exact heap_alloc_new _ _
                  have HT19 : Hid (SOwn W9 wa15.heap.size (.slice t1a L1 t1c) (bytesOf m)) := Lib.hid (by rw [hW9]; exact SOwn.alloc HT18.out _)
                  have HT29 : Hid (SOwn W9 w7.heap.size (.slice t2a L2 t2c) (bytesOf n)) := Lib.hid (by rw [hW9]; exact SOwn.alloc HT2.out _)
                  have hsz : ∀ z ∈ bytesOf m ++ bytesOf n, z.size ≤ 100000 := fun z hz => by
                    have hb : ∀ q : Sg, Good q → q.h.bytes.size ≤ 100000 := fun q hq => by unfold Hd.bytes; rw [mk_size]; have := hq.1.hlen (by decide); omega
                    rcases List.mem_append.1 hz with h | h
                    · obtain ⟨q, hq, rfl⟩ := List.mem_map.1 h; exact hb q (HGM.out q hq)
                    · obtain ⟨q, hq, rfl⟩ := List.mem_map.1 h; exact hb q (HGN.out q hq)
                  have KCL := Lib.hid (clash_ref (bytesOf m) (bytesOf n) (.slice t1a L1 t1c) (.slice t2a L2 t2c) gz wa15.heap.size w7.heap.size W9 (block_lt hz9) (by simp [World.cell?, hz9]) (by simp [World.cell?, hz9]) HT19.out HT29.out HLS.out hsz)
                  clear hz9 hsz
                  go_wp2_with fail
                  simp only [← hW9, ← hgz]
                  refine KCL.out.mono ?_
                  rintro e w10 ⟨b, rfl, hbc, hb10⟩
                  obtain rfl : b = true := hbc HCL.out
                  have HB10 := Lib.hid (HB9.out.trans (hb10.mono HB9.out.size))
                  clear hb10 hbc hW9 hgz
                  go_wp2_with fail
                  go_ret
                  exact ⟨rfl, HB5.out.trans (HB10.out.mono HB5.out.size)⟩
              · have q1 : (X.toList == Y.toList) = false := by rw [str_beq, decide_eq_false hXY]
                cases s with
                | true => exact absurd (HXY.out rfl) hXY
                | false =>
                  clear hXY
                  go_wp2_with fail
                  go_ret
                  exact ⟨rfl, HB5.out.trans (HBZ.out.mono HB5.out.size)⟩
      · have n1 : ((NR : Int) != (NR2 : Int)) = true := by simp; omega
        have HH := Lib.hid hNN
        clear hNN
        go_wp2_with fail
        go_ret
        exact ⟨rfl, HB5.out⟩
end Go.Proofs.YtgcaaigfgbglcaaDoor
