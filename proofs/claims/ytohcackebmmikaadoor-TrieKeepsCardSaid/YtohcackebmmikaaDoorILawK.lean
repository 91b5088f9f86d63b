/- TrieKeeps. -/
import Derived.Test.YtohcackebmmikaaDoorIModel3
import Derived.Test.YtohcackebmmikaaDoorISame
import Derived.Test.YtohcackebmmikaaDoorIAwk
namespace Go.Proofs.YtohcackebmmikaaDoor
open Go.RowKit

def KpRel (L : List Ac) (M : Option Tr) (w : World) (x : Value) (wv : Value) (u i : Value) (wr : World) : Prop :=
  ∃ (j : Nat) (N : Option Tr), i = .int .i64 j ∧ j ≤ L.length ∧ Hid (MAt wr N u) ∧ Hid (MT.wf N ∧ (MT.pairs N).length ≤ 25 + j) ∧ Hid (MAt wr M x) ∧ Hid (PSl wr wv (MT.pairs M)) ∧ Below w.heap.size w wr

set_option maxRecDepth 30000 in
set_option maxHeartbeats 4000000 in
theorem keeps_law (la : Option Addr) (ln lc : Nat) (lb : Option Addr) (mn mc : Nat) (w : World) (hst : Start w) (hl : ln ≤ maxLen) (hu : ActsAt w la ln) (hm : mn ≤ maxLen) (hv : ActsAt w lb mn) :
    Calls Tryd.prog 6 #[.slice la ln lc, .slice lb mn mc] w fun e w' => e = .returned (.bool true) ∧ Below w.heap.size w w' := by
  obtain ⟨L, rfl, hL⟩ := acts_list hu
  obtain ⟨J, rfl, hJ⟩ := acts_list hv
  have HL := Lib.hid hL
  have HJ := Lib.hid hJ
  have HS := Lib.hid hst
  have HA := Lib.hid (awake_prog w hst)
  have HSM := Lib.hid (fun (W : World) (hb : Below w.heap.size w W) => small_prog L 25 la lc W hl (by omega) (by omega) (HL.out.later hb))
  have HSJ := Lib.hid (fun (W : World) (hb : Below w.heap.size w W) => small_prog J 25 lb mc W hm (by omega) (by omega) (HJ.out.later hb))
  clear hst hu hL hl hv hJ hm
  go_enter Tryd.func6, Tryd.ntmps6
  go_wp2_with fail
  refine HA.out.mono ?_
  rintro e w1 ⟨rfl, hb1⟩
  have B1 := Lib.hid hb1
  clear hb1
  go_wp2_with fail
  refine (HSM.out w1 B1.out).mono ?_
  rintro e w2 ⟨b, rfl, hsm, hb2⟩
  have B2 := Lib.hid (B1.out.trans (hb2.mono B1.out.size))
  clear hb2
  cases b with
  | false =>
    clear hsm
    go_wp2_with fail
    go_ret
    exact ⟨rfl, B2.out⟩
  | true =>
    obtain ⟨hlen, hsmall⟩ := hsm rfl
    clear hsm
    go_wp2_with fail
    refine (HSJ.out w2 B2.out).mono ?_
    rintro e w2b ⟨b, rfl, hsm, hb2⟩
    have B2b := Lib.hid (B2.out.trans (hb2.mono B2.out.size))
    clear hb2
    cases b with
    | false =>
      clear hsm
      go_wp2_with fail
      go_ret
      exact ⟨rfl, B2b.out⟩
    | true =>
      obtain ⟨hlenJ, hsmallJ⟩ := hsm rfl
      clear hsm
      have HM := Lib.hid (fun (W : World) (hb : Below w.heap.size w W) => made_prog L la lc W (by omega) hsmall (HL.out.later hb) (HS.out.later hb))
      obtain ⟨hwf, hml⟩ := made_ok L hsmall
      obtain ⟨M, hM⟩ : ∃ M, M = madeT L := ⟨_, rfl⟩
      rw [← hM] at HM hwf hml
      have hMn : (MT.pairs M).length ≤ 25 := by omega
      have HRM := Lib.hid (fun (x : Value) (W : World) (h : MAt W M x) => root_prog h)
      obtain ⟨RM, hRM⟩ : ∃ R, R = MT.root M := ⟨_, rfl⟩
      rw [← hRM] at HRM
      have HALL := Lib.hid (fun (x : Value) (W : World) (h : MAt W M x) => all_prog h (by omega))
      have HSAME := Lib.hid (fun (va vb : Value) (W : World) (h1 : PSl W va (MT.pairs M)) (h2 : PSl W vb (MT.pairs M)) => same_ref _ _ va vb W (by omega) h1 h2)
      have hsb : sameB (MT.pairs M) (MT.pairs M) = true := by simp [sameB]
      rw [hsb] at HSAME
      have HLEN := Lib.hid (fun (x : Value) (W : World) (h : MAt W M x) => len_trie h)
      have HWF := Lib.hid hwf
      have HSMJ := Lib.hid hsmallJ
      have hj0 : (0 : Int) ≤ (J.length : Int) := by omega
      clear hwf hml hM hRM hsb hsmall hsmallJ hlen
      go_wp2_with fail
      refine (HM.out w2b B2b.out).mono ?_
      rintro e w3 ⟨x, wv, rfl, hx3, hw3, hb3⟩
      have X := Lib.hid hx3
      have PW := Lib.hid (POwn.sl hw3)
      have B3 := Lib.hid (B2b.out.trans (hb3.mono B2b.out.size))
      clear hx3 hb3 hw3
      go_wp2_with fail
      refine (HRM.out x w3 X.out).mono ?_
      rintro e w4 ⟨rfl, hb4⟩
      have X4 := Lib.hid (X.out.later hb4)
      have PW4 := Lib.hid (PW.out.later hb4)
      have B4 := Lib.hid (B3.out.trans (hb4.mono B3.out.size))
      obtain ⟨wa, wc, rfl, hwc, _⟩ := PW.out
      clear hb4 X PW
      go_wp2_with fail
      go_loopw [8, 31] (KpRel J M w x (.slice wa (MT.pairs M).length wc)) (fun _ i _ => 25 - (intOf i).toNat)
      case atStart => exact ⟨0, M, rfl, by omega, X4, Lib.hid ⟨HWF.out, by omega⟩, X4, PW4, B4.out⟩
      case round =>
        obtain ⟨j, N, rfl, hj, hu, hN, hx, hp, hb⟩ := hrel
        have hj00 : (0 : Int) ≤ (j : Int) := by omega
        have hj1 : (j : Int) ≤ 25 := by omega
        have hsz := hb.size
        have HB := Lib.hid hb
        clear X4 PW4 B4
        by_cases hlt : j < J.length
        · have hltI : (j : Int) < (J.length : Int) := by omega
          obtain ⟨g, o, rfl, hg, hcs⟩ := HJ.out (by intro e; rw [e] at hlt; simp at hlt)
          obtain ⟨y, hy⟩ : ∃ y, y = J[j] := ⟨_, rfl⟩
          obtain ⟨z1, z2, d0, d1, d2⟩ := hcs j y (by rw [hy]; exact List.getElem?_eq_getElem hlt)
          have c0 : wr.cell? ⟨g, o + j * 3, none⟩ = some (.int .i64 y.1) := by rw [hb.cell (p := ⟨g, o + j * 3, none⟩) hg]; exact d0
          have c1 : wr.cell? ⟨g, o + j * 3 + 1, none⟩ = some (.string y.2.1) := by rw [hb.cell (p := ⟨g, o + j * 3 + 1, none⟩) hg]; exact d1
          have c2 : wr.cell? ⟨g, o + j * 3 + 2, none⟩ = some (.string y.2.2) := by rw [hb.cell (p := ⟨g, o + j * 3 + 2, none⟩) hg]; exact d2
          have hys := HSMJ.out y (by rw [hy]; exact List.getElem_mem hlt)
          obtain ⟨y0, y1, y2⟩ := y
          simp only at c0 c1 c2 hys
          have HK := Lib.hid (fun W => key_prog y1 W (by omega))
          have hKs := keyB_size y1
          obtain ⟨K, hK⟩ : ∃ K, K = keyB y1 := ⟨_, rfl⟩
          rw [← hK] at HK hKs
          obtain ⟨W0, hW0⟩ : ∃ W0, W0 = wr.alloc (.cells #[.int .i64 y0, .string y1, .string y2] 54) := ⟨_, rfl⟩
          obtain ⟨a0, a1, a2⟩ := three_cells (w := W0) (b := wr.heap.size) (by rw [hW0]; exact heap_at_alloc _ _)
          have hbW : Below wr.heap.size wr W0 := by rw [hW0]; exact (Below.refl _ wr).alloc (Nat.le_refl _) _
          have HW0 := Lib.hid hW0
          have HU0 := Lib.hid (hu.out.later hbW)
          have HX0 := Lib.hid (hx.out.later hbW)
          have HP0 := Lib.hid (hp.out.later hbW)
          have HBW := Lib.hid (hb.trans (hbW.mono hsz))
          clear d0 d1 d2 hcs hb hy hbW hW0 hu hx hp hK
          by_cases hw : y0 = 1
          · have hwI : (y0 == 1) = true := by rw [hw]; rfl
            have HD := Lib.hid (fun (xv : Value) (W : World) (h : MAt W N xv) (hb : Below w.heap.size w W) => del_prog K N xv W (by omega) hN.out.1 (by have := hN.out.2; omega) h (HS.out.later hb))
            have HN2 : Hid (MT.wf (MT.del K N) ∧ (MT.pairs (MT.del K N)).length ≤ 25 + (j + 1)) := Lib.hid ⟨(MT.del_ok K hKs N hN.out.1).1, by have := del_length K hKs N hN.out.1; have := hN.out.2; omega⟩
            clear hw
            go_wp2_with fail
            rw [show wr.alloc (.cells #[.int .i64 y0, .string y1, .string y2] 54) = W0 from HW0.out.symm]
            refine (HK.out W0).mono ?_
            rintro e w5 ⟨rfl, hb5⟩
            have HU5 := Lib.hid (HU0.out.later hb5)
            have HX5 := Lib.hid (HX0.out.later hb5)
            have HP5 := Lib.hid (HP0.out.later hb5)
            have HB5 := Lib.hid (HBW.out.trans (hb5.mono HBW.out.size))
            clear hb5
            go_wp2_with fail
            refine (HD.out _ w5 HU5.out HB5.out).mono ?_
            rintro e w6 ⟨x6, rfl, h6, hb6⟩
            have HU6 := Lib.hid h6
            have HX6 := Lib.hid (HX5.out.later hb6)
            have HP6 := Lib.hid (HP5.out.later hb6)
            have HB6 := Lib.hid (HB5.out.trans (hb6.mono HB5.out.size))
            clear h6 hb6
            go_wp2_with fail
            go_roundw
            case rel => exact ⟨j + 1, _, by go_num, by omega, HU6, HN2, HX6, HP6, HB6.out⟩
            case measure => simp [intOf]; omega
          · have hwI : (y0 == 1) = false := by simpa using hw
            have HPU := Lib.hid (fun (xv : Value) (W : World) (h : MAt W N xv) (hb : Below w.heap.size w W) => put_prog K y2 N xv W (by omega) hys.2 hN.out.1 (by have := hN.out.2; omega) h (HS.out.later hb))
            have HN2 : Hid (MT.wf (MT.put K y2 N) ∧ (MT.pairs (MT.put K y2 N)).length ≤ 25 + (j + 1)) := Lib.hid ⟨(MT.put_ok K y2 hKs hys.2 N hN.out.1).1, by have := put_length K y2 hKs hys.2 N hN.out.1; have := hN.out.2; omega⟩
            clear hw
            have HU0D : Hid (MAt W0.drew N _) := Lib.hid (HU0.out.later (Below.refl _ W0).drew)
            have HX0D : Hid (MAt W0.drew M x) := Lib.hid (HX0.out.later (Below.refl _ W0).drew)
            have HP0D : Hid (PSl W0.drew _ (MT.pairs M)) := Lib.hid (HP0.out.later (Below.refl _ W0).drew)
            have HBWD : Hid (Below w.heap.size w W0.drew) := Lib.hid (HBW.out.trans ((Below.refl _ W0).drew.mono HBW.out.size))
            go_wp2_with fail
            rw [show wr.alloc (.cells #[.int .i64 y0, .string y1, .string y2] 54) = W0 from HW0.out.symm]
            go_region_held3 (fun w' => w'.cell? ⟨wr.heap.size, 1, none⟩ = some (.string y1) ∧ w'.cell? ⟨wr.heap.size, 2, none⟩ = some (.string y2))
              (first | exact ⟨a1, a2⟩ | exact e6 | exact e5)
              (first
                | (go_at_call 20; (with_reducible refine (HK.out _).mono ?_); rintro e w5 ⟨rfl, hb5⟩; have e5 := And.intro (cellD hb5 a1) (cellD hb5 a2); have HU5 := Lib.hid (HU0D.out.later hb5); have HX5 := Lib.hid (HX0D.out.later hb5); have HP5 := Lib.hid (HP0D.out.later hb5); have HB5 := Lib.hid (HBWD.out.trans (hb5.mono HBWD.out.size)))
                | (go_at_call 25; (with_reducible refine (HPU.out _ _ HU5.out HB5.out).mono ?_); rintro e w6 ⟨x6, rfl, h6, hb6⟩; have e6 := And.intro (cellB hb6 e5.1) (cellB hb6 e5.2); have HU6 := Lib.hid h6; have HX6 := Lib.hid (HX5.out.later hb6); have HP6 := Lib.hid (HP5.out.later hb6); have HB6 := Lib.hid (HB5.out.trans (hb6.mono HB5.out.size))))
            go_wp2_with fail
            go_roundw
            case rel => exact ⟨j + 1, _, by go_num, by omega, HU6, HN2, HX6, HP6, HB6.out⟩
            case measure => simp [intOf]; omega
        · have hltI : ¬ (j : Int) < (J.length : Int) := by omega
          clear hb hu
          go_wp2_with fail
          refine (HRM.out x wr hx.out).mono ?_
          rintro e w_1 ⟨rfl, hb1⟩
          have hx_1 := Lib.hid (hx.out.later hb1)
          have hp_1 := Lib.hid (hp.out.later hb1)
          have B_1 := Lib.hid (HB.out.trans (hb1.mono HB.out.size))
          clear hb1
          go_wp2_with fail
          refine (HALL.out x w_1 hx_1.out).mono ?_
          rintro e w_2 ⟨pa, rfl, hm2, hb2⟩
          have hx_2 := Lib.hid (hx_1.out.later hb2)
          have hp_2 := Lib.hid (hp_1.out.later hb2)
          have B_2 := Lib.hid (B_1.out.trans (hb2.mono B_1.out.size))
          have PA := Lib.hid (POwn.sl hm2)
          clear hm2 hb2
          go_wp2_with fail
          refine (HSAME.out pa _ w_2 PA.out hp_2.out).mono ?_
          rintro e w_3 ⟨rfl, hs3⟩
          have hb3 := hs3.below w_2.heap.size
          have hx_3 := Lib.hid (hx_2.out.later hb3)
          have hp_3 := Lib.hid (hp_2.out.later hb3)
          have PA_3 := Lib.hid (PA.out.later hb3)
          have B_3 := Lib.hid (B_2.out.trans (hb3.mono B_2.out.size))
          clear hb3 hs3
          go_wp2_with fail
          refine (HLEN.out x w_3 hx_3.out).mono ?_
          rintro e wz ⟨rfl, rfl⟩
          go_wp2
          go_ret
          exact ⟨rfl, B_3.out⟩
end Go.Proofs.YtohcackebmmikaaDoor
