/- TrieBack. -/
import Derived.Test.YtohcackebmmikaaDoorIModel3
import Derived.Test.YtohcackebmmikaaDoorIAwk
namespace Go.Proofs.YtohcackebmmikaaDoor
open Go.RowKit

set_option maxRecDepth 30000 in
set_option maxHeartbeats 4000000 in
theorem back_law (la : Option Addr) (ln lc : Nat) (s v : ByteArray) (w : World) (hst : Start w) (hl : ln ≤ maxLen) (hu : ActsAt w la ln) (hs : s.size ≤ maxLen) (hv : v.size ≤ maxLen) :
    Calls Tryd.prog 7 #[.slice la ln lc, .string s, .string v] w fun e w' => e = .returned (.bool true) ∧ Below w.heap.size w w' := by
  obtain ⟨L, rfl, hL⟩ := acts_list hu
  have HL := Lib.hid hL
  have HS := Lib.hid hst
  have HA := Lib.hid (awake_prog w hst)
  have HSM := Lib.hid (fun (W : World) (hb : Below w.heap.size w W) => small_prog L 25 la lc W hl (by omega) (by omega) (HL.out.later hb))
  unfold maxLen at hs hv
  clear hst hu hL hl
  go_enter Tryd.func7, Tryd.ntmps7
  go_wp2_with fail
  refine HA.out.mono ?_
  rintro e w1 ⟨rfl, hb1⟩
  have B1 := Lib.hid hb1
  clear hb1
  go_wp2_with fail
  refine (HSM.out w1 B1.out).mono ?_
  rintro e w2 ⟨b, rfl, hsm, hb2⟩
  have B2 := Lib.hid (B1.out.trans (hb2.mono B1.out.size))
  clear hb2
  cases b with
  | false =>
    clear hsm
    go_wp2_with fail
    go_ret
    exact ⟨rfl, B2.out⟩
  | true =>
    obtain ⟨hlen, hsmall⟩ := hsm rfl
    clear hsm
    by_cases h1 : 100 < s.size
    · have hI : (100 : Int) < (s.size : Int) := by omega
      go_wp2_with fail
      go_ret
      exact ⟨rfl, B2.out⟩
    have hI1 : ¬ (100 : Int) < (s.size : Int) := by omega
    by_cases h2 : 100 < v.size
    · have hI : (100 : Int) < (v.size : Int) := by omega
      go_wp2_with fail
      go_ret
      exact ⟨rfl, B2.out⟩
    have hI2 : ¬ (100 : Int) < (v.size : Int) := by omega
    have HM := Lib.hid (fun (W : World) (hb : Below w.heap.size w W) => made_prog L la lc W (by omega) hsmall (HL.out.later hb) (HS.out.later hb))
    obtain ⟨hwf, hml⟩ := made_ok L hsmall
    obtain ⟨M, hM⟩ : ∃ M, M = madeT L := ⟨_, rfl⟩
    rw [← hM] at HM hwf hml
    have HK := Lib.hid (fun W => key_prog s W (by omega))
    have hk := keyB_size s
    obtain ⟨K, hK⟩ : ∃ K, K = keyB s := ⟨_, rfl⟩
    rw [← hK] at HK hk
    have hmn : (MT.pairs M).length ≤ 1000 := by omega
    have HG0 := Lib.hid (fun (x : Value) (W : World) (h : MAt W M x) => get_prog K M x W (by omega) hwf h)
    have HPU := Lib.hid (fun (x : Value) (W : World) (h : MAt W M x) (hb : Below w.heap.size w W) => put_prog K v M x W (by omega) (by omega) hwf hmn h (HS.out.later hb))
    have hwU := (MT.put_ok K v hk (by omega) M hwf).1
    have hlU := put_length K v hk (by omega) M hwf
    have hgU := put_get K v hk (by omega) M hwf
    have hpp := put_again K v hk (by omega) M hwf
    have hbn := back_none K v hk (by omega) M hwf
    have hbs := fun u => back_some K v u hk (by omega) M hwf
    have hvo := fun u => MT.val_ok (v := u) (k := K) hwf
    obtain ⟨U, hU⟩ : ∃ U, U = MT.put K v M := ⟨_, rfl⟩
    rw [← hU] at HPU hwU hlU hgU hpp hbn hbs
    have hun : (MT.pairs U).length ≤ 1000 := by omega
    have HGU := Lib.hid (fun (x : Value) (W : World) (h : MAt W U x) => get_prog K U x W (by omega) hwU h)
    rw [hgU] at HGU
    have HDU := Lib.hid (fun (x : Value) (W : World) (h : MAt W U x) (hb : Below w.heap.size w W) => del_prog K U x W (by omega) hwU hun h (HS.out.later hb))
    have HPP := Lib.hid (fun (x : Value) (W : World) (h : MAt W U x) (hb : Below w.heap.size w W) => put_prog K v U x W (by omega) (by omega) hwU hun h (HS.out.later hb))
    rw [hpp] at HPP
    have HPB := Lib.hid (fun (u : ByteArray) (hu : u.size ≤ 100) (x : Value) (W : World) (h : MAt W U x) (hb : Below w.heap.size w W) => put_prog K u U x W (by omega) hu hwU hun h (HS.out.later hb))
    have hwD := (MT.del_ok K hk U hwU).1
    have hlD := del_length K hk U hwU
    have hdd := del_again K hk U hwU
    obtain ⟨D, hD⟩ : ∃ D, D = MT.del K U := ⟨_, rfl⟩
    rw [← hD] at HDU hwD hlD hdd
    have HDD := Lib.hid (fun (x : Value) (W : World) (h : MAt W D x) (hb : Below w.heap.size w W) => del_prog K D x W (by omega) hwD (by omega) h (HS.out.later hb))
    rw [hdd] at HDD
    have HRM := Lib.hid (fun (x : Value) (W : World) (h : MAt W M x) => root_prog h)
    have HRU := Lib.hid (fun (x : Value) (W : World) (h : MAt W U x) => root_prog h)
    have HRD := Lib.hid (fun (x : Value) (W : World) (h : MAt W D x) => root_prog h)
    obtain ⟨RM, hRM⟩ : ∃ R, R = MT.root M := ⟨_, rfl⟩
    obtain ⟨RU, hRU⟩ : ∃ R, R = MT.root U := ⟨_, rfl⟩
    obtain ⟨RD, hRD⟩ : ∃ R, R = MT.root D := ⟨_, rfl⟩
    rw [← hRM] at HRM
    rw [← hRU] at HRU
    rw [← hRD] at HRD
    have hDM := Lib.hid (fun h => (hD.trans (hbn h)))
    have hBM := Lib.hid (fun (u : ByteArray) (h : getL K (MT.pairs M) = some u) => hbs u h)
    have hVO := Lib.hid hvo
    have HRR := Lib.hid (fun (h : D = M) => show RD = RM by rw [hRD, h, hRM])
    clear hwf hml hM hk hK hmn hwU hlU hgU hpp hbn hbs hvo hU hun hwD hlD hdd hD hRM hRU hRD h1 h2 hlen hsmall
    go_wp2_with fail
    refine (HM.out w2 B2.out).mono ?_
    rintro e w3 ⟨x, wv, rfl, hx3, _, hb3⟩
    have X := Lib.hid hx3
    have B3 := Lib.hid (B2.out.trans (hb3.mono B2.out.size))
    clear hx3 hb3
    go_wp2_with fail
    refine (HK.out w3).mono ?_
    rintro e w_1 ⟨rfl, hb1⟩
    have X_1 := Lib.hid (X.out.later hb1)
    have B_1 := Lib.hid (B3.out.trans (hb1.mono B3.out.size))
    clear hb1
    cases hg : getL K (MT.pairs M) with
    | none =>
      have hDM2 := Lib.hid (hDM.out hg)
      have hRR := HRR.out hDM2.out
      subst hRR
      rw [hg] at HG0
      clear hg hDM hBM HRR hVO
      go_wp2_with fail
      refine (HG0.out x w_1 X_1.out).mono ?_
      rintro e w_2 ⟨rfl, hs2⟩
      have hb2 := hs2.below w_1.heap.size
      have X_2 := Lib.hid (X_1.out.later hb2)
      have B_2 := Lib.hid (B_1.out.trans (hb2.mono B_1.out.size))
      clear hb2 hs2
      simp only [Option.getD_none, Option.isSome_none]
      go_wp2_with fail
      refine (HPU.out x w_2 X_2.out B_2.out).mono ?_
      rintro e w_3 ⟨xu, rfl, hm3, hb3⟩
      have X_3 := Lib.hid (X_2.out.later hb3)
      have B_3 := Lib.hid (B_2.out.trans (hb3.mono B_2.out.size))
      have XU := Lib.hid hm3
      clear hm3 hb3
      go_wp2_with fail
      refine (HDU.out xu w_3 XU.out B_3.out).mono ?_
      rintro e w_4 ⟨xd, rfl, hm4, hb4⟩
      have X_4 := Lib.hid (X_3.out.later hb4)
      have XU_4 := Lib.hid (XU.out.later hb4)
      have B_4 := Lib.hid (B_3.out.trans (hb4.mono B_3.out.size))
      have XD := Lib.hid hm4
      clear hm4 hb4
      go_wp2_with fail
      refine (HGU.out xu w_4 XU_4.out).mono ?_
      rintro e w_5 ⟨rfl, hs5⟩
      have hb5 := hs5.below w_4.heap.size
      have X_5 := Lib.hid (X_4.out.later hb5)
      have XU_5 := Lib.hid (XU_4.out.later hb5)
      have XD_5 := Lib.hid (XD.out.later hb5)
      have B_5 := Lib.hid (B_4.out.trans (hb5.mono B_4.out.size))
      clear hb5 hs5
      simp only [Option.getD_some, Option.isSome_some]
      go_wp2_with fail
      refine (HRD.out xd w_5 XD_5.out).mono ?_
      rintro e w_6 ⟨rfl, hb6⟩
      have X_6 := Lib.hid (X_5.out.later hb6)
      have XU_6 := Lib.hid (XU_5.out.later hb6)
      have XD_6 := Lib.hid (XD_5.out.later hb6)
      have B_6 := Lib.hid (B_5.out.trans (hb6.mono B_5.out.size))
      clear hb6
      go_wp2_with fail
      refine (HRM.out x w_6 X_6.out).mono ?_
      rintro e w_7 ⟨rfl, hb7⟩
      have X_7 := Lib.hid (X_6.out.later hb7)
      have XU_7 := Lib.hid (XU_6.out.later hb7)
      have XD_7 := Lib.hid (XD_6.out.later hb7)
      have B_7 := Lib.hid (B_6.out.trans (hb7.mono B_6.out.size))
      clear hb7
      go_wp2_with fail
      refine (HPP.out xu w_7 XU_7.out B_7.out).mono ?_
      rintro e w_8 ⟨xp, rfl, hm8, hb8⟩
      have X_8 := Lib.hid (X_7.out.later hb8)
      have XU_8 := Lib.hid (XU_7.out.later hb8)
      have XD_8 := Lib.hid (XD_7.out.later hb8)
      have B_8 := Lib.hid (B_7.out.trans (hb8.mono B_7.out.size))
      have XP := Lib.hid hm8
      clear hm8 hb8
      go_wp2_with fail
      refine (HRU.out xp w_8 XP.out).mono ?_
      rintro e w_9 ⟨rfl, hb9⟩
      have X_9 := Lib.hid (X_8.out.later hb9)
      have XU_9 := Lib.hid (XU_8.out.later hb9)
      have XD_9 := Lib.hid (XD_8.out.later hb9)
      have XP_9 := Lib.hid (XP.out.later hb9)
      have B_9 := Lib.hid (B_8.out.trans (hb9.mono B_8.out.size))
      clear hb9
      go_wp2_with fail
      refine (HRU.out xu w_9 XU_9.out).mono ?_
      rintro e w_10 ⟨rfl, hb10⟩
      have X_10 := Lib.hid (X_9.out.later hb10)
      have XU_10 := Lib.hid (XU_9.out.later hb10)
      have XD_10 := Lib.hid (XD_9.out.later hb10)
      have XP_10 := Lib.hid (XP_9.out.later hb10)
      have B_10 := Lib.hid (B_9.out.trans (hb10.mono B_9.out.size))
      clear hb10
      go_wp2_with fail
      refine (HDU.out xu w_10 XU_10.out B_10.out).mono ?_
      rintro e w_11 ⟨xe, rfl, hm11, hb11⟩
      have X_11 := Lib.hid (X_10.out.later hb11)
      have XU_11 := Lib.hid (XU_10.out.later hb11)
      have XD_11 := Lib.hid (XD_10.out.later hb11)
      have XP_11 := Lib.hid (XP_10.out.later hb11)
      have B_11 := Lib.hid (B_10.out.trans (hb11.mono B_10.out.size))
      have XE := Lib.hid hm11
      clear hm11 hb11
      go_wp2_with fail
      refine (HDD.out xe w_11 XE.out B_11.out).mono ?_
      rintro e w_12 ⟨xf, rfl, hm12, hb12⟩
      have X_12 := Lib.hid (X_11.out.later hb12)
      have XU_12 := Lib.hid (XU_11.out.later hb12)
      have XD_12 := Lib.hid (XD_11.out.later hb12)
      have XP_12 := Lib.hid (XP_11.out.later hb12)
      have XE_12 := Lib.hid (XE.out.later hb12)
      have B_12 := Lib.hid (B_11.out.trans (hb12.mono B_11.out.size))
      have XF := Lib.hid hm12
      clear hm12 hb12
      go_wp2_with fail
      refine (HRD.out xf w_12 XF.out).mono ?_
      rintro e w_13 ⟨rfl, hb13⟩
      have X_13 := Lib.hid (X_12.out.later hb13)
      have XU_13 := Lib.hid (XU_12.out.later hb13)
      have XD_13 := Lib.hid (XD_12.out.later hb13)
      have XP_13 := Lib.hid (XP_12.out.later hb13)
      have XE_13 := Lib.hid (XE_12.out.later hb13)
      have XF_13 := Lib.hid (XF.out.later hb13)
      have B_13 := Lib.hid (B_12.out.trans (hb13.mono B_12.out.size))
      clear hb13
      go_wp2_with fail
      refine (HDU.out xu w_13 XU_13.out B_13.out).mono ?_
      rintro e w_14 ⟨xg, rfl, hm14, hb14⟩
      have X_14 := Lib.hid (X_13.out.later hb14)
      have XU_14 := Lib.hid (XU_13.out.later hb14)
      have XD_14 := Lib.hid (XD_13.out.later hb14)
      have XP_14 := Lib.hid (XP_13.out.later hb14)
      have XE_14 := Lib.hid (XE_13.out.later hb14)
      have XF_14 := Lib.hid (XF_13.out.later hb14)
      have B_14 := Lib.hid (B_13.out.trans (hb14.mono B_13.out.size))
      have XG := Lib.hid hm14
      clear hm14 hb14
      go_wp2_with fail
      refine (HRD.out xg w_14 XG.out).mono ?_
      rintro e w_15 ⟨rfl, hb15⟩
      have X_15 := Lib.hid (X_14.out.later hb15)
      have XU_15 := Lib.hid (XU_14.out.later hb15)
      have XD_15 := Lib.hid (XD_14.out.later hb15)
      have XP_15 := Lib.hid (XP_14.out.later hb15)
      have XE_15 := Lib.hid (XE_14.out.later hb15)
      have XF_15 := Lib.hid (XF_14.out.later hb15)
      have XG_15 := Lib.hid (XG.out.later hb15)
      have B_15 := Lib.hid (B_14.out.trans (hb15.mono B_14.out.size))
      clear hb15
      go_wp2
      go_ret
      exact ⟨rfl, B_15.out⟩
    | some old =>
      have hBM2 := Lib.hid (hBM.out old hg)
      have hold := hVO.out old hg
      rw [hg] at HG0
      have HPBO := Lib.hid (HPB.out old hold)
      rw [hBM2.out] at HPBO
      clear hold HPB
      clear hg hDM hBM HRR hVO
      go_wp2_with fail
      refine (HG0.out x w_1 X_1.out).mono ?_
      rintro e w_2 ⟨rfl, hs2⟩
      have hb2 := hs2.below w_1.heap.size
      have X_2 := Lib.hid (X_1.out.later hb2)
      have B_2 := Lib.hid (B_1.out.trans (hb2.mono B_1.out.size))
      clear hb2 hs2
      simp only [Option.getD_some, Option.isSome_some]
      go_wp2_with fail
      refine (HPU.out x w_2 X_2.out B_2.out).mono ?_
      rintro e w_3 ⟨xu, rfl, hm3, hb3⟩
      have X_3 := Lib.hid (X_2.out.later hb3)
      have B_3 := Lib.hid (B_2.out.trans (hb3.mono B_2.out.size))
      have XU := Lib.hid hm3
      clear hm3 hb3
      go_wp2_with fail
      refine (HDU.out xu w_3 XU.out B_3.out).mono ?_
      rintro e w_4 ⟨xd, rfl, hm4, hb4⟩
      have X_4 := Lib.hid (X_3.out.later hb4)
      have XU_4 := Lib.hid (XU.out.later hb4)
      have B_4 := Lib.hid (B_3.out.trans (hb4.mono B_3.out.size))
      have XD := Lib.hid hm4
      clear hm4 hb4
      go_wp2_with fail
      refine (HPBO.out xu w_4 XU_4.out B_4.out).mono ?_
      rintro e w_5 ⟨xb, rfl, hm5, hb5⟩
      have X_5 := Lib.hid (X_4.out.later hb5)
      have XU_5 := Lib.hid (XU_4.out.later hb5)
      have XD_5 := Lib.hid (XD.out.later hb5)
      have B_5 := Lib.hid (B_4.out.trans (hb5.mono B_4.out.size))
      have XB := Lib.hid hm5
      clear hm5 hb5
      go_wp2_with fail
      refine (HGU.out xu w_5 XU_5.out).mono ?_
      rintro e w_6 ⟨rfl, hs6⟩
      have hb6 := hs6.below w_5.heap.size
      have X_6 := Lib.hid (X_5.out.later hb6)
      have XU_6 := Lib.hid (XU_5.out.later hb6)
      have XD_6 := Lib.hid (XD_5.out.later hb6)
      have XB_6 := Lib.hid (XB.out.later hb6)
      have B_6 := Lib.hid (B_5.out.trans (hb6.mono B_5.out.size))
      clear hb6 hs6
      simp only [Option.getD_some, Option.isSome_some]
      go_wp2_with fail
      refine (HRM.out xb w_6 XB_6.out).mono ?_
      rintro e w_7 ⟨rfl, hb7⟩
      have X_7 := Lib.hid (X_6.out.later hb7)
      have XU_7 := Lib.hid (XU_6.out.later hb7)
      have XD_7 := Lib.hid (XD_6.out.later hb7)
      have XB_7 := Lib.hid (XB_6.out.later hb7)
      have B_7 := Lib.hid (B_6.out.trans (hb7.mono B_6.out.size))
      clear hb7
      go_wp2_with fail
      refine (HRM.out x w_7 X_7.out).mono ?_
      rintro e w_8 ⟨rfl, hb8⟩
      have X_8 := Lib.hid (X_7.out.later hb8)
      have XU_8 := Lib.hid (XU_7.out.later hb8)
      have XD_8 := Lib.hid (XD_7.out.later hb8)
      have XB_8 := Lib.hid (XB_7.out.later hb8)
      have B_8 := Lib.hid (B_7.out.trans (hb8.mono B_7.out.size))
      clear hb8
      go_wp2_with fail
      refine (HPP.out xu w_8 XU_8.out B_8.out).mono ?_
      rintro e w_9 ⟨xp, rfl, hm9, hb9⟩
      have X_9 := Lib.hid (X_8.out.later hb9)
      have XU_9 := Lib.hid (XU_8.out.later hb9)
      have XD_9 := Lib.hid (XD_8.out.later hb9)
      have XB_9 := Lib.hid (XB_8.out.later hb9)
      have B_9 := Lib.hid (B_8.out.trans (hb9.mono B_8.out.size))
      have XP := Lib.hid hm9
      clear hm9 hb9
      go_wp2_with fail
      refine (HRU.out xp w_9 XP.out).mono ?_
      rintro e w_10 ⟨rfl, hb10⟩
      have X_10 := Lib.hid (X_9.out.later hb10)
      have XU_10 := Lib.hid (XU_9.out.later hb10)
      have XD_10 := Lib.hid (XD_9.out.later hb10)
      have XB_10 := Lib.hid (XB_9.out.later hb10)
      have XP_10 := Lib.hid (XP.out.later hb10)
      have B_10 := Lib.hid (B_9.out.trans (hb10.mono B_9.out.size))
      clear hb10
      go_wp2_with fail
      refine (HRU.out xu w_10 XU_10.out).mono ?_
      rintro e w_11 ⟨rfl, hb11⟩
      have X_11 := Lib.hid (X_10.out.later hb11)
      have XU_11 := Lib.hid (XU_10.out.later hb11)
      have XD_11 := Lib.hid (XD_10.out.later hb11)
      have XB_11 := Lib.hid (XB_10.out.later hb11)
      have XP_11 := Lib.hid (XP_10.out.later hb11)
      have B_11 := Lib.hid (B_10.out.trans (hb11.mono B_10.out.size))
      clear hb11
      go_wp2_with fail
      refine (HDU.out xu w_11 XU_11.out B_11.out).mono ?_
      rintro e w_12 ⟨xe, rfl, hm12, hb12⟩
      have X_12 := Lib.hid (X_11.out.later hb12)
      have XU_12 := Lib.hid (XU_11.out.later hb12)
      have XD_12 := Lib.hid (XD_11.out.later hb12)
      have XB_12 := Lib.hid (XB_11.out.later hb12)
      have XP_12 := Lib.hid (XP_11.out.later hb12)
      have B_12 := Lib.hid (B_11.out.trans (hb12.mono B_11.out.size))
      have XE := Lib.hid hm12
      clear hm12 hb12
      go_wp2_with fail
      refine (HDD.out xe w_12 XE.out B_12.out).mono ?_
      rintro e w_13 ⟨xf, rfl, hm13, hb13⟩
      have X_13 := Lib.hid (X_12.out.later hb13)
      have XU_13 := Lib.hid (XU_12.out.later hb13)
      have XD_13 := Lib.hid (XD_12.out.later hb13)
      have XB_13 := Lib.hid (XB_12.out.later hb13)
      have XP_13 := Lib.hid (XP_12.out.later hb13)
      have XE_13 := Lib.hid (XE.out.later hb13)
      have B_13 := Lib.hid (B_12.out.trans (hb13.mono B_12.out.size))
      have XF := Lib.hid hm13
      clear hm13 hb13
      go_wp2_with fail
      refine (HRD.out xf w_13 XF.out).mono ?_
      rintro e w_14 ⟨rfl, hb14⟩
      have X_14 := Lib.hid (X_13.out.later hb14)
      have XU_14 := Lib.hid (XU_13.out.later hb14)
      have XD_14 := Lib.hid (XD_13.out.later hb14)
      have XB_14 := Lib.hid (XB_13.out.later hb14)
      have XP_14 := Lib.hid (XP_13.out.later hb14)
      have XE_14 := Lib.hid (XE_13.out.later hb14)
      have XF_14 := Lib.hid (XF.out.later hb14)
      have B_14 := Lib.hid (B_13.out.trans (hb14.mono B_13.out.size))
      clear hb14
      go_wp2_with fail
      refine (HDU.out xu w_14 XU_14.out B_14.out).mono ?_
      rintro e w_15 ⟨xg, rfl, hm15, hb15⟩
      have X_15 := Lib.hid (X_14.out.later hb15)
      have XU_15 := Lib.hid (XU_14.out.later hb15)
      have XD_15 := Lib.hid (XD_14.out.later hb15)
      have XB_15 := Lib.hid (XB_14.out.later hb15)
      have XP_15 := Lib.hid (XP_14.out.later hb15)
      have XE_15 := Lib.hid (XE_14.out.later hb15)
      have XF_15 := Lib.hid (XF_14.out.later hb15)
      have B_15 := Lib.hid (B_14.out.trans (hb15.mono B_14.out.size))
      have XG := Lib.hid hm15
      clear hm15 hb15
      go_wp2_with fail
      refine (HRD.out xg w_15 XG.out).mono ?_
      rintro e w_16 ⟨rfl, hb16⟩
      have X_16 := Lib.hid (X_15.out.later hb16)
      have XU_16 := Lib.hid (XU_15.out.later hb16)
      have XD_16 := Lib.hid (XD_15.out.later hb16)
      have XB_16 := Lib.hid (XB_15.out.later hb16)
      have XP_16 := Lib.hid (XP_15.out.later hb16)
      have XE_16 := Lib.hid (XE_15.out.later hb16)
      have XF_16 := Lib.hid (XF_15.out.later hb16)
      have XG_16 := Lib.hid (XG.out.later hb16)
      have B_16 := Lib.hid (B_15.out.trans (hb16.mono B_15.out.size))
      clear hb16
      go_wp2
      go_ret
      exact ⟨rfl, B_16.out⟩
end Go.Proofs.YtohcackebmmikaaDoor
