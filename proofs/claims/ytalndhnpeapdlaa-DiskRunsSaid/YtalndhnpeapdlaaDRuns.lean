/- DiskRuns: the walk. -/
import Derived.Test.YtalndhnpeapdlaaDBoth
import Derived.Test.YtalndhnpeapdlaaDArgs
namespace Go.Proofs.Ytalndhnpeapdlaa
open Go.RowKit

def RuRel (w : World) (b r ln : Nat) (i : Value) (wr : World) : Prop :=
  ∃ (k : Nat) (v : Value) (S U : ByteArray) (f : Int) (off : Bool), i = .int .i64 k ∧ k ≤ ln ∧ Hid (Pr wr b v r S U f off) ∧ Hid ((S ++ U).size ≤ 200 * k) ∧ Hid (∀ j, v.ownBlock = some j → w.heap.size ≤ j) ∧ Hid (Below w.heap.size w wr)

/-- Behind an act. -/
def CtRel (w : World) (b r k : Nat) (wx : World) : Prop :=
  ∃ (v : Value) (S U : ByteArray) (f : Int) (off : Bool), Hid (Pr wx b v r S U f off) ∧ Hid ((S ++ U).size ≤ 200 * (k + 1)) ∧ Hid (∀ j, v.ownBlock = some j → w.heap.size ≤ j) ∧ Hid (Below w.heap.size w wx)

set_option maxRecDepth 30000 in
set_option maxHeartbeats 8000000 in
theorem runs_law (la : Option Addr) (ln lc : Nat) (w : World) (hl : ln ≤ maxLen) (hu : Acts w la ln) :
    Calls Try.prog 3 #[.slice la ln lc] w fun e w' => e = .returned (.bool true) ∧ Below w.heap.size w w' := by
  unfold maxLen at hl
  have HU := Lib.hid hu
  clear hu
  by_cases hbig : 60 < ln
  · have hI : (60 : Int) < (ln : Int) := by omega
    go_enter Try.func3, Try.ntmps3
    go_wp2_with fail
    refine (awake_prog w).mono ?_
    rintro e w1 ⟨rfl, hb1⟩
    go_wp2_with fail
    go_ret
    exact ⟨rfl, hb1⟩
  have hI : ¬ (60 : Int) < (ln : Int) := by omega
  go_enter Try.func3, Try.ntmps3
  go_wp2_with fail
  refine (awake_prog w).mono ?_
  rintro e w1 ⟨rfl, hb1⟩
  go_wp2_with fail
  refine (new_prog w1).mono ?_
  rintro e w2 ⟨rfl, hd2, hb2⟩
  go_wp2_with fail
  refine (new_ref w2).mono ?_
  rintro e w3 ⟨rfl, hr3, hb3⟩
  have hs1 := hb1.size
  have hs2 := hb2.size
  have hlt := hd2.lt
  have hne : w1.heap.size ≠ w2.heap.size := by omega
  have hp3 : Pr w3 w1.heap.size (.slice none 0 0) w2.heap.size ⟨#[]⟩ ⟨#[]⟩ (-1) false := ⟨hd2.later hb3, hr3, hne, (fun e => by cases e), by omega, by omega⟩
  have hB3 : Below w.heap.size w w3 := (hb1.trans (hb2.mono hs1)).trans (hb3.mono (by omega))
  have hs3 : w.heap.size ≤ w2.heap.size := by omega
  obtain ⟨b, hb⟩ : ∃ b, w1.heap.size = b := ⟨_, rfl⟩
  obtain ⟨r, hr⟩ : ∃ r, w2.heap.size = r := ⟨_, rfl⟩
  rw [hb] at hs1
  rw [hr] at hs3
  rw [hb, hr] at hp3 ⊢
  have HBL := Lib.hid hs1
  have HRL := Lib.hid hs3
  have HP3 := Lib.hid hp3
  have HB3 := Lib.hid hB3
  clear hb1 hb2 hb3 hd2 hr3 hs1 hs2 hs3 hlt hne hp3 hB3 hb hr
  go_wp2_with fail
  go_loopw [19] (RuRel w b r ln) (fun i _ => 60 - (intOf i).toNat)
  case atStart => exact ⟨0, _, _, _, _, _, rfl, by omega, HP3, Lib.hid (by decide), Lib.hid (fun j hj => by cases hj), HB3⟩
  case round =>
    obtain ⟨k, v, S, U, f, off, rfl, hk, HP, HS, HV, HB⟩ := hrel
    clear HP3 HB3
    have hk0 : (0 : Int) ≤ (k : Int) := by omega
    by_cases hkl : k < ln
    · obtain ⟨g, o, wh, x, s, rfl, hg, hxr, hs, hc0, hc1, hc2⟩ := HU.out k hkl
      have c0 : wr.cell? ⟨g, o + k * 3, none⟩ = some (.int .i64 wh) := by rw [HB.out.cell (p := ⟨g, o + k * 3, none⟩) hg]; exact hc0
      have c1 : wr.cell? ⟨g, o + k * 3 + 1, none⟩ = some (.int .i64 x) := by rw [HB.out.cell (p := ⟨g, o + k * 3 + 1, none⟩) hg]; exact hc1
      have c2 : wr.cell? ⟨g, o + k * 3 + 2, none⟩ = some (.string s) := by rw [HB.out.cell (p := ⟨g, o + k * 3 + 2, none⟩) hg]; exact hc2
      have hkI : (k : Int) < (ln : Int) := by omega
      unfold maxLen at hs
      clear hc0 hc1 hc2
      obtain ⟨W, hW⟩ : ∃ W, wr.alloc (.cells #[.int .i64 wh, .int .i64 x, .string s] 29) = W := ⟨_, rfl⟩
      have hWb : Below wr.heap.size wr W := by rw [← hW]; exact (Below.refl _ wr).alloc (Nat.le_refl _) _
      have hblk : W.heap[wr.heap.size]? = some (.cells #[.int .i64 wh, .int .i64 x, .string s] 29 (0, 0)) := by rw [← hW]; exact heap_at_alloc wr _
      have x0 : W.cell? ⟨wr.heap.size, 0, none⟩ = some (.int .i64 wh) := by simp [World.cell?, hblk]
      have x1 : W.cell? ⟨wr.heap.size, 1, none⟩ = some (.int .i64 x) := by simp [World.cell?, hblk]
      have x2 : W.cell? ⟨wr.heap.size, 2, none⟩ = some (.string s) := by simp [World.cell?, hblk]
      have HPW := Lib.hid (HP.out.later hWb)
      have HBW : Hid (Below w.heap.size w W) := Lib.hid (HB.out.trans (hWb.mono HB.out.size))
      have hbl := HP.out.dk.lt
      have hrl := HP.out.rf.lt
      have HQB : Hid (wr.heap.size ≠ b) := Lib.hid (by omega)
      have HQR : Hid (wr.heap.size ≠ r) := Lib.hid (by omega)
      have HQV : Hid (v.ownBlock ≠ some wr.heap.size) := Lib.hid (fun e => by have := HP.out.dk.2.1.lt _ e; omega)
      have HQW : Hid (wr.heap.size < W.heap.size) := Lib.hid (World.block_lt_of_cell? W _ x1)
      obtain ⟨q, hq⟩ : ∃ q, wr.heap.size = q := ⟨_, rfl⟩
      rw [hq] at HQB HQR HQV HQW x0 x1 x2
      clear hbl hrl hWb hblk HB HP
      by_cases h200 : 200 < s.size
      · have hI2 : (200 : Int) < (s.size : Int) := by omega
        go_wp2_with fail
        go_ret
        exact ⟨rfl, HBW.out⟩
      have hI2 : ¬ (200 : Int) < (s.size : Int) := by omega
      have HSS : Hid (s.size ≤ 200) := Lib.hid (by omega)
      have HXR := Lib.hid hxr
      clear h200 hs hxr
      go_upto_block 2 with (fail)
      go_cut [7] from 20 to 144 (fun s7 wx => s7 = .bool true ∧ CtRel w b r k wx)
      case rest =>
        obtain ⟨rfl, v4, S4, U4, f4, o4, HPN, HSN, HVN, HBN⟩ := hcut
        clear HPW HBW HQB HQR HQV HQW HS HV HSS HXR x0 x1 x2 hW hq c0 c1 c2
        have hSU := HPN.out.dk
        cases o4
        · have hTs : (S4 ++ U4).size = S4.size + U4.size := ByteArray.size_append
          have hlim : (S4 ++ U4).size ≤ 12200 := by have := HSN.out; omega
          have HRD := Lib.hid (read_prog HPN.out.dk)
          have HDN := Lib.hid (fun n => down_prog (HPN.out.dk.drewN n))
          have HWT := Lib.hid (fun n => by
            have h := waits_prog (HPN.out.dk.drewN n) (by omega) (by omega)
            have e : (((S4 ++ U4).size : Nat) : Int) - ((S4.size : Nat) : Int) = (U4.size : Int) := by omega
            rw [e] at h
            exact h)
          obtain ⟨d0, d1, d2, d3⟩ := HPN.out.rf.cells
          have hadd : ¬ (9223372036854775807 < S4.size + U4.size) := by omega
          clear hSU
          simp only [Bool.false_eq_true, if_false] at HRD
          go_wp2_with fail
          refine HRD.out.mono ?_
          rintro e wz ⟨rfl, rfl⟩
          clear HRD
          go_wp2_with fail
          go_quiet (first | (go_at_call 19; exact quietE ((HDN.out _).mono fun _ _ h => ⟨h.1, h.2.symm⟩)) | (go_at_call 20; exact quietS (HWT.out _)))
          go_wp2_with fail
          go_roundw
          case rel => exact ⟨k + 1, v4, S4, U4, f4, false, by simp, by omega, Lib.hid (HPN.out.later ((Same.of _ _).below _)), Lib.hid (by have := HSN.out; omega), HVN, Lib.hid (HBN.out.trans ((Same.of _ _).below _))⟩
          case measure => simp [intOf]; omega
        · have hTs : (S4 ++ U4).size = S4.size + U4.size := ByteArray.size_append
          have hlim : (S4 ++ U4).size ≤ 12200 := by have := HSN.out; omega
          have HRD := Lib.hid (read_prog HPN.out.dk)
          have HDN := Lib.hid (fun n => down_prog (HPN.out.dk.drewN n))
          have HWT := Lib.hid (fun n => by
            have h := waits_prog (HPN.out.dk.drewN n) (by omega) (by omega)
            have e : (((S4 ++ U4).size : Nat) : Int) - ((S4.size : Nat) : Int) = (U4.size : Int) := by omega
            rw [e] at h
            exact h)
          obtain ⟨d0, d1, d2, d3⟩ := HPN.out.rf.cells
          clear hSU
          simp only [if_true] at HRD
          go_wp2_with fail
          refine HRD.out.mono ?_
          rintro e wz ⟨rfl, rfl⟩
          clear HRD
          go_wp2_with fail
          go_quiet (first | (go_at_call 19; exact quietE ((HDN.out _).mono fun _ _ h => ⟨h.1, h.2.symm⟩)) | (go_at_call 20; exact quietS (HWT.out _)))
          go_wp2_with fail
          go_roundw
          case rel => exact ⟨k + 1, v4, S4, U4, f4, true, by simp, by omega, Lib.hid (HPN.out.later ((Same.of _ _).below _)), Lib.hid (by have := HSN.out; omega), HVN, Lib.hid (HBN.out.trans ((Same.of _ _).below _))⟩
          case measure => simp [intOf]; omega
      case first =>
        by_cases h0 : wh = 0
        · subst h0
          have HPD := Lib.hid (HPW.out.later (Below.refl _ W).drew)
          have HC1 := Lib.hid (append_pr HPD.out s (by have := HS.out; have := HSS.out; omega))
          have hkk : k ≤ 60 := by omega
          go_wp2_with fail
          go_region_held3 (fun X => X.cell? ⟨q, 2, none⟩ = some (.string s))
            (first | exact x2 | with_reducible exact y2 | with_reducible exact y3)
            (first
              | (go_at_call 9; (with_reducible refine HC1.out.mono ?_); rintro e w4 ⟨rfl, v4, hd4, hc4⟩; have y2 : w4.cell? ⟨q, 2, none⟩ = some (.string s) := (World.cell?_of_block (w := W.drew) (a := ⟨q, 2, none⟩) (hc4.block q HQW.out HQB.out HQV.out)).trans x2; have HR4 := Lib.hid (HPD.out.rfCh hc4); have HC2 := Lib.hid (append_ref HR4.out HPD.out.lo HPD.out.hi s (by have : (S ++ U).size = S.size + U.size := ByteArray.size_append; have := HS.out; omega) (by have := HSS.out; omega)))
              | (go_at_call 10; (with_reducible refine HC2.out.mono ?_); rintro e w5 ⟨rfl, hr5, hb5⟩; have y3 : w5.cell? ⟨q, 2, none⟩ = some (.string s) := (World.cell?_of_block (w := w4) (a := ⟨q, 2, none⟩) (hb5.block q (Nat.lt_of_lt_of_le HQW.out hc4.size) HQR.out)).trans y2))
          obtain ⟨U', f', o', hpn, hsn⟩ := pr_append HPD.out s hd4 hc4 hr5 hb5
          have HPN := Lib.hid hpn
          have HSN : Hid ((S ++ U').size ≤ 200 * (k + 1)) := Lib.hid (by have := HS.out; have := HSS.out; omega)
          have HVN := Lib.hid (hc4.low HV.out HBW.out.size)
          have HBN := Lib.hid (((HBW.out.trans (Below.refl w.heap.size W).drew).trans (hc4.below HBL.out HV.out HBW.out.size)).trans (hb5.below HRL.out (Nat.le_trans (show w.heap.size ≤ W.drew.heap.size from HBW.out.size) hc4.size)))
          clear hpn hsn hd4 hc4 hr5 hb5 HPD HC1 HC2 HR4 HPW HS HSS HV HBW y2 y3 x0 x1 x2 HQB HQR HQV HQW
          go_wp2_with fail
          go_meet
          exact ⟨rfl, v4, S, U', f', o', HPN, HSN, HVN, HBN⟩
        by_cases h1 : wh = 1
        · subst h1
          have HC1 := Lib.hid (sync_pr HPW.out)
          go_wp2_with fail
          refine HC1.out.mono ?_
          rintro e w4 ⟨rfl, hd4, hc4⟩
          have HR4 := Lib.hid (HPW.out.rfCh hc4)
          have hSU0 : (S ++ U).size = S.size + U.size := ByteArray.size_append
          have HC2 := Lib.hid (sync_ref HR4.out HPW.out.lo HPW.out.hi (by have := HS.out; omega) (by have := HS.out; omega))
          clear hSU0
          go_wp2_with fail
          refine HC2.out.mono ?_
          rintro e w5 ⟨rfl, hr5, hb5⟩
          obtain ⟨S', U', f', o', hpn, hsn⟩ := pr_sync HPW.out hd4 hc4 hr5 hb5
          have HPN := Lib.hid hpn
          have HSN : Hid ((S' ++ U').size ≤ 200 * (k + 1)) := Lib.hid (by have := HS.out; omega)
          have HBN := Lib.hid ((HBW.out.trans (hc4.below HBL.out HV.out HBW.out.size)).trans (hb5.below HRL.out (Nat.le_trans HBW.out.size hc4.size)))
          have HVN := HV
          clear hpn hsn hd4 hc4 hr5 hb5 HC1 HC2 HR4 HPW HS HSS HV HBW x0 x1 x2 HQB HQR HQV HQW
          go_wp2_with fail
          go_meet
          exact ⟨rfl, v, S', U', f', o', HPN, HSN, HVN, HBN⟩
        by_cases h2 : wh = 2
        · subst h2
          have HPD := Lib.hid (HPW.out.later (Below.refl _ W).drew)
          have HC1 := Lib.hid (swap_pr HPD.out s (by have := HSS.out; omega))
          have hkk : k ≤ 60 := by omega
          go_wp2_with fail
          go_region_held3 (fun X => X.cell? ⟨q, 2, none⟩ = some (.string s))
            (first | exact x2 | with_reducible exact y2 | with_reducible exact y3)
            (first
              | (go_at_call 13; (with_reducible refine HC1.out.mono ?_); rintro e w4 ⟨rfl, v4, hd4, hc4⟩; have y2 : w4.cell? ⟨q, 2, none⟩ = some (.string s) := (World.cell?_of_block (w := W.drew) (a := ⟨q, 2, none⟩) (hc4.block q HQW.out HQB.out HQV.out)).trans x2; have HR4 := Lib.hid (HPD.out.rfCh hc4); have HC2 := Lib.hid (swap_ref HR4.out HPD.out.lo HPD.out.hi s))
              | (go_at_call 14; (with_reducible refine HC2.out.mono ?_); rintro e w5 ⟨rfl, hr5, hb5⟩; have y3 : w5.cell? ⟨q, 2, none⟩ = some (.string s) := (World.cell?_of_block (w := w4) (a := ⟨q, 2, none⟩) (hb5.block q (Nat.lt_of_lt_of_le HQW.out hc4.size) HQR.out)).trans y2))
          obtain ⟨S', U', f', o', hpn, hsn⟩ := pr_swap HPD.out s hd4 hc4 hr5 hb5
          have HPN := Lib.hid hpn
          have HSN : Hid ((S' ++ U').size ≤ 200 * (k + 1)) := Lib.hid (by have := HS.out; have := HSS.out; omega)
          have HVN := Lib.hid (hc4.low HV.out HBW.out.size)
          have HBN := Lib.hid (((HBW.out.trans (Below.refl w.heap.size W).drew).trans (hc4.below HBL.out HV.out HBW.out.size)).trans (hb5.below HRL.out (Nat.le_trans (show w.heap.size ≤ W.drew.heap.size from HBW.out.size) hc4.size)))
          clear hpn hsn hd4 hc4 hr5 hb5 HPD HC1 HC2 HR4 HPW HS HSS HV HBW y2 y3 x0 x1 x2 HQB HQR HQV HQW
          go_wp2_with fail
          go_meet
          exact ⟨rfl, v4, S', U', f', o', HPN, HSN, HVN, HBN⟩
        by_cases h4 : wh = 4
        · subst h4
          have HC1 := Lib.hid (fuel_pr HPW.out x)
          obtain ⟨X, hX⟩ : ∃ X, (if x < -1 then -1 else x) = X := ⟨_, rfl⟩
          go_wp2_with fail
          refine HC1.out.mono ?_
          rintro e w4 ⟨rfl, hd4, hc4⟩
          have y1 : w4.cell? ⟨q, 1, none⟩ = some (.int .i64 x) := (World.cell?_of_block (w := W) (a := ⟨q, 1, none⟩) (hc4.block q HQW.out HQB.out HQV.out)).trans x1
          have HR4 := Lib.hid (HPW.out.rfCh hc4)
          obtain ⟨d0, d1, d2, d3⟩ := HR4.out.cells
          obtain ⟨z0, z1, z2, z3⟩ := HR4.out.free
          have HPN := Lib.hid (pr_fuel HPW.out x X hX HXR.out.2 hd4 hc4)
          have HSN : Hid ((S ++ U).size ≤ 200 * (k + 1)) := Lib.hid (by have := HS.out; omega)
          have HBN := Lib.hid ((HBW.out.trans (hc4.below HBL.out HV.out HBW.out.size)).trans ((But.set r 2 w4 (.int .i64 X)).below HRL.out (Nat.le_trans HBW.out.size hc4.size)))
          have HVN := HV
          clear hd4 hc4 HC1 HR4 HPW HS HSS HV HBW x0 x1 x2 HQB HQR HQV HQW
          go_wp2_with fail
          go_meet
          exact ⟨rfl, v, S, U, X, off, HPN, HSN, HVN, HBN⟩
        by_cases h5 : wh = 5
        · subst h5
          have HC1 := Lib.hid (crash_pr HPW.out x (by have := HS.out; omega))
          go_wp2_with fail
          refine HC1.out.mono ?_
          rintro e w4 ⟨rfl, v4, hd4, hc4⟩
          have y1 : w4.cell? ⟨q, 1, none⟩ = some (.int .i64 x) := (World.cell?_of_block (w := W) (a := ⟨q, 1, none⟩) (hc4.block q HQW.out HQB.out HQV.out)).trans x1
          have HR4 := Lib.hid (HPW.out.rfCh hc4)
          have hSU0 : (S ++ U).size = S.size + U.size := ByteArray.size_append
          have HC2 := Lib.hid (crash_ref HR4.out x (by have := HS.out; omega) (by have := HS.out; omega))
          clear hSU0
          go_wp2_with fail
          refine HC2.out.mono ?_
          rintro e w5 ⟨rfl, hr5, hb5⟩
          obtain ⟨S', hpn, hsn⟩ := pr_crash HPW.out x hd4 hc4 hr5 hb5
          obtain ⟨U', hU'⟩ : ∃ U', (⟨#[]⟩ : ByteArray) = U' := ⟨_, rfl⟩
          obtain ⟨f', hf'⟩ : ∃ f', (-1 : Int) = f' := ⟨_, rfl⟩
          rw [hU'] at hpn hsn
          rw [hf'] at hpn
          have HPN := Lib.hid hpn
          have HSN : Hid ((S' ++ U').size ≤ 200 * (k + 1)) := Lib.hid (by have := HS.out; omega)
          have HVN := Lib.hid (hc4.low HV.out HBW.out.size)
          have HBN := Lib.hid ((HBW.out.trans (hc4.below HBL.out HV.out HBW.out.size)).trans (hb5.below HRL.out (Nat.le_trans HBW.out.size hc4.size)))
          clear hpn hsn hd4 hc4 hr5 hb5 HC1 HC2 HR4 HPW HS HSS HV HBW x0 x1 x2 y1 HQB HQR HQV HQW hU' hf'
          obtain ⟨o', ho'⟩ : ∃ o', false = o' := ⟨_, rfl⟩
          rw [ho'] at HPN
          clear ho'
          go_wp2_with fail
          go_meet
          exact ⟨rfl, v4, S', U', f', o', HPN, HSN, HVN, HBN⟩
        have HSN : Hid ((S ++ U).size ≤ 200 * (k + 1)) := Lib.hid (by have := HS.out; omega)
        have HPN := HPW
        have HBN := HBW
        have HVN := HV
        have q0 : (wh == 0) = false := by simp only [beq_eq_false_iff_ne]; exact h0
        have q1 : (wh == 1) = false := by simp only [beq_eq_false_iff_ne]; exact h1
        have q2 : (wh == 2) = false := by simp only [beq_eq_false_iff_ne]; exact h2
        have q4 : (wh == 4) = false := by simp only [beq_eq_false_iff_ne]; exact h4
        have q5 : (wh == 5) = false := by simp only [beq_eq_false_iff_ne]; exact h5
        clear h0 h1 h2 h4 h5 HPW HBW HV HS HSS HQB HQR HQV HQW
        go_wp2_with fail
        go_wp2_with fail
        go_meet
        exact ⟨rfl, v, S, U, f, off, HPN, HSN, HVN, HBN⟩
    · have hkI : ¬ (k : Int) < (ln : Int) := by omega
      go_wp2_with fail
      go_ret
      exact ⟨rfl, HB.out⟩
end Go.Proofs.Ytalndhnpeapdlaa
