/- awake of layer 6. -/
import Derived.Test.YtmpjpaomgifpcaaGreatDoorPSound
import Derived.Test.YtmpjpaomgifpcaaGreatDoorPShowP
import Derived.Test.YtmpjpaomgifpcaaGreatDoorPOpen
import Derived.Test.YtmpjpaomgifpcaaGreatDoorBTop
namespace Go.Proofs.YtmpjpaomgifpcaaGreatDoor
open Go.RowKit
set_option maxRecDepth 100000
abbrev vC : ByteArray := ⟨#[51]⟩
def awkA : List Ask := askL [kA] []
theorem awkA_eq : awkA = [(kA, 256)] := by
  have h : rightB kA 256 = true := by unfold rightB; exact decide_eq_true ⟨kA_size, by decide, by decide⟩
  show (List.filter (fun x : AI => rightB x.1 x.2) [(kA, (256 : Int))]).map toN = _
  rw [List.filter_cons, if_pos (by simpa using h)]; rfl
theorem awk_knows : MP.und kA 256 (cutM awkA (some awkT)) ≠ none := by
  obtain ⟨a, ha⟩ := asked_known (A := awkA) (m := some awkT) kA 256 (fun _ => by rw [awkA_eq]; exact List.mem_singleton.2 rfl)
  rw [ha]; simp
theorem lead_B : leadB (ks kB) 256 (ks (firstB kA 6)) 6 true = true := by rw [kB_eq, first_A]; decide +kernel
theorem lead_A : leadB (ks kA) 256 (ks (firstB kA 6)) 6 true = false := by rw [kA_eq, first_A]; decide +kernel
theorem awk_not : MP.und kB 256 (cutM awkA (some awkT)) = none := by
  have hs : sideB awkA (ks (firstB kA 6)) 6 true = false := by
    rw [awkA_eq]; unfold sideB
    rw [List.any_cons, lead_A]; rfl
  show MP.und kB 256 (some (cutP awkA awkT)) = none
  rw [und_key kB_size]
  unfold awkT cutP undP
  rw [if_pos lead_B, hs]
  simp only [Bool.false_eq_true, if_false]
  show catO _ none = none
  unfold catO
  split
  · rename_i h; cases h
  · rfl
theorem awk_put : ∃ y, putO kA vC (cutM awkA (some awkT)) = some y ∧ MP.root y = MT.root (MT.put kA vC (some awkT)) := by
  refine ⟨MP.withM kA vC (cutM awkA (some awkT)), ?_, ?_⟩
  · unfold putO; rw [if_pos kA_size, if_neg awk_knows]
  · have h := put_sound (y := MP.withM kA vC (cutM awkA (some awkT))) (cutM_prune awkA (some awkT)) awk_wf kA vC (by unfold putO; rw [if_pos kA_size, if_neg awk_knows])
    exact pruneM_root h.1

set_option maxRecDepth 30000 in
set_option maxHeartbeats 2000000 in
theorem awake_prog (w : World) (hst : Start w) : Calls Tryz.prog 5 #[] w fun e w' => e = .returned (.bool true) ∧ Below w.heap.size w w' := by
  have HS := Lib.hid hst
  have HKA := Lib.hid (fun W => key_prog ⟨#[97]⟩ W (by decide))
  have HKB := Lib.hid (fun W => key_prog ⟨#[98]⟩ W (by decide))
  have HPA := Lib.hid (fun (x : Value) (W : World) (h : MAt W none x) (hs : Start W) => put_prog kA vA none x W (by rw [kA_size]; omega) (by decide) trivial (by decide) h hs)
  have HPB := Lib.hid (fun (x : Value) (W : World) (h : MAt W (some (.leaf kA vA)) x) (hs : Start W) => put_prog kB vB (some (.leaf kA vA)) x W (by rw [kB_size]; omega) (by decide) wf_A (by decide) h hs)
  have HPC := Lib.hid (fun (x : Value) (W : World) (h : MAt W (some awkT) x) (hs : Start W) => put_prog kA vC (some awkT) x W (by rw [kA_size]; omega) (by decide) awk_wf (by decide) h hs)
  rw [awk_m1] at HPA
  rw [awk_m2] at HPB
  have HSH := Lib.hid (fun (x v : Value) (W : World) (h : MAt W (some awkT) x) (hv : StrSl W v [kA]) => show_prog [kA] [] (some awkT) x v (.slice none 0 0) W (by decide) (by decide) awk_wf (by decide) h hv ⟨none, 0, rfl, Nat.le_refl _, fun h => absurd rfl h⟩)
  rw [show askL [kA] [] = awkA from rfl] at HSH
  obtain ⟨M1, hM1⟩ : ∃ M, M = some (Tr.leaf kA vA) := ⟨_, rfl⟩
  obtain ⟨M4, hM4⟩ : ∃ M, M = MT.put kA vC (some awkT) := ⟨_, rfl⟩
  obtain ⟨y, hy, hyr⟩ := awk_put
  obtain ⟨T, hT⟩ : ∃ T, T = showT awkA (some awkT) := ⟨_, rfl⟩
  obtain ⟨R, hR⟩ : ∃ R, R = MT.root (some awkT) := ⟨_, rfl⟩
  have hlenP : (MT.pairs (some awkT)).length ≤ 1000 := by decide
  have HTS := showL_len awkA (some awkT) awk_wf hlenP
  have hTs : T.size ≤ 10000000 := by
    rw [hT]; rw [← ks_length, ks_showT]; omega
  have HOP := Lib.hid (fun (W : World) (hs : Start W) => open_prog R T W hTs (by rw [hT, ks_showT]; exact (open_shown awkA (some awkT) awk_wf hlenP).2) hs)
  rw [hT, hR, open_shown_root awkA (some awkT) awk_wf hlenP, ← hT, ← hR] at HOP
  obtain ⟨C, hC⟩ : ∃ C, C = cutM awkA (some awkT) := ⟨_, rfl⟩
  have hfit : MP.fit C := by rw [hC]; exact cutM_fit awkA (some awkT) awk_wf hlenP
  have HGA := Lib.hid (fun (x : Value) (W : World) (h : PAt W C x) => get_part kA C x W hfit h)
  have HGB := Lib.hid (fun (x : Value) (W : World) (h : PAt W C x) => get_part kB C x W hfit h)
  have HPP := Lib.hid (fun (x : Value) (W : World) (h : PAt W C x) (hs : Start W) => put_part kA vC C x W (by decide) hfit h hs)
  rw [hC, gtV_sound (cutM_prune awkA (some awkT)) awk_wf kA kA_size awk_knows, awk_get, ← hC] at HGA
  rw [hC, awk_not, ← hC] at HGB
  rw [hC, hy, ← hC] at HPP
  rw [← hC] at HOP
  unfold EdRes at HPP HOP
  simp only [gtV, Option.getD_some, Option.isSome_some] at HGA HGB
  obtain ⟨R4, hR4⟩ : ∃ R, R = MT.root M4 := ⟨_, rfl⟩
  rw [← hM4] at HPC
  have HRM := Lib.hid (fun (x : Value) (W : World) (h : MAt W (some awkT) x) => root_prog h)
  have HRM4 := Lib.hid (fun (x : Value) (W : World) (h : MAt W M4 x) => root_prog h)
  have HRP := Lib.hid (fun (x : Value) (W : World) (h : PAt W y x) => root_part h)
  rw [hyr, ← hM4, ← hR4] at HRP
  rw [← hR4] at HRM4
  rw [← hR] at HRM
  rw [← hT] at HSH
  obtain ⟨M2, hM2⟩ : ∃ M, M = some awkT := ⟨_, rfl⟩
  rw [← hM1] at HPA HPB
  rw [← hM2] at HPB HSH HRM HPC
  obtain ⟨A, hA⟩ : ∃ A, A = kA := ⟨_, rfl⟩
  obtain ⟨B, hB⟩ : ∃ B, B = kB := ⟨_, rfl⟩
  rw [show keyB ⟨#[97]⟩ = A from hA.symm] at HKA
  rw [show keyB ⟨#[98]⟩ = B from hB.symm] at HKB
  rw [← hA] at HPA HGA HPP HPC HSH
  rw [← hB] at HPB HGB
  clear hst hA hB hM1 hM2 hM4 hR hR4 hT hC hy hyr hfit hTs HTS hlenP
  go_enter Tryz.func5, Tryz.ntmps5
  go_wp2_with fail
  refine (new_trie w).mono ?_
  rintro e w1 ⟨x1, rfl, hm1, hb1⟩
  have B1 := Lib.hid hb1
  have H1 := Lib.hid hm1
  clear hm1
  clear hb1
  go_wp2_with fail
  refine (HKA.out w1).mono ?_
  rintro e w2 ⟨rfl, hb2⟩
  have H1_2 := Lib.hid (H1.out.later hb2)
  have B2 := Lib.hid (B1.out.trans (hb2.mono B1.out.size))
  clear hb2
  go_wp2_with fail
  refine (HPA.out x1 w2 H1_2.out (HS.out.later B2.out)).mono ?_
  rintro e w3 ⟨x2, rfl, hm3, hb3⟩
  have H1_3 := Lib.hid (H1_2.out.later hb3)
  have B3 := Lib.hid (B2.out.trans (hb3.mono B2.out.size))
  have H2 := Lib.hid hm3
  clear hm3
  clear hb3
  go_wp2_with fail
  refine (HKB.out w3).mono ?_
  rintro e w4 ⟨rfl, hb4⟩
  have H2_4 := Lib.hid (H2.out.later hb4)
  have B4 := Lib.hid (B3.out.trans (hb4.mono B3.out.size))
  clear hb4
  go_wp2_with fail
  refine (HPB.out x2 w4 H2_4.out (HS.out.later B4.out)).mono ?_
  rintro e w5 ⟨x3, rfl, hm5, hb5⟩
  have H2_5 := Lib.hid (H2_4.out.later hb5)
  have B5 := Lib.hid (B4.out.trans (hb5.mono B4.out.size))
  have H3 := Lib.hid hm5
  clear hm5
  clear hb5
  go_wp2_with fail
  refine (HKA.out w5).mono ?_
  rintro e w6 ⟨rfl, hb6⟩
  have H3_6 := Lib.hid (H3.out.later hb6)
  have B6 := Lib.hid (B5.out.trans (hb6.mono B5.out.size))
  clear hb6
  obtain ⟨W, hW⟩ : ∃ W, W = w6.alloc (.cells #[.string A] 9) := ⟨_, rfl⟩
  have HW := Lib.hid hW
  have hbA : Below w6.heap.size w6 W := by rw [hW]; exact (Below.refl _ _).alloc (Nat.le_refl _) _
  have hsl : StrSl W (.slice (some ⟨w6.heap.size, 0, none⟩) 1 1) [A] := ⟨_, 1, rfl, fun _ => ⟨w6.heap.size, 0, rfl, by rw [hW]; simp, fun i x hx => by
    have hc : W.cell? ⟨w6.heap.size, 0, none⟩ = some (.string A) := by rw [hW]; simp [World.cell?_alloc_new]
    match i, hx with
    | 0, hx => obtain rfl : A = x := by simpa using hx
               exact hc⟩⟩
  have H3_7 := Lib.hid (H3_6.out.later hbA)
  have BW := Lib.hid (B6.out.trans (hbA.mono B6.out.size))
  have HSL := Lib.hid hsl
  clear hW hbA hsl
  go_wp2_with fail
  rw [← HW.out]
  refine (HSH.out x3 _ W H3_7.out HSL.out).mono ?_
  rintro e w7 ⟨rfl, hb7⟩
  have H3_7 := Lib.hid (H3_7.out.later hb7)
  have B7 := Lib.hid (BW.out.trans (hb7.mono BW.out.size))
  clear hb7
  go_wp2_with fail
  refine (HRM.out x3 w7 H3_7.out).mono ?_
  rintro e w8 ⟨rfl, hb8⟩
  have H3_8 := Lib.hid (H3_7.out.later hb8)
  have B8 := Lib.hid (B7.out.trans (hb8.mono B7.out.size))
  clear hb8
  go_wp2_with fail
  refine (HOP.out w8 (HS.out.later B8.out)).mono ?_
  rintro e w9 ⟨y1, rfl, hm9, hb9⟩
  have H3_9 := Lib.hid (H3_8.out.later hb9)
  have B9 := Lib.hid (B8.out.trans (hb9.mono B8.out.size))
  have P1 := Lib.hid hm9
  clear hm9
  clear hb9
  go_wp2_with fail
  refine (HKA.out w9).mono ?_
  rintro e w10 ⟨rfl, hb10⟩
  have H3_10 := Lib.hid (H3_9.out.later hb10)
  have P1_10 := Lib.hid (P1.out.later hb10)
  have B10 := Lib.hid (B9.out.trans (hb10.mono B9.out.size))
  clear hb10
  go_wp2_with fail
  refine (HGA.out y1 w10 P1_10.out).mono ?_
  rintro e w11 ⟨rfl, hb11⟩
  have H3_11 := Lib.hid (H3_10.out.later hb11)
  have P1_11 := Lib.hid (P1_10.out.later hb11)
  have B11 := Lib.hid (B10.out.trans (hb11.mono B10.out.size))
  clear hb11
  go_wp2_with fail
  refine (HKB.out w11).mono ?_
  rintro e w12 ⟨rfl, hb12⟩
  have H3_12 := Lib.hid (H3_11.out.later hb12)
  have P1_12 := Lib.hid (P1_11.out.later hb12)
  have B12 := Lib.hid (B11.out.trans (hb12.mono B11.out.size))
  clear hb12
  go_wp2_with fail
  refine (HGB.out y1 w12 P1_12.out).mono ?_
  rintro e w13 ⟨rfl, hb13⟩
  have H3_13 := Lib.hid (H3_12.out.later hb13)
  have P1_13 := Lib.hid (P1_12.out.later hb13)
  have B13 := Lib.hid (B12.out.trans (hb13.mono B12.out.size))
  clear hb13
  go_wp2_with fail
  refine (HKA.out w13).mono ?_
  rintro e w14 ⟨rfl, hb14⟩
  have H3_14 := Lib.hid (H3_13.out.later hb14)
  have P1_14 := Lib.hid (P1_13.out.later hb14)
  have B14 := Lib.hid (B13.out.trans (hb14.mono B13.out.size))
  clear hb14
  go_wp2_with fail
  refine (HPP.out y1 w14 P1_14.out (HS.out.later B14.out)).mono ?_
  rintro e w15 ⟨y2, rfl, hm15, hb15⟩
  have H3_15 := Lib.hid (H3_14.out.later hb15)
  have P1_15 := Lib.hid (P1_14.out.later hb15)
  have B15 := Lib.hid (B14.out.trans (hb15.mono B14.out.size))
  have P2 := Lib.hid hm15
  clear hm15
  clear hb15
  go_wp2_with fail
  refine (HRP.out y2 w15 P2.out).mono ?_
  rintro e w16 ⟨rfl, hb16⟩
  have H3_16 := Lib.hid (H3_15.out.later hb16)
  have P2_16 := Lib.hid (P2.out.later hb16)
  have B16 := Lib.hid (B15.out.trans (hb16.mono B15.out.size))
  clear hb16
  go_wp2_with fail
  refine (HKA.out w16).mono ?_
  rintro e w17 ⟨rfl, hb17⟩
  have H3_17 := Lib.hid (H3_16.out.later hb17)
  have B17 := Lib.hid (B16.out.trans (hb17.mono B16.out.size))
  clear hb17
  go_wp2_with fail
  refine (HPC.out x3 w17 H3_17.out (HS.out.later B17.out)).mono ?_
  rintro e w18 ⟨x4, rfl, hm18, hb18⟩
  have H3_18 := Lib.hid (H3_17.out.later hb18)
  have B18 := Lib.hid (B17.out.trans (hb18.mono B17.out.size))
  have H4 := Lib.hid hm18
  clear hm18
  clear hb18
  go_wp2_with fail
  refine (HRM4.out x4 w18 H4.out).mono ?_
  rintro e w19 ⟨rfl, hb19⟩
  have H4_19 := Lib.hid (H4.out.later hb19)
  have B19 := Lib.hid (B18.out.trans (hb19.mono B18.out.size))
  clear hb19
  go_wp2
  go_ret
  exact ⟨rfl, B19.out⟩
end Go.Proofs.YtmpjpaomgifpcaaGreatDoor
