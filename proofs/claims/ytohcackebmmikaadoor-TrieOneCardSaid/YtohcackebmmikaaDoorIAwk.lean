/- awake: two pairs. -/
import Derived.Test.YtohcackebmmikaaDoorIAwk0
namespace Go.Proofs.YtohcackebmmikaaDoor
open Go.RowKit

set_option maxRecDepth 30000 in
set_option maxHeartbeats 2000000 in
theorem awake_prog (w : World) (hst : Start w) : Calls Tryd.prog 10 #[] w fun e w' => e = .returned (.bool true) ∧ Below w.heap.size w w' := by
  have HS := Lib.hid hst
  have HKA := Lib.hid (fun W => key_prog ⟨#[97]⟩ W (by decide))
  have HKB := Lib.hid (fun W => key_prog ⟨#[98]⟩ W (by decide))
  have HPA := Lib.hid (fun (x : Value) (W : World) (h : MAt W none x) (hs : Start W) => put_prog kA vA none x W (by rw [kA_size]; omega) (by decide) trivial (by decide) h hs)
  have HPB := Lib.hid (fun (x : Value) (W : World) (h : MAt W (some (.leaf kA vA)) x) (hs : Start W) => put_prog kB vB (some (.leaf kA vA)) x W (by rw [kB_size]; omega) (by decide) wf_A (by decide) h hs)
  have HGA := Lib.hid (fun (x : Value) (W : World) (h : MAt W (some awkT) x) => get_prog kA (some awkT) x W (by rw [kA_size]; omega) awk_wf h)
  have HDA := Lib.hid (fun (x : Value) (W : World) (h : MAt W (some awkT) x) (hs : Start W) => del_prog kA (some awkT) x W (by rw [kA_size]; omega) awk_wf (by decide) h hs)
  have HDB := Lib.hid (fun (x : Value) (W : World) (h : MAt W (some (.leaf kB vB)) x) (hs : Start W) => del_prog kB (some (.leaf kB vB)) x W (by rw [kB_size]; omega) wf_B (by decide) h hs)
  rw [awk_m1] at HPA
  rw [awk_m2] at HPB
  rw [awk_get] at HGA
  rw [awk_m3] at HDA
  rw [awk_m4] at HDB
  obtain ⟨M1, hM1⟩ : ∃ M, M = some (Tr.leaf kA vA) := ⟨_, rfl⟩
  obtain ⟨M3, hM3⟩ : ∃ M, M = some (Tr.leaf kB vB) := ⟨_, rfl⟩
  obtain ⟨M2, hM2⟩ : ∃ M, M = some awkT := ⟨_, rfl⟩
  rw [← hM1] at HPA HPB
  rw [← hM3] at HDA HDB
  rw [← hM2] at HPB HGA HDA
  obtain ⟨A, hA⟩ : ∃ A, A = kA := ⟨_, rfl⟩
  obtain ⟨B, hB⟩ : ∃ B, B = kB := ⟨_, rfl⟩
  rw [show keyB ⟨#[97]⟩ = A from hA.symm] at HKA
  rw [show keyB ⟨#[98]⟩ = B from hB.symm] at HKB
  rw [← hA] at HPA HGA HDA
  rw [← hB] at HPB HDB
  obtain ⟨R, hR⟩ : ∃ R, R = MT.root M2 := ⟨_, rfl⟩
  have hRs : R.size = 32 := by rw [hR, hM2]; exact Tr.hash_size _
  have hRI : ((R.size : Int) == 32) = true := by rw [hRs]; rfl
  have hRne := str_ne (show ¬ R = noneH by rw [hR, hM2]; exact awk_ne)
  have HRT := Lib.hid (fun (x : Value) (W : World) (h : MAt W M2 x) => root_prog h)
  rw [← hR] at HRT
  have HL2 := Lib.hid (fun (x : Value) (W : World) (h : MAt W M2 x) => len_trie h)
  rw [show ((MT.pairs M2).length : Int) = 2 by rw [hM2]; rfl] at HL2
  have HL0 := Lib.hid (fun (x : Value) (W : World) (h : MAt W none x) => len_trie h)
  rw [show ((MT.pairs none).length : Int) = 0 from rfl] at HL0
  have HR0 := Lib.hid (fun (x : Value) (W : World) (h : MAt W none x) => root_prog h)
  rw [show MT.root none = noneH from rfl] at HR0
  obtain ⟨Z, hZ⟩ : ∃ Z, Z = noneH := ⟨_, rfl⟩
  rw [← hZ] at HR0 hRne
  clear hst hA hB hM1 hM2 hM3 hR hRs hZ
  go_enter Tryd.func10, Tryd.ntmps10
  go_wp2_with fail
  refine (new_trie w).mono ?_
  rintro e w1 ⟨x1, rfl, h1, hb1⟩
  have H1 := Lib.hid h1
  have B1 := Lib.hid hb1
  clear h1 hb1
  go_wp2_with fail
  refine (HKA.out w1).mono ?_
  rintro e w2 ⟨rfl, hb2⟩
  have H2 := Lib.hid (H1.out.later hb2)
  have B2 := Lib.hid (B1.out.trans (hb2.mono B1.out.size))
  clear hb2
  go_wp2_with fail
  refine (HPA.out x1 w2 H2.out (HS.out.later B2.out)).mono ?_
  rintro e w3 ⟨x3, rfl, h3, hb3⟩
  have H3 := Lib.hid h3
  have B3 := Lib.hid (B2.out.trans (hb3.mono B2.out.size))
  clear h3 hb3
  go_wp2_with fail
  refine (HKB.out w3).mono ?_
  rintro e w4 ⟨rfl, hb4⟩
  have H4 := Lib.hid (H3.out.later hb4)
  have B4 := Lib.hid (B3.out.trans (hb4.mono B3.out.size))
  clear hb4
  go_wp2_with fail
  refine (HPB.out x3 w4 H4.out (HS.out.later B4.out)).mono ?_
  rintro e w5 ⟨x5, rfl, h5, hb5⟩
  have H5 := Lib.hid h5
  have B5 := Lib.hid (B4.out.trans (hb5.mono B4.out.size))
  clear h5 hb5
  go_wp2_with fail
  refine (HKA.out w5).mono ?_
  rintro e w6 ⟨rfl, hb6⟩
  have H6 := Lib.hid (H5.out.later hb6)
  have B6 := Lib.hid (B5.out.trans (hb6.mono B5.out.size))
  clear hb6
  go_wp2_with fail
  refine (HGA.out x5 w6 H6.out).mono ?_
  rintro e w7 ⟨rfl, hs7⟩
  have hb7 := hs7.below w6.heap.size
  have H7 := Lib.hid (H6.out.later hb7)
  have B7 := Lib.hid (B6.out.trans (hb7.mono B6.out.size))
  clear hb7 hs7
  simp only [Option.getD_some, Option.isSome_some]
  go_wp2_with fail
  refine (HKA.out w7).mono ?_
  rintro e w8 ⟨rfl, hb8⟩
  have H8 := Lib.hid (H7.out.later hb8)
  have B8 := Lib.hid (B7.out.trans (hb8.mono B7.out.size))
  clear hb8
  go_wp2_with fail
  refine (HDA.out x5 w8 H8.out (HS.out.later B8.out)).mono ?_
  rintro e w9 ⟨x9, rfl, h9, hb9⟩
  have H9 := Lib.hid h9
  have G9 := Lib.hid (H8.out.later hb9)
  have B9 := Lib.hid (B8.out.trans (hb9.mono B8.out.size))
  clear h9 hb9
  go_wp2_with fail
  refine (HKB.out w9).mono ?_
  rintro e w10 ⟨rfl, hb10⟩
  have H10 := Lib.hid (H9.out.later hb10)
  have G10 := Lib.hid (G9.out.later hb10)
  have B10 := Lib.hid (B9.out.trans (hb10.mono B9.out.size))
  clear hb10
  go_wp2_with fail
  refine (HDB.out x9 w10 H10.out (HS.out.later B10.out)).mono ?_
  rintro e w11 ⟨x11, rfl, h11, hb11⟩
  have H11 := Lib.hid h11
  have G11 := Lib.hid (G10.out.later hb11)
  have B11 := Lib.hid (B10.out.trans (hb11.mono B10.out.size))
  clear h11 hb11
  go_wp2_with fail
  refine (HL2.out x5 w11 G11.out).mono ?_
  rintro e w12 ⟨rfl, rfl⟩
  go_wp2_with fail
  refine (HL0.out x11 w11 H11.out).mono ?_
  rintro e w12 ⟨rfl, rfl⟩
  go_wp2_with fail
  refine (HRT.out x5 w11 G11.out).mono ?_
  rintro e w12 ⟨rfl, hb12⟩
  have H12 := Lib.hid (H11.out.later hb12)
  have G12 := Lib.hid (G11.out.later hb12)
  have B12 := Lib.hid (B11.out.trans (hb12.mono B11.out.size))
  clear hb12
  go_wp2_with fail
  refine (HRT.out x5 w12 G12.out).mono ?_
  rintro e w13 ⟨rfl, hb13⟩
  have H13 := Lib.hid (H12.out.later hb13)
  have B13 := Lib.hid (B12.out.trans (hb13.mono B12.out.size))
  clear hb13
  go_wp2_with fail
  refine (HR0.out x11 w13 H13.out).mono ?_
  rintro e w14 ⟨rfl, hb14⟩
  have H14 := Lib.hid (H13.out.later hb14)
  have B14 := Lib.hid (B13.out.trans (hb14.mono B13.out.size))
  clear hb14
  go_wp2_with fail
  refine (HR0.out x11 w14 H14.out).mono ?_
  rintro e w15 ⟨rfl, hb15⟩
  have B15 := Lib.hid (B14.out.trans (hb15.mono B14.out.size))
  clear hb15
  go_wp2_with fail
  refine (new_trie w15).mono ?_
  rintro e w16 ⟨x16, rfl, h16, hb16⟩
  have H16 := Lib.hid h16
  have B16 := Lib.hid (B15.out.trans (hb16.mono B15.out.size))
  clear h16 hb16
  go_wp2_with fail
  refine (HR0.out x16 w16 H16.out).mono ?_
  rintro e w17 ⟨rfl, hb17⟩
  have B17 := Lib.hid (B16.out.trans (hb17.mono B16.out.size))
  clear hb17
  go_wp2
  go_ret
  exact ⟨rfl, B17.out⟩
end Go.Proofs.YtohcackebmmikaaDoor
