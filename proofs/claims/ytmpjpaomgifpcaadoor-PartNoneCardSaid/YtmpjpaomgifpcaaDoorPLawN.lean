/- part's promise of none: the law. -/
import Derived.Test.YtmpjpaomgifpcaaDoorPNone
namespace Go.Proofs.YtmpjpaomgifpcaaDoor
open Go.RowKit
set_option maxRecDepth 30000 in
set_option maxHeartbeats 4000000 in
theorem none_law (s : ByteArray) (n : Int) (w : World) (hst : Start w) (_ : s.size ≤ maxLen) (_ : (Lit.int .i64 n).wf = true) : Calls Tryd.prog 5 #[.string s, .int .i64 n] w fun e w' => e = .returned (.bool true) ∧ Below w.heap.size w w' := by
  have HAW := Lib.hid (awake_prog w hst)
  have HS := Lib.hid hst
  clear hst
  by_cases hbig : (100 : Int) < (s.size : Int)
  · go_enter Tryd.func5, Tryd.ntmps5
    go_wp2_with fail
    refine HAW.out.mono ?_
    rintro e w1 ⟨rfl, hb1⟩
    go_wp2
    go_ret
    exact ⟨rfl, hb1⟩
  have hs : s.size ≤ 100 := by omega
  obtain ⟨K, hK⟩ : ∃ K, K = keyB s := ⟨_, rfl⟩
  have hKs : K.size = 32 := by rw [hK]; exact keyB_size _
  have HKY := Lib.hid (fun W => key_prog s W (by omega))
  rw [← hK] at HKY
  have HG0 := Lib.hid (fun W => get_nil K W)
  have HU0 := Lib.hid (fun W => under_nil K n W)
  have HP0 := Lib.hid (fun W => put_nil K ⟨#[120]⟩ W)
  have HD0 := Lib.hid (fun W => del_nil K W)
  have HR0 := Lib.hid root_nil
  have HT0 := Lib.hid top_nil
  obtain ⟨A, hA⟩ : ∃ A, A = askL [K] [(K, n)] := ⟨_, rfl⟩
  obtain ⟨T, hT⟩ : ∃ T, T = showT A none := ⟨_, rfl⟩
  have HSH := Lib.hid (fun (kv uv : Value) (W : World) (hv : StrSl W kv [K]) (hu : ASl W uv [(K, n)]) => show_prog [K] [(K, n)] none (.pointer none) kv uv W (by simp) (by simp) trivial (by decide) (.inl ⟨rfl, rfl⟩) hv hu)
  rw [← hA, ← hT] at HSH
  have hlenP : (MT.pairs none).length ≤ 1000 := by decide
  have HTS := showL_len A none trivial hlenP
  have hTs : T.size ≤ 10000000 := by
    rw [hT]; rw [← ks_length, ks_showT]; omega
  have HOP := Lib.hid (fun (W : World) (hs : Start W) => open_prog noneH T W hTs (by rw [hT, ks_showT]; exact (open_shown A none trivial hlenP).2) hs)
  rw [show openO noneH (ks T) = some none by rw [hT]; exact open_shown_root A none trivial hlenP] at HOP
  have HGP := Lib.hid (fun (x : Value) (W : World) (h : PAt W none x) => get_part K none x W trivial h)
  have HUP := Lib.hid (fun (x : Value) (W : World) (h : PAt W none x) => under_part K n none x W trivial h)
  have HPP := Lib.hid (fun (x : Value) (W : World) (h : PAt W none x) (hs' : Start W) => put_part K s none x W (by omega) trivial h hs')
  rw [show MP.und K 256 none = some [] from rfl] at HGP
  rw [show MP.und K n none = some [] from rfl] at HUP
  rw [show putO K s none = some (some (.leaf K s)) by unfold putO; rw [if_pos hKs, if_neg (by simp [MP.und])]; rfl] at HPP
  unfold EdRes at HPP HOP
  unfold UdRes at HUP
  simp only [gtV, Option.isSome_some] at HGP HUP
  obtain ⟨M, hM⟩ : ∃ M, M = MT.put K s none := ⟨_, rfl⟩
  obtain ⟨R, hR⟩ : ∃ R, R = MT.root M := ⟨_, rfl⟩
  have hRR : MP.root (some (.leaf K s)) = R := by
    rw [hR, hM]; unfold MT.put; rw [if_pos hKs]; rfl
  have HRP := Lib.hid (fun (x : Value) (W : World) (h : PAt W (some (.leaf K s)) x) => root_part h)
  rw [hRR] at HRP
  have HPT := Lib.hid (fun (x : Value) (W : World) (h : MAt W none x) (hs' : Start W) => put_prog K s none x W (by omega) (by omega) trivial (by decide) h hs')
  rw [← hM] at HPT
  have HRM := Lib.hid (fun (x : Value) (W : World) (h : MAt W M x) => root_prog h)
  rw [← hR] at HRM
  obtain ⟨Z, hZ⟩ : ∃ Z, Z = noneH := ⟨_, rfl⟩
  have HEM := Lib.hid (fun W => empty_prog W)
  rw [← hZ] at HOP HEM
  obtain ⟨L, hL⟩ : ∃ L, L = PT.leaf K s := ⟨_, rfl⟩
  rw [← hL] at HPP HRP
  clear hK hA hT hTs HTS hlenP hM hR hRR hZ hKs hL hs
  go_enter Tryd.func5, Tryd.ntmps5
  go_wp2_with fail
  refine (HAW.out).mono ?_
  rintro e w_1 ⟨rfl, hb1⟩
  have B_1 := Lib.hid hb1
  clear hb1
  go_wp2_with fail
  refine (HKY.out w_1).mono ?_
  rintro e w_2 ⟨rfl, hb2⟩
  have B_2 := Lib.hid (B_1.out.trans (hb2.mono B_1.out.size))
  clear hb2
  go_wp2_with fail
  refine (HG0.out w_2).mono ?_
  rintro e w_3 ⟨rfl, hb3⟩
  have B_3 := Lib.hid (B_2.out.trans (hb3.mono B_2.out.size))
  clear hb3
  go_wp2_with fail
  refine (HU0.out w_3).mono ?_
  rintro e w_4 ⟨rfl, hb4⟩
  have B_4 := Lib.hid (B_3.out.trans (hb4.mono B_3.out.size))
  clear hb4
  go_wp2_with fail
  refine (HP0.out w_4).mono ?_
  rintro e w_5 ⟨rfl, hb5⟩
  have B_5 := Lib.hid (B_4.out.trans (hb5.mono B_4.out.size))
  clear hb5
  go_wp2_with fail
  refine (HD0.out w_5).mono ?_
  rintro e w_6 ⟨rfl, hb6⟩
  have B_6 := Lib.hid (B_5.out.trans (hb6.mono B_5.out.size))
  clear hb6
  obtain ⟨W1, hW1⟩ : ∃ x, x = ((w_6.alloc (.cells #[.string K] 9)).alloc (.cells #[.string K, .int .i64 n] 63)) := ⟨_, rfl⟩
  have hb7 : Below w_6.heap.size w_6 W1 := by rw [hW1]; exact (((Below.refl w_6.heap.size w_6).alloc (Nat.le_refl _) _).alloc (alloc_le _ _) _)
  have HW1 := Lib.hid hW1
  have B_7 := Lib.hid (B_6.out.trans (hb7.mono B_6.out.size))
  have HSL : Hid (StrSl W1 (.slice (some ⟨w_6.heap.size, 0, none⟩) 1 1) [K]) := Lib.hid ⟨_, 1, rfl, fun _ => ⟨w_6.heap.size, 0, rfl, by rw [hW1]; simp; omega, fun i x hx => by
    have hc : W1.cell? ⟨w_6.heap.size, 0, none⟩ = some (.string K) := by rw [hW1]; exact cellA _ (by simp [World.cell?_alloc_new])
    match i, hx with
    | 0, hx => obtain rfl : K = x := by simpa using hx
               exact hc⟩⟩
  have HUL : Hid (ASl W1 (.slice (some ⟨w_6.heap.size + 1, 0, none⟩) 1 1) [(K, n)]) := Lib.hid ⟨_, 1, rfl, Nat.le_refl _, fun _ => ⟨w_6.heap.size + 1, 0, rfl, by rw [hW1]; simp, fun i x hx => by
    have hq := ask_cells (w := W1) (b := w_6.heap.size + 1) (k := K) (n := n) (by rw [hW1]; have h := heap_alloc_new (w_6.alloc (.cells #[.string K] 9)) (.cells #[.string K, .int .i64 n] 63); simpa using h)
    match i, hx with
    | 0, hx => obtain rfl : (K, n) = x := by simpa using hx
               exact hq⟩⟩
  clear hW1 hb7
  go_wp2_with fail
  rw [← HW1.out]
  refine (HSH.out _ _ W1 HSL.out HUL.out).mono ?_
  rintro e w_8 ⟨rfl, hb8⟩
  have B_8 := Lib.hid (B_7.out.trans (hb8.mono B_7.out.size))
  clear hb8
  go_wp2_with fail
  refine (HEM.out w_8).mono ?_
  rintro e w_9 ⟨rfl, hb9⟩
  have B_9 := Lib.hid (B_8.out.trans (hb9.mono B_8.out.size))
  clear hb9
  go_wp2_with fail
  refine (HOP.out w_9 (HS.out.later B_9.out)).mono ?_
  rintro e w_10 ⟨y1, rfl, hm10, hb10⟩
  have B_10 := Lib.hid (B_9.out.trans (hb10.mono B_9.out.size))
  have P1 := Lib.hid hm10
  clear hm10
  clear hb10
  go_wp2_with fail
  refine (HGP.out y1 w_10 P1.out).mono ?_
  rintro e w_11 ⟨rfl, hb11⟩
  have P1_11 := Lib.hid (P1.out.later hb11)
  have B_11 := Lib.hid (B_10.out.trans (hb11.mono B_10.out.size))
  clear hb11
  go_wp2_with fail
  refine (HUP.out y1 w_11 P1_11.out).mono ?_
  rintro e w_12 ⟨uv, rfl, hgp, hb12⟩
  have P1_12 := Lib.hid (P1_11.out.later hb12)
  have B_12 := Lib.hid (B_11.out.trans (hb12.mono B_11.out.size))
  obtain ⟨ua, uc, rfl, _⟩ := POwn.shape hgp
  clear hb12 hgp
  go_wp2_with fail
  refine (HPP.out y1 w_12 P1_12.out (HS.out.later B_12.out)).mono ?_
  rintro e w_13 ⟨y2, rfl, hm13, hb13⟩
  have P1_13 := Lib.hid (P1_12.out.later hb13)
  have B_13 := Lib.hid (B_12.out.trans (hb13.mono B_12.out.size))
  have P2 := Lib.hid hm13
  clear hm13
  clear hb13
  go_wp2_with fail
  refine (HR0.out w_13).mono ?_
  rintro e wz ⟨rfl, rfl⟩
  go_wp2_with fail
  refine (HT0.out w_13).mono ?_
  rintro e wz ⟨rfl, rfl⟩
  go_wp2_with fail
  refine (HRP.out y2 w_13 P2.out).mono ?_
  rintro e w_16 ⟨rfl, hb16⟩
  have P2_16 := Lib.hid (P2.out.later hb16)
  have B_16 := Lib.hid (B_13.out.trans (hb16.mono B_13.out.size))
  clear hb16
  go_wp2_with fail
  refine (new_trie w_16).mono ?_
  rintro e w_17 ⟨x1, rfl, hm17, hb17⟩
  have B_17 := Lib.hid (B_16.out.trans (hb17.mono B_16.out.size))
  have M1 := Lib.hid hm17
  clear hm17
  clear hb17
  go_wp2_with fail
  refine (HPT.out x1 w_17 M1.out (HS.out.later B_17.out)).mono ?_
  rintro e w_18 ⟨x2, rfl, hm18, hb18⟩
  have M1_18 := Lib.hid (M1.out.later hb18)
  have B_18 := Lib.hid (B_17.out.trans (hb18.mono B_17.out.size))
  have M2 := Lib.hid hm18
  clear hm18
  clear hb18
  go_wp2_with fail
  refine (HRM.out x2 w_18 M2.out).mono ?_
  rintro e w_19 ⟨rfl, hb19⟩
  have M2_19 := Lib.hid (M2.out.later hb19)
  have B_19 := Lib.hid (B_18.out.trans (hb19.mono B_18.out.size))
  clear hb19
  go_wp2
  go_ret
  exact ⟨rfl, B_19.out⟩
end Go.Proofs.YtmpjpaomgifpcaaDoor
