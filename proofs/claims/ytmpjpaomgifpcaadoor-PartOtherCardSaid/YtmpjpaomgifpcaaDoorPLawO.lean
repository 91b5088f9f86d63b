/- part's promise of another map's root: the law. -/
import Derived.Test.YtmpjpaomgifpcaaDoorPNone
import Derived.Test.YtmpjpaomgifpcaaDoorPArg
import Derived.Test.YtmpjpaomgifpcaaDoorBClash
import Derived.Test.YtmpjpaomgifpcaaDoorBRefF
namespace Go.Proofs.YtmpjpaomgifpcaaDoor
open Go.RowKit
def MT.txs (m : Option Tr) : List ByteArray := (MT.texts m).map bs
theorem texts_any (m : Option Tr) (lv : Value) (w : World) (hm : MT.wf m) (hl : (MT.pairs m).length ≤ 100) (h : PSl w lv (MT.pairs m)) : Calls Tryd.prog 21 #[lv] w (TxRes w (MT.txs m)) := by
  match m, hm, hl, h with
  | none, _, _, ⟨a, c, e, _, _⟩ =>
    rw [e]
    refine (texts_none a c w).mono ?_
    rintro e w' ⟨rfl, rfl⟩
    exact ⟨_, rfl, SOwn.nil _ _, Below.refl _ _⟩
  | some t, hm, hl, h => exact texts_ref t lv w hm hl h
theorem texts_size : ∀ (t : Tr), t.sz → ∀ x ∈ t.texts, x.length ≤ 10000
  | .leaf k v, h, x, hx => by
    simp only [Tr.texts, List.mem_cons, List.not_mem_nil, or_false] at hx
    rcases hx with rfl | rfl
    · rw [ks_length]; have := h.2; omega
    · exact Nat.le_trans (last_size (.leaf k v) h) (by decide)
  | .fork p k z o, h, x, hx => by
    simp only [Tr.texts, List.mem_append, List.mem_singleton] at hx
    rcases hx with (hx | hx) | rfl
    · exact texts_size z h.2.2.1 x hx
    · exact texts_size o h.2.2.2 x hx
    · exact Nat.le_trans (last_size (.fork p k z o) h) (by decide)
theorem MT.txs_size {m : Option Tr} (hm : MT.wf m) : ∀ x ∈ MT.txs m, x.size ≤ 100000 := by
  intro x hx
  obtain ⟨y, hy, rfl⟩ := List.mem_map.1 hx
  rw [bs_size]
  match m, hm, hy with
  | none, _, hy => cases hy
  | some t, hm, hy => have := texts_size t (Tr.wf_sz hm) y hy; omega
theorem MT.txs_length {m : Option Tr} : (MT.txs m).length ≤ 3 * (MT.pairs m).length := by
  unfold MT.txs
  rw [List.length_map]
  match m with
  | none => exact Nat.zero_le _
  | some t => have := texts_len t; show t.texts.length ≤ 3 * t.pairs.length; omega
theorem clash_of {m n : Option Tr} (h : (∃ x ∈ MT.texts m ++ MT.texts n, sumB x = noneH) ∨ ClashP (MT.texts m ++ MT.texts n)) : ClB (MT.txs m ++ MT.txs n) := by
  have hmem : ∀ x ∈ MT.texts m ++ MT.texts n, bs x ∈ MT.txs m ++ MT.txs n := fun x hx => by
    unfold MT.txs; rw [← List.map_append]; exact List.mem_map_of_mem hx
  have hh : ∀ x, hB (bs x) = sumB x := fun x => by unfold hB; rw [ks_bs]
  rcases h with ⟨x, hx, e⟩ | ⟨x, hx, y, hy, hne, e⟩
  · exact .inl ⟨bs x, hmem x hx, by rw [hh]; exact e⟩
  · refine .inr ⟨bs x, hmem x hx, bs y, hmem y hy, fun h => hne ?_, ?_⟩
    · rw [← ks_bs x, ← ks_bs y, h]
    · rw [hh, hh]; unfold sumB; rw [e]


set_option maxRecDepth 30000 in
set_option maxHeartbeats 4000000 in
theorem other_law (la : Option Addr) (ln lc : Nat) (lb : Option Addr) (mn mc : Nat) (av : Value) (w : World) (hst : Start w) (hl : ln ≤ maxLen) (hu : ActsAt w la ln) (hm : mn ≤ maxLen) (hv : ActsAt w lb mn) (ha : AskAt w av) :
    Calls Tryd.prog 4 #[.slice la ln lc, .slice lb mn mc, av] w fun e w' => e = .returned (.bool true) ∧ Below w.heap.size w w' := by
  obtain ⟨L, rfl, hL⟩ := acts_list hu
  obtain ⟨J, rfl, hJ⟩ := acts_list hv
  obtain ⟨K, U, kv, uv, rfl, hK, hU, hKs, hUs, hks, hus⟩ := ha
  obtain ⟨W0, hW0⟩ : ∃ W, W = w.alloc (.cells #[kv, uv] 41) := ⟨_, rfl⟩
  have hbW : Below w.heap.size w W0 := by rw [hW0]; exact (Below.refl _ _).alloc (Nat.le_refl _) _
  obtain ⟨c0, c1⟩ := two_cells (w := W0) (b := w.heap.size) (by rw [hW0]; exact heap_alloc_new _ _)
  have hgW : w.heap.size < W0.heap.size := by rw [hW0]; simp
  have HL := Lib.hid hL
  have HJ := Lib.hid hJ
  have HS := Lib.hid hst
  have HA := Lib.hid (awake_prog W0 (hst.later hbW))
  have HKY := Lib.hid (fun (W : World) (hb : Below w.heap.size w W) => keys_prog K U kv uv W hK hU hKs hUs (hks.later hb) (hus.later hb))
  have HSM := Lib.hid (fun (W : World) (hb : Below w.heap.size w W) => small_prog L 20 la lc W hl (by omega) (by omega) (HL.out.later hb))
  have HSJ := Lib.hid (fun (W : World) (hb : Below w.heap.size w W) => small_prog J 20 lb mc W hm (by omega) (by omega) (HJ.out.later hb))
  have HBW := Lib.hid hbW
  have HW0 := Lib.hid hW0
  have HK1 := Lib.hid hks
  have HU1 := Lib.hid hus
  obtain ⟨ka, kc, rfl, _⟩ := hks
  obtain ⟨ua, uc, rfl, _, _⟩ := hus
  clear hst hu hL hl hJ hv hm hK hU hKs hUs hbW hW0
  go_enter Tryd.func4, Tryd.ntmps4
  go_wp2_with fail
  rw [← HW0.out]
  refine HA.out.mono ?_
  rintro e w1 ⟨rfl, hb1⟩
  have B1 := Lib.hid (HBW.out.trans (hb1.mono HBW.out.size))
  have d0 : w1.cell? ⟨w.heap.size, 0, none⟩ = some (.slice ka K.length kc) := by rw [hb1.cell (p := ⟨w.heap.size, 0, none⟩) hgW]; exact c0
  have d1 : w1.cell? ⟨w.heap.size, 1, none⟩ = some (.slice ua U.length uc) := by rw [hb1.cell (p := ⟨w.heap.size, 1, none⟩) hgW]; exact c1
  clear hb1 c0 c1 hgW HBW
  go_wp2_with fail
  refine (HKY.out w1 B1.out).mono ?_
  rintro e w2 ⟨kv2, uv2, b, rfl, hb2, hky⟩
  have B2 := Lib.hid (B1.out.trans (hb2.mono B1.out.size))
  clear hb2 d0 d1
  go_wp2_with fail
  refine (HSM.out w2 B2.out).mono ?_
  rintro e w3 ⟨bs, rfl, hsm, hb3⟩
  have B3 := Lib.hid (B2.out.trans (hb3.mono B2.out.size))
  cases bs with
  | false =>
    clear hsm hky hb3
    go_wp2_with fail
    go_ret
    exact ⟨rfl, B3.out⟩
  | true =>
  obtain ⟨hlen, hsmall⟩ := hsm rfl
  have HKYQ := Lib.hid hky
  clear hsm hky
  go_wp2_with fail
  refine (HSJ.out w3 B3.out).mono ?_
  rintro e w3b ⟨bs, rfl, hsj, hb3b⟩
  have B3b := Lib.hid (B3.out.trans (hb3b.mono B3.out.size))
  cases bs with
  | false =>
    clear HKYQ hb3 hsj hb3b
    go_wp2_with fail
    go_ret
    exact ⟨rfl, B3b.out⟩
  | true =>
  cases b with
  | false =>
    clear HKYQ hb3 hsj hb3b
    go_wp2_with fail
    go_ret
    exact ⟨rfl, B3b.out⟩
  | true =>
    obtain ⟨hlenJ, hsmallJ⟩ := hsj rfl
    obtain ⟨hka, hua, hK8, hU4, hshK, hshU, qa, qc, rfl, hqc⟩ := HKYQ.out rfl
    have HKV := Lib.hid ((hka.later hb3).later hb3b)
    have HUV := Lib.hid ((hua.later hb3).later hb3b)
    have HM := Lib.hid (fun (W : World) (hb : Below w.heap.size w W) => made_prog L la lc W (by omega) hsmall (HL.out.later hb) (HS.out.later hb))
    have HN := Lib.hid (fun (W : World) (hb : Below w.heap.size w W) => made_prog J lb mc W (by omega) hsmallJ (HJ.out.later hb) (HS.out.later hb))
    obtain ⟨hwf, hml⟩ := made_ok L hsmall
    obtain ⟨hwn, hnl⟩ := made_ok J hsmallJ
    obtain ⟨M, hM⟩ : ∃ M, M = madeT L := ⟨_, rfl⟩
    obtain ⟨N, hN⟩ : ∃ N, N = madeT J := ⟨_, rfl⟩
    rw [← hM] at HM hwf hml
    rw [← hN] at HN hwn hnl
    have hMn : (MT.pairs M).length ≤ 20 := by omega
    have hNn : (MT.pairs N).length ≤ 20 := by omega
    obtain ⟨KK, hKK⟩ : ∃ x, x = K.map keyB := ⟨_, rfl⟩
    obtain ⟨UU, hUU⟩ : ∃ x, x = U.map keyI := ⟨_, rfl⟩
    have hKKl : KK.length = K.length := by rw [hKK, List.length_map]
    have hUUl : UU.length = U.length := by rw [hUU, List.length_map]
    rw [← hKK] at HKV
    rw [← hUU] at HUV
    obtain ⟨Aa, hAa⟩ : ∃ A, A = askL KK UU := ⟨_, rfl⟩
    obtain ⟨Ta, hTa⟩ : ∃ A, A = showT Aa M := ⟨_, rfl⟩
    have hla : Ta.size ≤ 10000000 := by
      have := showL_len Aa M hwf (by omega)
      rw [hTa, ← ks_length, ks_showT]; omega
    have HSA := Lib.hid (fun (x kv uv : Value) (W : World) (h : MAt W M x) (hk : StrSl W kv KK) (hu : ASl W uv UU) => show_prog KK UU M x kv uv W (by omega) (by omega) hwf (by omega) h hk hu)
    rw [← hAa, ← hTa] at HSA
    have HRN := Lib.hid (fun (x : Value) (W : World) (h : MAt W N x) => root_prog h)
    have HOA := Lib.hid (fun (W : World) (hs : Start W) => open_prog (MT.root N) Ta W hla (by rw [hTa, ks_showT]; exact (open_shown Aa M hwf (by omega)).2) hs)
    have hop : openO (MT.root N) (ks Ta) = if MT.root M = MT.root N then some (cutM Aa M) else none := by
      unfold openO
      rw [hTa, ks_showT, (open_shown Aa M hwf (by omega)).1]
      simp only
      rw [cutM_root Aa M]
    rw [hop] at HOA
    have HSAME := Lib.hid (fun (va vb : Value) (W : World) (h1 : PSl W va (MT.pairs M)) (h2 : PSl W vb (MT.pairs N)) => same_ref _ _ va vb W (by omega) h1 h2)
    have HTM := Lib.hid (fun (v : Value) (W : World) (h : PSl W v (MT.pairs M)) => texts_any M v W hwf (by omega) h)
    have HTN := Lib.hid (fun (v : Value) (W : World) (h : PSl W v (MT.pairs N)) => texts_any N v W hwn (by omega) h)
    have hone := MT.one hwf hwn
    have hcl := MT.clash hwf hwn
    have hsz : ∀ x ∈ MT.txs M ++ MT.txs N, x.size ≤ 100000 := fun x hx => by
      rcases List.mem_append.1 hx with hx | hx
      · exact MT.txs_size hwf x hx
      · exact MT.txs_size hwn x hx
    have hln : (MT.txs M).length + (MT.txs N).length ≤ 1000 := by
      have h1 := @MT.txs_length M
      have h2 := @MT.txs_length N
      omega
    have HSZ := Lib.hid hsz
    have HLN := Lib.hid hln
    obtain ⟨CM, hCM⟩ : ∃ C, C = cutM Aa M := ⟨_, rfl⟩
    obtain ⟨RM, hRM⟩ : ∃ R, R = MT.root M := ⟨_, rfl⟩
    obtain ⟨RN, hRN⟩ : ∃ R, R = MT.root N := ⟨_, rfl⟩
    rw [← hRN] at HRN
    rw [← hRN, ← hRM, ← hCM] at HOA
    have HONE := Lib.hid hone
    have HCL := Lib.hid (show RM = RN → _ from fun e => hcl (by rw [← hRM, ← hRN]; exact e))
    have HEQ := Lib.hid (show M = N → RM = RN from fun e => by rw [hRM, hRN, e])
    clear hsj HKYQ hka hua hlen hlenJ hM hN hKK hUU hAa hTa hla hRM hRN hop hshK hshU hb3 hb3b hml hnl hone hcl hsz hln hqc hwf hwn hMn hNn hsmall hsmallJ hKKl hUUl hCM
    go_wp2_with fail
    refine (HM.out w3b B3b.out).mono ?_
    rintro e w4 ⟨x, wv, rfl, hx4, hw4, hb4⟩
    have X := Lib.hid hx4
    have PW := Lib.hid (POwn.sl hw4)
    have B4 := Lib.hid (B3b.out.trans (hb4.mono B3b.out.size))
    have KV4 := Lib.hid (HKV.out.later hb4)
    have UV4 := Lib.hid (HUV.out.later hb4)
    clear hx4 hw4 hb4
    go_wp2_with fail
    refine (HN.out w4 B4.out).mono ?_
    rintro e w5 ⟨y, wu, rfl, hx5, hw5, hb5⟩
    have Y := Lib.hid hx5
    have PU := Lib.hid (POwn.sl hw5)
    have X5 := Lib.hid (X.out.later hb5)
    have PW5 := Lib.hid (PW.out.later hb5)
    have KV5 := Lib.hid (KV4.out.later hb5)
    have UV5 := Lib.hid (UV4.out.later hb5)
    have B5 := Lib.hid (B4.out.trans (hb5.mono B4.out.size))
    clear hx5 hw5 hb5
    go_wp2_with fail
    refine (HSA.out x _ _ w5 X5.out KV5.out UV5.out).mono ?_
    rintro e w_1 ⟨rfl, hb1⟩
    have X5_1 := Lib.hid (X5.out.later hb1)
    have Y_1 := Lib.hid (Y.out.later hb1)
    have PW5_1 := Lib.hid (PW5.out.later hb1)
    have PU_1 := Lib.hid (PU.out.later hb1)
    have KV5_1 := Lib.hid (KV5.out.later hb1)
    have UV5_1 := Lib.hid (UV5.out.later hb1)
    have B_1 := Lib.hid (B5.out.trans (hb1.mono B5.out.size))
    clear hb1
    go_wp2_with fail
    refine (HRN.out y w_1 Y_1.out).mono ?_
    rintro e w_2 ⟨rfl, hb2⟩
    have Y_2 := Lib.hid (Y_1.out.later hb2)
    have PW5_2 := Lib.hid (PW5_1.out.later hb2)
    have PU_2 := Lib.hid (PU_1.out.later hb2)
    have B_2 := Lib.hid (B_1.out.trans (hb2.mono B_1.out.size))
    clear hb2
    cases hsb : sameB (MT.pairs M) (MT.pairs N) with
    | true =>
      have hMN : RM = RN := HEQ.out (HONE.out (of_decide_eq_true hsb))
      rw [if_pos hMN] at HOA
      unfold EdRes at HOA
      rw [hsb] at HSAME
      clear hsb hMN
      go_wp2_with fail
      refine (HOA.out w_2 (HS.out.later B_2.out)).mono ?_
      rintro e w_30 ⟨xa, rfl, hm30, hb30⟩
      have PW5_30 := Lib.hid (PW5_2.out.later hb30)
      have PU_30 := Lib.hid (PU_2.out.later hb30)
      have B_30 := Lib.hid (B_2.out.trans (hb30.mono B_2.out.size))
      have PA := Lib.hid hm30
      clear hm30
      clear hb30
      go_wp2_with fail
      refine (HSAME.out wv wu w_30 PW5_30.out PU_30.out).mono ?_
      rintro e w_31 ⟨rfl, hs31⟩
      have hb31 := hs31.below w_30.heap.size
      have PW5_31 := Lib.hid (PW5_30.out.later hb31)
      have PU_31 := Lib.hid (PU_30.out.later hb31)
      have PA_31 := Lib.hid (PA.out.later hb31)
      have B_31 := Lib.hid (B_30.out.trans (hb31.mono B_30.out.size))
      clear hb31 hs31
      go_wp2
      go_ret
      exact ⟨rfl, B_31.out⟩
    | false =>
      have hne : ¬ M = N := fun e => by rw [e] at hsb; simp [sameB] at hsb
      by_cases hR : RM = RN
      · have hcb : ClB (MT.txs M ++ MT.txs N) := clash_of ((HCL.out hR).resolve_left hne)
        have HCB := Lib.hid hcb
        rw [if_pos hR] at HOA
        unfold EdRes at HOA
        rw [hsb] at HSAME
        clear hsb hne hcb hR
        go_wp2_with fail
        refine (HOA.out w_2 (HS.out.later B_2.out)).mono ?_
        rintro e w_30 ⟨xa, rfl, hm30, hb30⟩
        have PW5_30 := Lib.hid (PW5_2.out.later hb30)
        have PU_30 := Lib.hid (PU_2.out.later hb30)
        have B_30 := Lib.hid (B_2.out.trans (hb30.mono B_2.out.size))
        have PA := Lib.hid hm30
        clear hm30
        clear hb30
        go_wp2_with fail
        refine (HSAME.out wv wu w_30 PW5_30.out PU_30.out).mono ?_
        rintro e w_31 ⟨rfl, hs31⟩
        have hb31 := hs31.below w_30.heap.size
        have PW5_31 := Lib.hid (PW5_30.out.later hb31)
        have PU_31 := Lib.hid (PU_30.out.later hb31)
        have PA_31 := Lib.hid (PA.out.later hb31)
        have B_31 := Lib.hid (B_30.out.trans (hb31.mono B_30.out.size))
        clear hb31 hs31
        go_wp2_with fail
        refine (HTM.out wv w_31 PW5_31.out).mono ?_
        rintro e w_32 ⟨va, rfl, ho, hb32⟩
        have PW5_32 := Lib.hid (PW5_31.out.later hb32)
        have PU_32 := Lib.hid (PU_31.out.later hb32)
        have PA_32 := Lib.hid (PA_31.out.later hb32)
        have B_32 := Lib.hid (B_31.out.trans (hb32.mono B_31.out.size))
        have SA := Lib.hid ho
        obtain ⟨aa, ac, hva⟩ := SOwn.shape ho
        subst hva
        clear ho hb32
        go_wp2_with fail
        refine (HTN.out wu w_32 PU_32.out).mono ?_
        rintro e w_33 ⟨vb, rfl, ho, hb33⟩
        have PW5_33 := Lib.hid (PW5_32.out.later hb33)
        have PU_33 := Lib.hid (PU_32.out.later hb33)
        have PA_33 := Lib.hid (PA_32.out.later hb33)
        have SA_33 := Lib.hid (SA.out.later hb33)
        have B_33 := Lib.hid (B_32.out.trans (hb33.mono B_32.out.size))
        have SB := Lib.hid ho
        obtain ⟨ba, bc, hvb⟩ := SOwn.shape ho
        subst hvb
        clear ho hb33
        have hal : Below w_33.heap.size w_33 (w_33.alloc (.cells #[.slice aa (MT.txs M).length ac, .slice ba (MT.txs N).length bc] 38)) := (Below.refl _ w_33).alloc (Nat.le_refl _) _
        obtain ⟨q0, q1⟩ := two_cells (heap_at_alloc w_33 (.cells #[.slice aa (MT.txs M).length ac, .slice ba (MT.txs N).length bc] 38))
        have HCLR := Lib.hid (clash_ref (MT.txs M) (MT.txs N) _ _ w_33.heap.size _ _ _ (by simp) q0 q1 (SA_33.out.later hal) (SB.out.later hal) HLN.out HSZ.out)
        have BA := Lib.hid (B_33.out.trans (hal.mono B_33.out.size))
        clear hal q0 q1
        go_wp2_with fail
        refine HCLR.out.mono ?_
        rintro e wz ⟨b, rfl, hcb, hbz⟩
        obtain rfl := hcb HCB.out
        have BZ := Lib.hid (BA.out.trans (hbz.mono BA.out.size))
        clear hcb hbz
        go_wp2
        go_ret
        exact ⟨rfl, BZ.out⟩
      · rw [if_neg hR] at HOA
        unfold EdRes at HOA
        rw [hsb] at HSAME
        clear hsb hne hR
        go_wp2_with fail
        refine (HOA.out w_2 (HS.out.later B_2.out)).mono ?_
        rintro e w_30 ⟨rfl, hb30⟩
        have PW5_30 := Lib.hid (PW5_2.out.later hb30)
        have PU_30 := Lib.hid (PU_2.out.later hb30)
        have B_30 := Lib.hid (B_2.out.trans (hb30.mono B_2.out.size))
        clear hb30
        go_wp2_with fail
        refine (HSAME.out wv wu w_30 PW5_30.out PU_30.out).mono ?_
        rintro e w_31 ⟨rfl, hs31⟩
        have hb31 := hs31.below w_30.heap.size
        have PW5_31 := Lib.hid (PW5_30.out.later hb31)
        have PU_31 := Lib.hid (PU_30.out.later hb31)
        have B_31 := Lib.hid (B_30.out.trans (hb31.mono B_30.out.size))
        clear hb31 hs31
        go_wp2
        go_ret
        exact ⟨rfl, B_31.out⟩
end Go.Proofs.YtmpjpaomgifpcaaDoor
