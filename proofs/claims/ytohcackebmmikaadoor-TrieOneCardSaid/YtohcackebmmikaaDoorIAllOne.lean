/- For every two rows of acts TrieOne answers true: the same pairs have the same root, and unlike ones have unlike roots, or two unlike texts have one hash. No condition beyond the row's: the variable 'start' holds what the program's text lays. -/
import Derived.Test.YtohcackebmmikaaDoorIClash
import Derived.Test.YtohcackebmmikaaDoorIAwk
import Derived.Test.YtohcackebmmikaaDoorSAwake
import Derived.Test.YtohcackebmmikaaDoorRows
import Derived.ProofKit
import Derived.LaidLaws
import Derived.Lib.LaidTab
import Derived.Test.YtohcackebmmikaaDoorArgs3
import Derived.Test.YtohcackebmmikaaDoorCards
import Derived.Test.YtohcackebmmikaaDoorTie
import Derived.SevenTiedAt
namespace Go.Proofs.YtohcackebmmikaaDoor
open Go.RowKit

def MT.txs (m : Option Tr) : List ByteArray := (MT.texts m).map bs
theorem texts_any (m : Option Tr) (lv : Value) (w : World) (hm : MT.wf m) (hl : (MT.pairs m).length ≤ 100) (h : PSl w lv (MT.pairs m)) : Calls Tryd.prog 28 #[lv] w (TxRes w (MT.txs m)) := by
  match m, hm, hl, h with
  | none, _, _, ⟨a, c, e, _, _⟩ =>
    rw [e]
    refine (texts_none a c w).mono ?_
    rintro e w' ⟨rfl, rfl⟩
    exact ⟨_, rfl, SOwn.nil _ _, Below.refl _ _⟩
  | some t, hm, hl, h => exact texts_ref t lv w hm hl h
theorem texts_size : ∀ (t : Tr), t.sz → ∀ x ∈ t.texts, x.length ≤ 1000
  | .leaf k v, h, x, hx => by
    simp only [Tr.texts, List.mem_cons, List.not_mem_nil, or_false] at hx
    rcases hx with rfl | rfl
    · rw [ks_length]; have := h.2; omega
    · exact last_size (.leaf k v) h
  | .fork p k z o, h, x, hx => by
    simp only [Tr.texts, List.mem_append, List.mem_singleton] at hx
    rcases hx with (hx | hx) | rfl
    · exact texts_size z h.2.2.1 x hx
    · exact texts_size o h.2.2.2 x hx
    · exact last_size (.fork p k z o) h
theorem MT.txs_size {m : Option Tr} (hm : MT.wf m) : ∀ x ∈ MT.txs m, x.size ≤ 100000 := by
  intro x hx
  obtain ⟨y, hy, rfl⟩ := List.mem_map.1 hx
  rw [bs_size]
  match m, hm, hy with
  | none, _, hy => cases hy
  | some t, hm, hy => have := texts_size t (Tr.wf_sz hm) y hy; omega
theorem MT.txs_length {m : Option Tr} : (MT.txs m).length ≤ 3 * (MT.pairs m).length := by
  unfold MT.txs
  rw [List.length_map]
  match m with
  | none => exact Nat.zero_le _
  | some t => have := texts_len t; show t.texts.length ≤ 3 * t.pairs.length; omega
theorem clash_of {m n : Option Tr} (h : (∃ x ∈ MT.texts m ++ MT.texts n, sumB x = noneH) ∨ ClashP (MT.texts m ++ MT.texts n)) : ClB (MT.txs m ++ MT.txs n) := by
  have hmem : ∀ x ∈ MT.texts m ++ MT.texts n, bs x ∈ MT.txs m ++ MT.txs n := fun x hx => by
    unfold MT.txs; rw [← List.map_append]; exact List.mem_map_of_mem hx
  have hh : ∀ x, hB (bs x) = sumB x := fun x => by unfold hB; rw [ks_bs]
  rcases h with ⟨x, hx, e⟩ | ⟨x, hx, y, hy, hne, e⟩
  · exact .inl ⟨bs x, hmem x hx, by rw [hh]; exact e⟩
  · refine .inr ⟨bs x, hmem x hx, bs y, hmem y hy, fun h => hne ?_, ?_⟩
    · rw [← ks_bs x, ← ks_bs y, h]
    · rw [hh, hh]; unfold sumB; rw [e]

set_option maxRecDepth 30000 in
set_option maxHeartbeats 4000000 in
theorem one_law (la : Option Addr) (ln lc : Nat) (lb : Option Addr) (mn mc : Nat) (w : World) (hst : Start w) (hl : ln ≤ maxLen) (hu : ActsAt w la ln) (hm : mn ≤ maxLen) (hv : ActsAt w lb mn) :
    Calls Tryd.prog 5 #[.slice la ln lc, .slice lb mn mc] w fun e w' => e = .returned (.bool true) ∧ Below w.heap.size w w' := by
  obtain ⟨L, rfl, hL⟩ := acts_list hu
  obtain ⟨J, rfl, hJ⟩ := acts_list hv
  have HL := Lib.hid hL
  have HJ := Lib.hid hJ
  have HS := Lib.hid hst
  have HA := Lib.hid (awake_prog w hst)
  have HSM := Lib.hid (fun (W : World) (hb : Below w.heap.size w W) => small_prog L 25 la lc W hl (by omega) (by omega) (HL.out.later hb))
  have HSJ := Lib.hid (fun (W : World) (hb : Below w.heap.size w W) => small_prog J 25 lb mc W hm (by omega) (by omega) (HJ.out.later hb))
  clear hst hu hL hl hv hJ hm
  go_enter Tryd.func5, Tryd.ntmps5
  go_wp2_with fail
  refine HA.out.mono ?_
  rintro e w1 ⟨rfl, hb1⟩
  have B1 := Lib.hid hb1
  clear hb1
  go_wp2_with fail
  refine (HSM.out w1 B1.out).mono ?_
  rintro e w2 ⟨b, rfl, hsm, hb2⟩
  have B2 := Lib.hid (B1.out.trans (hb2.mono B1.out.size))
  clear hb2
  cases b with
  | false =>
    clear hsm
    go_wp2_with fail
    go_ret
    exact ⟨rfl, B2.out⟩
  | true =>
    obtain ⟨hlen, hsmall⟩ := hsm rfl
    clear hsm
    go_wp2_with fail
    refine (HSJ.out w2 B2.out).mono ?_
    rintro e w2b ⟨b, rfl, hsm, hb2⟩
    have B2b := Lib.hid (B2.out.trans (hb2.mono B2.out.size))
    clear hb2
    cases b with
    | false =>
      clear hsm
      go_wp2_with fail
      go_ret
      exact ⟨rfl, B2b.out⟩
    | true =>
      obtain ⟨hlenJ, hsmallJ⟩ := hsm rfl
      clear hsm
      have HM := Lib.hid (fun (W : World) (hb : Below w.heap.size w W) => made_prog L la lc W (by omega) hsmall (HL.out.later hb) (HS.out.later hb))
      have HN := Lib.hid (fun (W : World) (hb : Below w.heap.size w W) => made_prog J lb mc W (by omega) hsmallJ (HJ.out.later hb) (HS.out.later hb))
      obtain ⟨hwf, hml⟩ := made_ok L hsmall
      obtain ⟨hwn, hnl⟩ := made_ok J hsmallJ
      obtain ⟨M, hM⟩ : ∃ M, M = madeT L := ⟨_, rfl⟩
      obtain ⟨N, hN⟩ : ∃ N, N = madeT J := ⟨_, rfl⟩
      rw [← hM] at HM hwf hml
      rw [← hN] at HN hwn hnl
      have hMn : (MT.pairs M).length ≤ 25 := by omega
      have hNn : (MT.pairs N).length ≤ 25 := by omega
      have HRM := Lib.hid (fun (x : Value) (W : World) (h : MAt W M x) => root_prog h)
      have HRN := Lib.hid (fun (x : Value) (W : World) (h : MAt W N x) => root_prog h)
      have HSAME := Lib.hid (fun (va vb : Value) (W : World) (h1 : PSl W va (MT.pairs M)) (h2 : PSl W vb (MT.pairs N)) => same_ref _ _ va vb W (by omega) h1 h2)
      have HTM := Lib.hid (fun (v : Value) (W : World) (h : PSl W v (MT.pairs M)) => texts_any M v W hwf (by omega) h)
      have HTN := Lib.hid (fun (v : Value) (W : World) (h : PSl W v (MT.pairs N)) => texts_any N v W hwn (by omega) h)
      have hone := MT.one hwf hwn
      have hcl := MT.clash hwf hwn
      have hsz : ∀ x ∈ MT.txs M ++ MT.txs N, x.size ≤ 100000 := fun x hx => by
        rcases List.mem_append.1 hx with hx | hx
        · exact MT.txs_size hwf x hx
        · exact MT.txs_size hwn x hx
      have hln : (MT.txs M).length + (MT.txs N).length ≤ 1000 := by
        have h1 := @MT.txs_length M
        have h2 := @MT.txs_length N
        omega
      have HSZ := Lib.hid hsz
      have HLN := Lib.hid hln
      obtain ⟨RM, hRM⟩ : ∃ R, R = MT.root M := ⟨_, rfl⟩
      obtain ⟨RN, hRN⟩ : ∃ R, R = MT.root N := ⟨_, rfl⟩
      rw [← hRM] at HRM
      rw [← hRN] at HRN
      have HONE := Lib.hid hone
      have HCL := Lib.hid (show RM = RN → _ from fun e => hcl (by rw [← hRM, ← hRN]; exact e))
      have HEQ := Lib.hid (show M = N → RM = RN from fun e => by rw [hRM, hRN, e])
      clear hwf hml hwn hnl hM hN hRM hRN hsmall hsmallJ hlen hlenJ hone hcl hsz hln hMn hNn
      go_wp2_with fail
      refine (HM.out w2b B2b.out).mono ?_
      rintro e w3 ⟨x, wv, rfl, hx3, hw3, hb3⟩
      have X := Lib.hid hx3
      have PW := Lib.hid (POwn.sl hw3)
      have B3 := Lib.hid (B2b.out.trans (hb3.mono B2b.out.size))
      clear hx3 hb3 hw3
      go_wp2_with fail
      refine (HN.out w3 B3.out).mono ?_
      rintro e w4 ⟨y, wu, rfl, hx4, hw4, hb4⟩
      have Y := Lib.hid hx4
      have PU := Lib.hid (POwn.sl hw4)
      have X4 := Lib.hid (X.out.later hb4)
      have PW4 := Lib.hid (PW.out.later hb4)
      have B4 := Lib.hid (B3.out.trans (hb4.mono B3.out.size))
      clear hx4 hb4 hw4
      go_wp2_with fail
      refine (HSAME.out wv wu w4 PW4.out PU.out).mono ?_
      rintro e w5 ⟨rfl, hs5⟩
      have hb5 := hs5.below w4.heap.size
      have X5 := Lib.hid (X4.out.later hb5)
      have Y5 := Lib.hid (Y.out.later hb5)
      have PW5 := Lib.hid (PW4.out.later hb5)
      have PU5 := Lib.hid (PU.out.later hb5)
      have B5 := Lib.hid (B4.out.trans (hb5.mono B4.out.size))
      clear hs5 hb5
      cases hsb : sameB (MT.pairs M) (MT.pairs N) with
      | true =>
        have hMN : RM = RN := HEQ.out (HONE.out (of_decide_eq_true hsb))
        subst hMN
        clear hsb
        go_wp2_with fail
        refine (HRM.out x w5 X5.out).mono ?_
        rintro e w_6 ⟨rfl, hb6⟩
        have X5_6 := Lib.hid (X5.out.later hb6)
        have Y5_6 := Lib.hid (Y5.out.later hb6)
        have B_6 := Lib.hid (B5.out.trans (hb6.mono B5.out.size))
        clear hb6
        go_wp2_with fail
        refine (HRN.out y w_6 Y5_6.out).mono ?_
        rintro e w_7 ⟨rfl, hb7⟩
        have X5_7 := Lib.hid (X5_6.out.later hb7)
        have Y5_7 := Lib.hid (Y5_6.out.later hb7)
        have B_7 := Lib.hid (B_6.out.trans (hb7.mono B_6.out.size))
        clear hb7
        go_wp2
        go_ret
        exact ⟨rfl, B_7.out⟩
      | false =>
        have hne : ¬ M = N := fun e => by rw [e] at hsb; simp [sameB] at hsb
        by_cases hR : RM = RN
        · have hcb : ClB (MT.txs M ++ MT.txs N) := clash_of ((HCL.out hR).resolve_left hne)
          have HCB := Lib.hid hcb
          subst hR
          clear hsb hne hcb
          go_wp2_with fail
          refine (HRM.out x w5 X5.out).mono ?_
          rintro e w_6 ⟨rfl, hb6⟩
          have X5_6 := Lib.hid (X5.out.later hb6)
          have Y5_6 := Lib.hid (Y5.out.later hb6)
          have PW5_6 := Lib.hid (PW5.out.later hb6)
          have PU5_6 := Lib.hid (PU5.out.later hb6)
          have B_6 := Lib.hid (B5.out.trans (hb6.mono B5.out.size))
          clear hb6
          go_wp2_with fail
          refine (HRN.out y w_6 Y5_6.out).mono ?_
          rintro e w_7 ⟨rfl, hb7⟩
          have X5_7 := Lib.hid (X5_6.out.later hb7)
          have Y5_7 := Lib.hid (Y5_6.out.later hb7)
          have PW5_7 := Lib.hid (PW5_6.out.later hb7)
          have PU5_7 := Lib.hid (PU5_6.out.later hb7)
          have B_7 := Lib.hid (B_6.out.trans (hb7.mono B_6.out.size))
          clear hb7
          go_wp2_with fail
          refine (HTM.out wv w_7 PW5_7.out).mono ?_
          rintro e w_8 ⟨va, rfl, ho8, hb8⟩
          have X5_8 := Lib.hid (X5_7.out.later hb8)
          have Y5_8 := Lib.hid (Y5_7.out.later hb8)
          have PW5_8 := Lib.hid (PW5_7.out.later hb8)
          have PU5_8 := Lib.hid (PU5_7.out.later hb8)
          have B_8 := Lib.hid (B_7.out.trans (hb8.mono B_7.out.size))
          have SA := Lib.hid ho8
          obtain ⟨aa, ac, hva⟩ := SOwn.shape ho8
          subst hva
          clear ho8 hb8
          go_wp2_with fail
          refine (HTN.out wu w_8 PU5_8.out).mono ?_
          rintro e w_9 ⟨vb, rfl, ho9, hb9⟩
          have X5_9 := Lib.hid (X5_8.out.later hb9)
          have Y5_9 := Lib.hid (Y5_8.out.later hb9)
          have PW5_9 := Lib.hid (PW5_8.out.later hb9)
          have PU5_9 := Lib.hid (PU5_8.out.later hb9)
          have B_9 := Lib.hid (B_8.out.trans (hb9.mono B_8.out.size))
          have SB := Lib.hid ho9
          have SA2 := Lib.hid (SA.out.later hb9)
          obtain ⟨ba, bc, hvb⟩ := SOwn.shape ho9
          subst hvb
          clear ho9 hb9
          have hal : Below w_9.heap.size w_9 (w_9.alloc (.cells #[.slice aa (MT.txs M).length ac, .slice ba (MT.txs N).length bc] 40)) := (Below.refl _ w_9).alloc (Nat.le_refl _) _
          obtain ⟨q0, q1⟩ := two_cells (heap_at_alloc w_9 (.cells #[.slice aa (MT.txs M).length ac, .slice ba (MT.txs N).length bc] 40))
          have HCLR := Lib.hid (clash_ref (MT.txs M) (MT.txs N) _ _ w_9.heap.size _ _ _ (by simp) q0 q1 (SA2.out.later hal) (SB.out.later hal) HLN.out HSZ.out)
          have BA := Lib.hid (B_9.out.trans (hal.mono B_9.out.size))
          clear hal q0 q1
          go_wp2_with fail
          refine HCLR.out.mono ?_
          rintro e wz ⟨b, rfl, hcb, hbz⟩
          obtain rfl := hcb HCB.out
          have BZ := Lib.hid (BA.out.trans (hbz.mono BA.out.size))
          clear hcb hbz
          go_wp2
          go_ret
          exact ⟨rfl, BZ.out⟩
        · have hneR := str_ne hR
          clear hsb hne hR
          go_wp2_with fail
          refine (HRM.out x w5 X5.out).mono ?_
          rintro e w_6 ⟨rfl, hb6⟩
          have X5_6 := Lib.hid (X5.out.later hb6)
          have Y5_6 := Lib.hid (Y5.out.later hb6)
          have B_6 := Lib.hid (B5.out.trans (hb6.mono B5.out.size))
          clear hb6
          go_wp2_with fail
          refine (HRN.out y w_6 Y5_6.out).mono ?_
          rintro e w_7 ⟨rfl, hb7⟩
          have X5_7 := Lib.hid (X5_6.out.later hb7)
          have Y5_7 := Lib.hid (Y5_6.out.later hb7)
          have B_7 := Lib.hid (B_6.out.trans (hb7.mono B_6.out.size))
          clear hb7
          go_wp2
          go_ret
          exact ⟨rfl, B_7.out⟩
end Go.Proofs.YtohcackebmmikaaDoor
namespace Go.Proofs.YtohcackebmmikaaDoor
open Go.ChangeShapes Go.WideShapes Go.ChangeAt Go.RowKit Go.WideMaps Go.WideElems
open Go.ChangeMaps (setBlock shut_map_nil open_string shut_string keptBut_setBlock frozen?_setBlock heap_setBlock_same)

theorem Tryd.own : ownKnob Tryd.prog.godebug = none := by kernel_rfl
theorem Tryd.startVar : Tryd.prog.globalNamed "vidimus/sha.start" = some 0 := by kernel_rfl

def startL : List Int := [1779033703, 3144134277, 1013904242, 2773480762, 1359893119, 2600822924, 528734635, 1541459225]

theorem start_of_laid {W : World} (h : laidMet Tryd.prog [("vidimus/sha.start", Rows.laid_vidimus_sha_start)] W) : Start W := by
  have ht := Lib.tabIs_of_head (P := Tryd.prog) (W := W) (name := "vidimus/sha.start") (k := .u32) (zs := startL) (rest := []) Tryd.startVar (t := 100) (e := 94) (n := 8) (by kernel_rfl) Tryd.underlying100 Tryd.underlying94 (by kernel_rfl) (by kernel_rfl) h
  have hc : ∀ j, j < 8 → W.cell? ⟨0, j, none⟩ = some (u32V (X0.at j)) := by
    intro j hj
    rw [ht.cell Tryd.startVar j hj]
    match j, hj with
    | 0, _ => rfl | 1, _ => rfl | 2, _ => rfl | 3, _ => rfl | 4, _ => rfl | 5, _ => rfl | 6, _ => rfl | 7, _ => rfl
  exact ⟨World.block_lt_of_cell? W _ (hc 0 (by omega)), hc⟩

def cells8 : Array Value := #[.int .u32 1779033703, .int .u32 3144134277, .int .u32 1013904242, .int .u32 2773480762, .int .u32 1359893119, .int .u32 2600822924, .int .u32 528734635, .int .u32 1541459225]
def laidWorld (P : Program) (os : Os) : World :=
  { World.holding P os ⟨#[], #[], []⟩ with heap := (World.holding P os ⟨#[], #[], []⟩).heap.modify 0 fun
      | .cells _ t frozen => .cells cells8 t frozen
      | o => o }
set_option maxRecDepth 100000 in
theorem laidWorld_met (os : Os) (args : Array Value) : laidMet Tryd.prog [("vidimus/sha.start", Rows.laid_vidimus_sha_start)] ((laidWorld Tryd.prog os).forCall (fun _ _ => 0) ⟨#[], args, []⟩).memory := by
  have hrow : ((laidWorld Tryd.prog os).forCall (fun _ _ => 0) ⟨#[], args, []⟩).memory.heap[0]? = some (.cells cells8 100 (0, 0)) := by kernel_rfl
  refine ⟨_, ⟨0, 100, cells8, 8, [], [], by kernel_rfl, by kernel_rfl, by kernel_rfl, by kernel_rfl, rfl, rfl⟩, by decide, fun b off h => ?_⟩
  have h' : MemPlace.cell b off ∈ [MemPlace.cell 0 0, .cell 0 1, .cell 0 2, .cell 0 3, .cell 0 4, .cell 0 5, .cell 0 6, .cell 0 7] := h
  have hb : b = 0 := by simp at h'; omega
  subst hb
  refine ⟨⟨_, _, hrow⟩, fun u v hc => ?_⟩
  simp only [World.cell?, hrow] at hc
  simp at h'
  rcases h' with rfl | rfl | rfl | rfl | rfl | rfl | rfl | rfl <;> simp [cells8] at hc
end Go.Proofs.YtohcackebmmikaaDoor
namespace Go.Proofs.YtohcackebmmikaaDoor
open Go.ChangeShapes Go.WideShapes Go.ChangeAt Go.RowKit Go.WideMaps Go.WideElems
open Go.ChangeMaps (setBlock shut_map_nil open_string shut_string keptBut_setBlock frozen?_setBlock heap_setBlock_same)

theorem trieOne_kids : Kids Tryd.prog (· < Tryd.prog.types.size) := kids_rows (by kernel_rfl) (by kernel_rfl)
theorem trieOne_full : ∀ t e, t < Tryd.prog.types.size → Tryd.prog.underlying t = some (.slice e) → 0 < Tryd.prog.cellsOf e := slices_full_of Tryd.prog (by kernel_rfl)
set_option maxRecDepth 100000 in
theorem trieOne_lifted (os : Os) (started : os.Started) (H : Type) (enc : TypeId × Value → H) :
    ReturnsInHanded {} Tryd.checked os 5 .any (fun w args => (Rows.trieOneSpec.pre enc Tryd.prog Tryd.f5 [] false w args ∧ laidMet Tryd.prog [("vidimus/sha.start", Rows.laid_vidimus_sha_start)] w) ∧ sizedMet enc Tryd.prog Tryd.f5 (OpenSpec.ofChange Rows.trieOneSpec) false w args)
      (Rows.trieOneSpec.post enc Tryd.prog Tryd.f5 false true false false) := by
  refine returnsInHanded_of_change_and (C := Tryd.checked) (X := fun w _ => laidMet Tryd.prog [("vidimus/sha.start", Rows.laid_vidimus_sha_start)] w) (fun _ _ _ hh h => h.of_heap hh) Tryd.own started (by kernel_rfl) Tryd.func5
    (ChangeSpec.witness_at (enc := enc) (C := Tryd.checked) (os := os) (X := fun w _ => laidMet Tryd.prog [("vidimus/sha.start", Rows.laid_vidimus_sha_start)] w) false (laidWorld Tryd.prog os) #[.slice none 0 0, .slice none 0 0] 8 rfl (by kernel_rfl) (by kernel_rfl) (by kernel_rfl) (by kernel_rfl) (by kernel_rfl) (laidWorld_met os _)) ?_
  intro W base args ds gs before hval0 hW _ _ hL _
  have hval : ∀ (j : Nat) t v, Tryd.f5.params[j]? = some t → args[j]? = some v → Value.okWide Tryd.prog W .any base t v := hval0
  have hW' := hW
  have hlt := hW.lt
  obtain ⟨p, q, hA0, hV0, rfl, hfz, hnd⟩ := hW
  have hA : DataW.TrodAll enc Tryd.prog W 0 (fun _ => true) true Tryd.f5.params.toList args.toList ds p := hA0
  have hA1 := hA
  have hV : DataW.TrodVars enc Tryd.prog W (fun _ => true) [] gs q := hV0
  rw [Tryd.params5] at hA hval
  obtain ⟨v0, v1, d0, d1, p0, p1, rfl, rfl, rfl, h0, h1⟩ := trodAll_two hA
  obtain ⟨la0, ln0, lc0, rfl, hl0, hu0⟩ := open_acts Tryd.underlying22 Tryd.underlying54 (by kernel_rfl) rfl rfl rfl (by kernel_rfl) (by kernel_rfl) (by kernel_rfl) Tryd.underlying3 Tryd.underlying9 Tryd.underlying9 (okWide_slice Tryd.underlying22 (hval 0 22 v0 rfl rfl)) h0
  obtain ⟨la1, ln1, lc1, rfl, hl1, hu1⟩ := open_acts Tryd.underlying22 Tryd.underlying54 (by kernel_rfl) rfl rfl rfl (by kernel_rfl) (by kernel_rfl) (by kernel_rfl) Tryd.underlying3 Tryd.underlying9 Tryd.underlying9 (okWide_slice Tryd.underlying22 (hval 1 22 v1 rfl rfl)) h1
  have hst := start_of_laid hL
  obtain ⟨rfl, rfl⟩ : gs = [] ∧ q = [] := by
    cases gs with
    | nil => exact ⟨rfl, hV⟩
    | cons g r => exact absurd hV (by intro h; cases h)
  have e1 : Rows.trieOneSpec.fn H ([d0, d1] ++ []) = { results := [.lit (.bool true)], args := [d0, d1] } := by simp [Rows.trieOneSpec]
  refine (one_law la0 ln0 lc0 la1 ln1 lc1 W hst hl0 hu0 hl1 hu1).mono fun e W' ⟨he, hb⟩ => ?_
  subst he
  refine ⟨_, rfl, _, _, _, [], p0 ++ p1, [], hW', ?_, ?_, ?_, hb.frame _, fun h => by cases h⟩
  · rw [e1]; exact trodAll_mk1 (shut_bool Tryd.underlying4 true)
  · rw [e1]; exact trodAll_stay trieOne_kids trieOne_full hb (by rw [Tryd.params5]; decide) hA1 (fun x hx => by
      have := hlt x (by simpa using hx)
      exact ⟨this, by simpa using this⟩)
  · rw [e1]; rfl

theorem trieOne_holds : Rows.TrieOneSaid :=
  OpenClaim.holds_of_wide 5 Tryd.f5 rfl rfl rfl rfl rfl rfl rfl ⟨rfl, rfl, rfl, rfl, rfl⟩ rfl rfl rfl rfl rfl (by kernel_rfl) Tryd.func5 (by kernel_rfl)
    (of_decide_eq_true (by kernel_rfl)) (by unfold Func.isWrapper; rw [if_neg (of_decide_eq_false (by kernel_rfl))]; exact ⟨rfl, rfl⟩)
    (fun os started H enc _ => trieOne_lifted os started H enc)

theorem trieOne_card : Rows.TrieOneCardSaid :=
  Claim7.holds_tied_plain_at .later [] [.data] true Rows.trieOneCard.stood.harness false
    trieOne_holds (fun _ h => by cases h) (by kernel_rfl) (fun _ h => by cases h) trieOne_row_tie rfl ⟨rfl, rfl⟩ (by kernel_rfl) rfl
    (fun f fn hf hfn => by
      obtain rfl : f = 5 := Option.some.inj ((show Tryd.prog.funcNamed "vidimus/vidimuslaw05.TrieOne" = some 5 by kernel_rfl).symm.trans hf) |>.symm
      obtain rfl : fn = Tryd.f5 := (Option.some.inj (Tryd.func5.symm.trans hfn)).symm
      exact ⟨by kernel_rfl, fun j t ht => by
        rw [Tryd.params5] at ht
        rcases j with _ | _ | j
        · obtain rfl : t = 22 := by simpa using ht.symm
          exact (show Tryd.prog.wantsStandIn 22 = false by kernel_rfl)
        · obtain rfl : t = 22 := by simpa using ht.symm
          exact (show Tryd.prog.wantsStandIn 22 = false by kernel_rfl)
        · simp at ht⟩)
    (by kernel_rfl)
#print axioms trieOne_card
end Go.Proofs.YtohcackebmmikaaDoor
