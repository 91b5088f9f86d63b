/- For every row of acts TrieRuns answers true: a map has the pairs, the root and the tree that the document says. No condition beyond the row's: the variable 'start' holds what the program's text lays. -/
import Derived.Test.YtohcackebmmikaaDoorITreeL
import Derived.Test.YtohcackebmmikaaDoorIAwk
import Derived.Test.YtohcackebmmikaaDoorSAwake
import Derived.Test.YtohcackebmmikaaDoorRows
import Derived.ProofKit
import Derived.LaidLaws
import Derived.Lib.LaidTab
import Derived.Test.YtohcackebmmikaaDoorArgs3
import Derived.Test.YtohcackebmmikaaDoorCards
import Derived.Test.YtohcackebmmikaaDoorTie
import Derived.SevenTiedAt
namespace Go.Proofs.YtohcackebmmikaaDoor
open Go.RowKit

theorem tree_none (a : Option Addr) (c : Nat) (w : World) : Calls Tryd.prog 18 #[.pointer none, .slice a 0 c] w (BoolRes w) := by
  go_enter Tryd.func18, Tryd.ntmps18
  go_wp2
  go_ret
  exact ⟨rfl, Below.refl _ _⟩
theorem tree_any (m : Option Tr) (tv lv : Value) (w : World) (hm : MT.wf m) (hl : (MT.pairs m).length ≤ 100) (hr : RepM w m tv) (h : PSl w lv (MT.pairs m)) : Calls Tryd.prog 18 #[tv, lv] w (BoolRes w) := by
  match m, hm, hl, hr, h with
  | none, _, _, hr, ⟨a, c, e, _, _⟩ =>
    obtain rfl : tv = .pointer none := hr
    rw [e]; exact tree_none a c w
  | some t, hm, hl, ⟨b, e, hb⟩, h => rw [e]; exact tree_ref t b lv w hm hl hb h

set_option maxRecDepth 30000 in
set_option maxHeartbeats 4000000 in
theorem runs_law (la : Option Addr) (ln lc : Nat) (w : World) (hst : Start w) (hl : ln ≤ maxLen) (hu : ActsAt w la ln) :
    Calls Tryd.prog 3 #[.slice la ln lc] w fun e w' => e = .returned (.bool true) ∧ Below w.heap.size w w' := by
  obtain ⟨L, rfl, hL⟩ := acts_list hu
  have HL := Lib.hid hL
  have HS := Lib.hid hst
  have HA := Lib.hid (awake_prog w hst)
  have HSM := Lib.hid (fun (W : World) (hb : Below w.heap.size w W) => small_prog L 40 la lc W hl (by omega) (by omega) (HL.out.later hb))
  clear hst hu hL hl
  go_enter Tryd.func3, Tryd.ntmps3
  go_wp2_with fail
  refine HA.out.mono ?_
  rintro e w1 ⟨rfl, hb1⟩
  have B1 := Lib.hid hb1
  clear hb1
  go_wp2_with fail
  refine (HSM.out w1 B1.out).mono ?_
  rintro e w2 ⟨b, rfl, hsm, hb2⟩
  have B2 := Lib.hid (B1.out.trans (hb2.mono B1.out.size))
  clear hb2
  cases b with
  | false =>
    clear hsm
    go_wp2_with fail
    go_ret
    exact ⟨rfl, B2.out⟩
  | true =>
    obtain ⟨hlen, hsmall⟩ := hsm rfl
    clear hsm
    have HM := Lib.hid (fun (W : World) (hb : Below w.heap.size w W) => made_prog L la lc W (by omega) hsmall (HL.out.later hb) (HS.out.later hb))
    obtain ⟨hwf, hml⟩ := made_ok L hsmall
    obtain ⟨M, hM⟩ : ∃ M, M = madeT L := ⟨_, rfl⟩
    rw [← hM] at HM hwf hml
    have hMn : (MT.pairs M).length ≤ 40 := by omega
    have HRM := Lib.hid (fun (x : Value) (W : World) (h : MAt W M x) => root_prog h)
    have HRR := Lib.hid (fun (v : Value) (W : World) (h : PSl W v (MT.pairs M)) => root_ref M v W hwf (by omega) h)
    have HTP := Lib.hid (fun (x : Value) (W : World) (h : MAt W M x) => top_trie h)
    have HTR := Lib.hid (fun (tv v : Value) (W : World) (hr : RepM W M tv) (h : PSl W v (MT.pairs M)) => tree_any M tv v W hwf (by omega) hr h)
    obtain ⟨RM, hRM⟩ : ∃ R, R = MT.root M := ⟨_, rfl⟩
    rw [← hRM] at HRM HRR
    have HALL := Lib.hid (fun (x : Value) (W : World) (h : MAt W M x) => all_prog h (by omega))
    have HSAME := Lib.hid (fun (va vb : Value) (W : World) (h1 : PSl W va (MT.pairs M)) (h2 : PSl W vb (MT.pairs M)) => same_ref _ _ va vb W (by omega) h1 h2)
    have hsb : sameB (MT.pairs M) (MT.pairs M) = true := by simp [sameB]
    rw [hsb] at HSAME
    have HLEN := Lib.hid (fun (x : Value) (W : World) (h : MAt W M x) => len_trie h)
    clear hwf hml hM hRM hsb hsmall hlen hMn
    go_wp2_with fail
    refine (HM.out w2 B2.out).mono ?_
    rintro e w3 ⟨x, wv, rfl, hx3, hw3, hb3⟩
    have X := Lib.hid hx3
    have PW := Lib.hid (POwn.sl hw3)
    have B3 := Lib.hid (B2.out.trans (hb3.mono B2.out.size))
    obtain ⟨wa, wc, rfl, _⟩ := POwn.shape hw3
    clear hx3 hb3 hw3
    go_wp2_with fail
    refine (HALL.out x w3 X.out).mono ?_
    rintro e w_1 ⟨pa, rfl, hm1, hb1⟩
    have X_1 := Lib.hid (X.out.later hb1)
    have PW_1 := Lib.hid (PW.out.later hb1)
    have B_1 := Lib.hid (B3.out.trans (hb1.mono B3.out.size))
    have PA := Lib.hid (POwn.sl hm1)
    clear hm1 hb1
    go_wp2_with fail
    refine (HSAME.out pa _ w_1 PA.out PW_1.out).mono ?_
    rintro e w_2 ⟨rfl, hs2⟩
    have hb2 := hs2.below w_1.heap.size
    have X_2 := Lib.hid (X_1.out.later hb2)
    have PW_2 := Lib.hid (PW_1.out.later hb2)
    have PA_2 := Lib.hid (PA.out.later hb2)
    have B_2 := Lib.hid (B_1.out.trans (hb2.mono B_1.out.size))
    clear hb2 hs2
    go_wp2_with fail
    refine (HLEN.out x w_2 X_2.out).mono ?_
    rintro e wz ⟨rfl, rfl⟩
    go_wp2_with fail
    refine (HRM.out x w_2 X_2.out).mono ?_
    rintro e w_4 ⟨rfl, hb4⟩
    have X_4 := Lib.hid (X_2.out.later hb4)
    have PW_4 := Lib.hid (PW_2.out.later hb4)
    have PA_4 := Lib.hid (PA_2.out.later hb4)
    have B_4 := Lib.hid (B_2.out.trans (hb4.mono B_2.out.size))
    clear hb4
    go_wp2_with fail
    refine (HRR.out _ w_4 PW_4.out).mono ?_
    rintro e w_5 ⟨rfl, hb5⟩
    have X_5 := Lib.hid (X_4.out.later hb5)
    have PW_5 := Lib.hid (PW_4.out.later hb5)
    have PA_5 := Lib.hid (PA_4.out.later hb5)
    have B_5 := Lib.hid (B_4.out.trans (hb5.mono B_4.out.size))
    clear hb5
    go_wp2_with fail
    refine (HTP.out x w_5 X_5.out).mono ?_
    rintro e w_6 ⟨tv, rfl, htv, hb6⟩
    have X_6 := Lib.hid (X_5.out.later hb6)
    have PW_6 := Lib.hid (PW_5.out.later hb6)
    have PA_6 := Lib.hid (PA_5.out.later hb6)
    have B_6 := Lib.hid (B_5.out.trans (hb6.mono B_5.out.size))
    have HTV := Lib.hid htv
    clear hb6 htv
    go_wp2_with fail
    refine (HTR.out tv _ w_6 HTV.out PW_6.out).mono ?_
    rintro e w_7 ⟨rfl, hb7⟩
    have X_7 := Lib.hid (X_6.out.later hb7)
    have PW_7 := Lib.hid (PW_6.out.later hb7)
    have PA_7 := Lib.hid (PA_6.out.later hb7)
    have B_7 := Lib.hid (B_6.out.trans (hb7.mono B_6.out.size))
    clear hb7
    go_wp2
    go_ret
    exact ⟨rfl, B_7.out⟩
end Go.Proofs.YtohcackebmmikaaDoor
namespace Go.Proofs.YtohcackebmmikaaDoor
open Go.ChangeShapes Go.WideShapes Go.ChangeAt Go.RowKit Go.WideMaps Go.WideElems
open Go.ChangeMaps (setBlock shut_map_nil open_string shut_string keptBut_setBlock frozen?_setBlock heap_setBlock_same)

theorem Tryd.own : ownKnob Tryd.prog.godebug = none := by kernel_rfl
theorem Tryd.startVar : Tryd.prog.globalNamed "vidimus/sha.start" = some 0 := by kernel_rfl

def startL : List Int := [1779033703, 3144134277, 1013904242, 2773480762, 1359893119, 2600822924, 528734635, 1541459225]

theorem start_of_laid {W : World} (h : laidMet Tryd.prog [("vidimus/sha.start", Rows.laid_vidimus_sha_start)] W) : Start W := by
  have ht := Lib.tabIs_of_head (P := Tryd.prog) (W := W) (name := "vidimus/sha.start") (k := .u32) (zs := startL) (rest := []) Tryd.startVar (t := 100) (e := 94) (n := 8) (by kernel_rfl) Tryd.underlying100 Tryd.underlying94 (by kernel_rfl) (by kernel_rfl) h
  have hc : ∀ j, j < 8 → W.cell? ⟨0, j, none⟩ = some (u32V (X0.at j)) := by
    intro j hj
    rw [ht.cell Tryd.startVar j hj]
    match j, hj with
    | 0, _ => rfl | 1, _ => rfl | 2, _ => rfl | 3, _ => rfl | 4, _ => rfl | 5, _ => rfl | 6, _ => rfl | 7, _ => rfl
  exact ⟨World.block_lt_of_cell? W _ (hc 0 (by omega)), hc⟩

def cells8 : Array Value := #[.int .u32 1779033703, .int .u32 3144134277, .int .u32 1013904242, .int .u32 2773480762, .int .u32 1359893119, .int .u32 2600822924, .int .u32 528734635, .int .u32 1541459225]
def laidWorld (P : Program) (os : Os) : World :=
  { World.holding P os ⟨#[], #[], []⟩ with heap := (World.holding P os ⟨#[], #[], []⟩).heap.modify 0 fun
      | .cells _ t frozen => .cells cells8 t frozen
      | o => o }
set_option maxRecDepth 100000 in
theorem laidWorld_met (os : Os) (args : Array Value) : laidMet Tryd.prog [("vidimus/sha.start", Rows.laid_vidimus_sha_start)] ((laidWorld Tryd.prog os).forCall (fun _ _ => 0) ⟨#[], args, []⟩).memory := by
  have hrow : ((laidWorld Tryd.prog os).forCall (fun _ _ => 0) ⟨#[], args, []⟩).memory.heap[0]? = some (.cells cells8 100 (0, 0)) := by kernel_rfl
  refine ⟨_, ⟨0, 100, cells8, 8, [], [], by kernel_rfl, by kernel_rfl, by kernel_rfl, by kernel_rfl, rfl, rfl⟩, by decide, fun b off h => ?_⟩
  have h' : MemPlace.cell b off ∈ [MemPlace.cell 0 0, .cell 0 1, .cell 0 2, .cell 0 3, .cell 0 4, .cell 0 5, .cell 0 6, .cell 0 7] := h
  have hb : b = 0 := by simp at h'; omega
  subst hb
  refine ⟨⟨_, _, hrow⟩, fun u v hc => ?_⟩
  simp only [World.cell?, hrow] at hc
  simp at h'
  rcases h' with rfl | rfl | rfl | rfl | rfl | rfl | rfl | rfl <;> simp [cells8] at hc
end Go.Proofs.YtohcackebmmikaaDoor
namespace Go.Proofs.YtohcackebmmikaaDoor
open Go.ChangeShapes Go.WideShapes Go.ChangeAt Go.RowKit Go.WideMaps Go.WideElems
open Go.ChangeMaps (setBlock shut_map_nil open_string shut_string keptBut_setBlock frozen?_setBlock heap_setBlock_same)

theorem trieRuns_kids : Kids Tryd.prog (· < Tryd.prog.types.size) := kids_rows (by kernel_rfl) (by kernel_rfl)
theorem trieRuns_full : ∀ t e, t < Tryd.prog.types.size → Tryd.prog.underlying t = some (.slice e) → 0 < Tryd.prog.cellsOf e := slices_full_of Tryd.prog (by kernel_rfl)
set_option maxRecDepth 100000 in
theorem trieRuns_lifted (os : Os) (started : os.Started) (H : Type) (enc : TypeId × Value → H) :
    ReturnsInHanded {} Tryd.checked os 3 .any (fun w args => (Rows.trieRunsSpec.pre enc Tryd.prog Tryd.f3 [] false w args ∧ laidMet Tryd.prog [("vidimus/sha.start", Rows.laid_vidimus_sha_start)] w) ∧ sizedMet enc Tryd.prog Tryd.f3 (OpenSpec.ofChange Rows.trieRunsSpec) false w args)
      (Rows.trieRunsSpec.post enc Tryd.prog Tryd.f3 false true false false) := by
  refine returnsInHanded_of_change_and (C := Tryd.checked) (X := fun w _ => laidMet Tryd.prog [("vidimus/sha.start", Rows.laid_vidimus_sha_start)] w) (fun _ _ _ hh h => h.of_heap hh) Tryd.own started (by kernel_rfl) Tryd.func3
    (ChangeSpec.witness_at (enc := enc) (C := Tryd.checked) (os := os) (X := fun w _ => laidMet Tryd.prog [("vidimus/sha.start", Rows.laid_vidimus_sha_start)] w) false (laidWorld Tryd.prog os) #[.slice none 0 0] 8 rfl (by kernel_rfl) (by kernel_rfl) (by kernel_rfl) (by kernel_rfl) (by kernel_rfl) (laidWorld_met os _)) ?_
  intro W base args ds gs before hval0 hW _ _ hL _
  have hval : ∀ (j : Nat) t v, Tryd.f3.params[j]? = some t → args[j]? = some v → Value.okWide Tryd.prog W .any base t v := hval0
  have hW' := hW
  have hlt := hW.lt
  obtain ⟨p, q, hA0, hV0, rfl, hfz, hnd⟩ := hW
  have hA : DataW.TrodAll enc Tryd.prog W 0 (fun _ => true) true Tryd.f3.params.toList args.toList ds p := hA0
  have hA1 := hA
  have hV : DataW.TrodVars enc Tryd.prog W (fun _ => true) [] gs q := hV0
  rw [Tryd.params3] at hA hval
  obtain ⟨v0, d0, rfl, rfl, h0⟩ := trodAll_one hA
  obtain ⟨la0, ln0, lc0, rfl, hl0, hu0⟩ := open_acts Tryd.underlying22 Tryd.underlying54 (by kernel_rfl) rfl rfl rfl (by kernel_rfl) (by kernel_rfl) (by kernel_rfl) Tryd.underlying3 Tryd.underlying9 Tryd.underlying9 (okWide_slice Tryd.underlying22 (hval 0 22 v0 rfl rfl)) h0
  have hst := start_of_laid hL
  obtain ⟨rfl, rfl⟩ : gs = [] ∧ q = [] := by
    cases gs with
    | nil => exact ⟨rfl, hV⟩
    | cons g r => exact absurd hV (by intro h; cases h)
  have e1 : Rows.trieRunsSpec.fn H ([d0] ++ []) = { results := [.lit (.bool true)], args := [d0] } := by simp [Rows.trieRunsSpec]
  refine (runs_law la0 ln0 lc0 W hst hl0 hu0).mono fun e W' ⟨he, hb⟩ => ?_
  subst he
  refine ⟨_, rfl, _, _, _, [], p, [], hW', ?_, ?_, ?_, hb.frame _, fun h => by cases h⟩
  · rw [e1]; exact trodAll_mk1 (shut_bool Tryd.underlying4 true)
  · rw [e1]; exact trodAll_stay trieRuns_kids trieRuns_full hb (by rw [Tryd.params3]; decide) hA1 (fun x hx => by
      have := hlt x (by simpa using hx)
      exact ⟨this, by simpa using this⟩)
  · rw [e1]; rfl

theorem trieRuns_holds : Rows.TrieRunsSaid :=
  OpenClaim.holds_of_wide 3 Tryd.f3 rfl rfl rfl rfl rfl rfl rfl ⟨rfl, rfl, rfl, rfl, rfl⟩ rfl rfl rfl rfl rfl (by kernel_rfl) Tryd.func3 (by kernel_rfl)
    (of_decide_eq_true (by kernel_rfl)) (by unfold Func.isWrapper; rw [if_neg (of_decide_eq_false (by kernel_rfl))]; exact ⟨rfl, rfl⟩)
    (fun os started H enc _ => trieRuns_lifted os started H enc)

theorem trieRuns_card : Rows.TrieRunsCardSaid :=
  Claim7.holds_tied_plain_at .later [] [.data] true Rows.trieRunsCard.stood.harness false
    trieRuns_holds (fun _ h => by cases h) (by kernel_rfl) (fun _ h => by cases h) trieRuns_row_tie rfl ⟨rfl, rfl⟩ (by kernel_rfl) rfl
    (fun f fn hf hfn => by
      obtain rfl : f = 3 := Option.some.inj ((show Tryd.prog.funcNamed "vidimus/vidimuslaw05.TrieRuns" = some 3 by kernel_rfl).symm.trans hf) |>.symm
      obtain rfl : fn = Tryd.f3 := (Option.some.inj (Tryd.func3.symm.trans hfn)).symm
      exact ⟨by kernel_rfl, fun j t ht => by
        rw [Tryd.params3] at ht
        rcases j with _ | j
        · obtain rfl : t = 22 := by simpa using ht.symm
          exact (show Tryd.prog.wantsStandIn 22 = false by kernel_rfl)
        · simp at ht⟩)
    (by kernel_rfl)
#print axioms trieRuns_card
end Go.Proofs.YtohcackebmmikaaDoor
