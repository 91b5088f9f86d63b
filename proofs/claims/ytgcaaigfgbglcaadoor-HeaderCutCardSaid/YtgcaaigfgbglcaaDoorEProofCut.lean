/- HeaderCut: each part of a chain is a chain from the header ahead of it. No condition beyond the row's: the variable 'start' holds what the program's text lays. -/
import Derived.Test.YtgcaaigfgbglcaaDoorEArgX
import Derived.Test.YtgcaaigfgbglcaaDoorDBase
import Derived.Test.YtgcaaigfgbglcaaDoorEArg
import Derived.Test.YtgcaaigfgbglcaaDoorCards
import Derived.Test.YtgcaaigfgbglcaaDoorTie
import Derived.SevenTiedAt
namespace Go.Proofs.YtgcaaigfgbglcaaDoor
open Go.ChangeShapes Go.WideShapes Go.ChangeAt Go.RowKit Go.WideMaps Go.WideElems
open Go.ChangeMaps (setBlock shut_map_nil open_string shut_string keptBut_setBlock frozen?_setBlock heap_setBlock_same)

theorem headerCut_kids : Kids Tryd.prog (· < Tryd.prog.types.size) := kids_rows (by kernel_rfl) (by kernel_rfl)
theorem headerCut_full : ∀ t e, t < Tryd.prog.types.size → Tryd.prog.underlying t = some (.slice e) → 0 < Tryd.prog.cellsOf e := slices_full_of Tryd.prog (by kernel_rfl)
set_option maxRecDepth 100000 in
theorem headerCut_lifted (os : Os) (started : os.Started) (H : Type) (enc : TypeId × Value → H) :
    ReturnsInHanded {} Tryd.checked os 8 .any (fun w args => (Rows.headerCutSpec.pre enc Tryd.prog Tryd.f8 [] false w args ∧ laidMet Tryd.prog [("vidimus/sha.start", Rows.laid_vidimus_sha_start)] w) ∧ sizedMet enc Tryd.prog Tryd.f8 (OpenSpec.ofChange Rows.headerCutSpec) false w args)
      (Rows.headerCutSpec.post enc Tryd.prog Tryd.f8 false true false false) := by
  refine returnsInHanded_of_change_and (C := Tryd.checked) (X := fun w _ => laidMet Tryd.prog [("vidimus/sha.start", Rows.laid_vidimus_sha_start)] w) (fun _ _ _ hh h => h.of_heap hh) Tryd.own started (by kernel_rfl) Tryd.func8
    (ChangeSpec.witness_at (enc := enc) (C := Tryd.checked) (os := os) (X := fun w _ => laidMet Tryd.prog [("vidimus/sha.start", Rows.laid_vidimus_sha_start)] w) false (laidWorld Tryd.prog os) #[.string ByteArray.empty, .slice none 0 0, .agg #[.int .u8 0, .int .u8 0]] 8 rfl (by kernel_rfl) (by kernel_rfl) (by kernel_rfl) (by kernel_rfl) (by kernel_rfl) (laidWorld_met os _)) ?_
  intro W base args ds gs before hval0 hW _ hsz hL _
  have hval : ∀ (j : Nat) t v, Tryd.f8.params[j]? = some t → args[j]? = some v → Value.okWide Tryd.prog W .any base t v := hval0
  have hW' := hW
  have hlt := hW.lt
  obtain ⟨p, q, hA0, hV0, rfl, hfz, hnd⟩ := hW
  have hA : DataW.TrodAll enc Tryd.prog W 0 (fun _ => true) true Tryd.f8.params.toList args.toList ds p := hA0
  have hA1 := hA
  have hV : DataW.TrodVars enc Tryd.prog W (fun _ => true) [] gs q := hV0
  rw [Tryd.params8] at hA hval
  obtain ⟨v0, v1, v2, d0, d1, d2, p0, p1, p2, rfl, rfl, rfl, h0, h1, h2⟩ := trodAll_three hA
  obtain ⟨s0, rfl, rfl, rfl, hs0⟩ := open_string Tryd.underlying9 (hval 0 9 v0 rfl rfl) h0
  obtain ⟨L1, hl1, hm1, hf1, hd1⟩ := open_steps2 Tryd.underlying36 Tryd.underlying44 (by kernel_rfl) rfl rfl rfl rfl (by kernel_rfl) (by kernel_rfl) (by kernel_rfl) (by kernel_rfl) Tryd.underlying9 Tryd.underlying22 Tryd.underlying22 Tryd.underlying3 (okWide_slice Tryd.underlying36 (hval 1 36 v1 rfl rfl)) h1
  have ha1 : ∃ L, StpSl W v1 L ∧ L.length ≤ maxLen ∧ (∀ x ∈ L, x.Fit) ∧ L.length * 40 ≤ 140737488355328 := ⟨L1, hl1, hm1, hf1, by
    rcases hd1 with e | ⟨E, S, e, e2⟩
    · rw [e]; simp
    · rw [e] at hsz
      have q := sized_slice hsz (j := 1) (t := 36) (e := 44) (elems := E) (spare := S) (by rw [Tryd.params8]; rfl) rfl Tryd.underlying36
      rw [show Tryd.checked.prog.bytesOf 44 = 40 from by kernel_rfl] at q
      unfold reachBytes at q
      omega⟩
  obtain ⟨a2, b2, rfl, rfl, rfl, ha2, hb2⟩ := open_u8s2 Tryd.underlying60 Tryd.underlying5 (by kernel_rfl) (by kernel_rfl) (hval 2 60 v2 rfl rfl) h2
  have hst := start_of_laid hL
  obtain ⟨rfl, rfl⟩ : gs = [] ∧ q = [] := by
    cases gs with
    | nil => exact ⟨rfl, hV⟩
    | cons g r => exact absurd hV (by intro h; cases h)
  have e1 : Rows.headerCutSpec.fn H ([.lit (.string s0.data.toList), d1, .agg [.lit (.int .u8 a2), .lit (.int .u8 b2)]] ++ []) = { results := [.lit (.bool true)], args := [.lit (.string s0.data.toList), d1, .agg [.lit (.int .u8 a2), .lit (.int .u8 b2)]] } := by simp [Rows.headerCutSpec]
  refine (cut_arg s0 v1 a2 b2 W hst hs0 ha1 ha2 hb2).mono fun e W' ⟨he, hb⟩ => ?_
  subst he
  refine ⟨_, rfl, _, _, _, [], [] ++ p1 ++ [], [], hW', ?_, ?_, ?_, hb.frame _, fun h => by cases h⟩
  · rw [e1]; exact trodAll_mk1 (shut_bool Tryd.underlying4 true)
  · rw [e1]; exact trodAll_stay headerCut_kids headerCut_full hb (by rw [Tryd.params8]; decide) hA1 (fun x hx => by
      have := hlt x (by simpa using hx)
      exact ⟨this, by simpa using this⟩)
  · rw [e1]; rfl

theorem headerCut_holds : Rows.HeaderCutSaid :=
  OpenClaim.holds_of_wide 8 Tryd.f8 rfl rfl rfl rfl rfl rfl rfl ⟨rfl, rfl, rfl, rfl, rfl⟩ rfl rfl rfl rfl rfl (by kernel_rfl) Tryd.func8 (by kernel_rfl)
    (of_decide_eq_true (by kernel_rfl)) (by unfold Func.isWrapper; rw [if_neg (of_decide_eq_false (by kernel_rfl))]; exact ⟨rfl, rfl⟩)
    (fun os started H enc _ => headerCut_lifted os started H enc)

theorem headerCut_card : Rows.HeaderCutCardSaid :=
  Claim7.holds_tied_plain_at .later [] [.data] true Rows.headerCutCard.stood.harness false
    headerCut_holds (fun _ h => by cases h) (by kernel_rfl) (fun _ h => by cases h) headerCut_row_tie rfl ⟨rfl, rfl⟩ (by kernel_rfl) rfl
    (fun f fn hf hfn => by
      obtain rfl : f = 8 := Option.some.inj ((show Tryd.prog.funcNamed "vidimus/vidimuslaw12.HeaderCut" = some 8 by kernel_rfl).symm.trans hf) |>.symm
      obtain rfl : fn = Tryd.f8 := (Option.some.inj (Tryd.func8.symm.trans hfn)).symm
      exact ⟨by kernel_rfl, fun j t ht => by
        rw [Tryd.params8] at ht
        rcases j with _ | _ | _ | j
        · obtain rfl : t = 9 := by simpa using ht.symm
          exact (show Tryd.prog.wantsStandIn 9 = false by kernel_rfl)
        · obtain rfl : t = 36 := by simpa using ht.symm
          exact (show Tryd.prog.wantsStandIn 36 = false by kernel_rfl)
        · obtain rfl : t = 60 := by simpa using ht.symm
          exact (show Tryd.prog.wantsStandIn 60 = false by kernel_rfl)
        · simp at ht⟩)
    (by kernel_rfl)
#print axioms headerCut_card
end Go.Proofs.YtgcaaigfgbglcaaDoor
