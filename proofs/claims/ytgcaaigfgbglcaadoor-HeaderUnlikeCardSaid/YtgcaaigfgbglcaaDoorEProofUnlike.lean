/- HeaderUnlike: two chains from one header on, of the same length, end in the same hash just if they are the same, or two unlike texts have one hash. No condition beyond the row's: the variable 'start' holds what the program's text lays. -/
import Derived.Test.YtgcaaigfgbglcaaDoorEArgU
import Derived.Test.YtgcaaigfgbglcaaDoorDBase
import Derived.Test.YtgcaaigfgbglcaaDoorEArg
import Derived.Test.YtgcaaigfgbglcaaDoorCards
import Derived.Test.YtgcaaigfgbglcaaDoorTie
import Derived.SevenTiedAt
namespace Go.Proofs.YtgcaaigfgbglcaaDoor
open Go.ChangeShapes Go.WideShapes Go.ChangeAt Go.RowKit Go.WideMaps Go.WideElems
open Go.ChangeMaps (setBlock shut_map_nil open_string shut_string keptBut_setBlock frozen?_setBlock heap_setBlock_same)

theorem headerUnlike_kids : Kids Tryd.prog (· < Tryd.prog.types.size) := kids_rows (by kernel_rfl) (by kernel_rfl)
theorem headerUnlike_full : ∀ t e, t < Tryd.prog.types.size → Tryd.prog.underlying t = some (.slice e) → 0 < Tryd.prog.cellsOf e := slices_full_of Tryd.prog (by kernel_rfl)
set_option maxRecDepth 100000 in
theorem headerUnlike_lifted (os : Os) (started : os.Started) (H : Type) (enc : TypeId × Value → H) :
    ReturnsInHanded {} Tryd.checked os 6 .any (fun w args => (Rows.headerUnlikeSpec.pre enc Tryd.prog Tryd.f6 [] false w args ∧ laidMet Tryd.prog [("vidimus/sha.start", Rows.laid_vidimus_sha_start)] w) ∧ sizedMet enc Tryd.prog Tryd.f6 (OpenSpec.ofChange Rows.headerUnlikeSpec) false w args)
      (Rows.headerUnlikeSpec.post enc Tryd.prog Tryd.f6 false true false false) := by
  refine returnsInHanded_of_change_and (C := Tryd.checked) (X := fun w _ => laidMet Tryd.prog [("vidimus/sha.start", Rows.laid_vidimus_sha_start)] w) (fun _ _ _ hh h => h.of_heap hh) Tryd.own started (by kernel_rfl) Tryd.func6
    (ChangeSpec.witness_at (enc := enc) (C := Tryd.checked) (os := os) (X := fun w _ => laidMet Tryd.prog [("vidimus/sha.start", Rows.laid_vidimus_sha_start)] w) false (laidWorld Tryd.prog os) #[.string ByteArray.empty, .slice none 0 0, .slice none 0 0] 8 rfl (by kernel_rfl) (by kernel_rfl) (by kernel_rfl) (by kernel_rfl) (by kernel_rfl) (laidWorld_met os _)) ?_
  intro W base args ds gs before hval0 hW _ hsz hL _
  have hval : ∀ (j : Nat) t v, Tryd.f6.params[j]? = some t → args[j]? = some v → Value.okWide Tryd.prog W .any base t v := hval0
  have hW' := hW
  have hlt := hW.lt
  obtain ⟨p, q, hA0, hV0, rfl, hfz, hnd⟩ := hW
  have hA : DataW.TrodAll enc Tryd.prog W 0 (fun _ => true) true Tryd.f6.params.toList args.toList ds p := hA0
  have hA1 := hA
  have hV : DataW.TrodVars enc Tryd.prog W (fun _ => true) [] gs q := hV0
  rw [Tryd.params6] at hA hval
  obtain ⟨v0, v1, v2, d0, d1, d2, p0, p1, p2, rfl, rfl, rfl, h0, h1, h2⟩ := trodAll_three hA
  obtain ⟨s0, rfl, rfl, rfl, hs0⟩ := open_string Tryd.underlying9 (hval 0 9 v0 rfl rfl) h0
  obtain ⟨L1, hl1, hm1, hf1, hd1⟩ := open_steps2 Tryd.underlying36 Tryd.underlying44 (by kernel_rfl) rfl rfl rfl rfl (by kernel_rfl) (by kernel_rfl) (by kernel_rfl) (by kernel_rfl) Tryd.underlying9 Tryd.underlying22 Tryd.underlying22 Tryd.underlying3 (okWide_slice Tryd.underlying36 (hval 1 36 v1 rfl rfl)) h1
  have ha1 : ∃ L, StpSl W v1 L ∧ L.length ≤ maxLen ∧ (∀ x ∈ L, x.Fit) ∧ L.length * 40 ≤ 140737488355328 := ⟨L1, hl1, hm1, hf1, by
    rcases hd1 with e | ⟨E, S, e, e2⟩
    · rw [e]; simp
    · rw [e] at hsz
      have q := sized_slice hsz (j := 1) (t := 36) (e := 44) (elems := E) (spare := S) (by rw [Tryd.params6]; rfl) rfl Tryd.underlying36
      rw [show Tryd.checked.prog.bytesOf 44 = 40 from by kernel_rfl] at q
      unfold reachBytes at q
      omega⟩
  obtain ⟨L2, hl2, hm2, hf2, hd2⟩ := open_steps2 Tryd.underlying36 Tryd.underlying44 (by kernel_rfl) rfl rfl rfl rfl (by kernel_rfl) (by kernel_rfl) (by kernel_rfl) (by kernel_rfl) Tryd.underlying9 Tryd.underlying22 Tryd.underlying22 Tryd.underlying3 (okWide_slice Tryd.underlying36 (hval 2 36 v2 rfl rfl)) h2
  have ha2 : ∃ L, StpSl W v2 L ∧ L.length ≤ maxLen ∧ (∀ x ∈ L, x.Fit) ∧ L.length * 40 ≤ 140737488355328 := ⟨L2, hl2, hm2, hf2, by
    rcases hd2 with e | ⟨E, S, e, e2⟩
    · rw [e]; simp
    · rw [e] at hsz
      have q := sized_slice hsz (j := 2) (t := 36) (e := 44) (elems := E) (spare := S) (by rw [Tryd.params6]; rfl) rfl Tryd.underlying36
      rw [show Tryd.checked.prog.bytesOf 44 = 40 from by kernel_rfl] at q
      unfold reachBytes at q
      omega⟩
  have hst := start_of_laid hL
  obtain ⟨rfl, rfl⟩ : gs = [] ∧ q = [] := by
    cases gs with
    | nil => exact ⟨rfl, hV⟩
    | cons g r => exact absurd hV (by intro h; cases h)
  have e1 : Rows.headerUnlikeSpec.fn H ([.lit (.string s0.data.toList), d1, d2] ++ []) = { results := [.lit (.bool true)], args := [.lit (.string s0.data.toList), d1, d2] } := by simp [Rows.headerUnlikeSpec]
  refine (unlike_arg s0 v1 v2 W hst hs0 ha1 ha2).mono fun e W' ⟨he, hb⟩ => ?_
  subst he
  refine ⟨_, rfl, _, _, _, [], [] ++ p1 ++ p2, [], hW', ?_, ?_, ?_, hb.frame _, fun h => by cases h⟩
  · rw [e1]; exact trodAll_mk1 (shut_bool Tryd.underlying4 true)
  · rw [e1]; exact trodAll_stay headerUnlike_kids headerUnlike_full hb (by rw [Tryd.params6]; decide) hA1 (fun x hx => by
      have := hlt x (by simpa using hx)
      exact ⟨this, by simpa using this⟩)
  · rw [e1]; rfl

theorem headerUnlike_holds : Rows.HeaderUnlikeSaid :=
  OpenClaim.holds_of_wide 6 Tryd.f6 rfl rfl rfl rfl rfl rfl rfl ⟨rfl, rfl, rfl, rfl, rfl⟩ rfl rfl rfl rfl rfl (by kernel_rfl) Tryd.func6 (by kernel_rfl)
    (of_decide_eq_true (by kernel_rfl)) (by unfold Func.isWrapper; rw [if_neg (of_decide_eq_false (by kernel_rfl))]; exact ⟨rfl, rfl⟩)
    (fun os started H enc _ => headerUnlike_lifted os started H enc)

theorem headerUnlike_card : Rows.HeaderUnlikeCardSaid :=
  Claim7.holds_tied_plain_at .later [] [.data] true Rows.headerUnlikeCard.stood.harness false
    headerUnlike_holds (fun _ h => by cases h) (by kernel_rfl) (fun _ h => by cases h) headerUnlike_row_tie rfl ⟨rfl, rfl⟩ (by kernel_rfl) rfl
    (fun f fn hf hfn => by
      obtain rfl : f = 6 := Option.some.inj ((show Tryd.prog.funcNamed "vidimus/vidimuslaw12.HeaderUnlike" = some 6 by kernel_rfl).symm.trans hf) |>.symm
      obtain rfl : fn = Tryd.f6 := (Option.some.inj (Tryd.func6.symm.trans hfn)).symm
      exact ⟨by kernel_rfl, fun j t ht => by
        rw [Tryd.params6] at ht
        rcases j with _ | _ | _ | j
        · obtain rfl : t = 9 := by simpa using ht.symm
          exact (show Tryd.prog.wantsStandIn 9 = false by kernel_rfl)
        · obtain rfl : t = 36 := by simpa using ht.symm
          exact (show Tryd.prog.wantsStandIn 36 = false by kernel_rfl)
        · obtain rfl : t = 36 := by simpa using ht.symm
          exact (show Tryd.prog.wantsStandIn 36 = false by kernel_rfl)
        · simp at ht⟩)
    (by kernel_rfl)
#print axioms headerUnlike_card
end Go.Proofs.YtgcaaigfgbglcaaDoor
