/- For every two bytes AesBoxes answers true: a byte's box is the document's, and unlike bytes have unlike boxes. No condition. -/
import Derived.Test.YtohjnhekkifhbabAesLawE
import Derived.Test.YtohjnhekkifhbabAesOpen
import Derived.Test.YtohjnhekkifhbabRows
import Derived.ProofKit
namespace Go.Proofs.Ytohjnhekkifhbab
open Go.ChangeShapes Go.WideShapes Go.ChangeAt Go.RowKit Go.WideMaps Go.WideElems
open Go.ChangeMaps (setBlock shut_map_nil open_string shut_string keptBut_setBlock frozen?_setBlock heap_setBlock_same)

theorem boxes_own : ownKnob Try.prog.godebug = none := by kernel_rfl
set_option maxRecDepth 100000 in
theorem boxes_lifted (os : Os) (started : os.Started) (H : Type) (enc : TypeId × Value → H) :
    ReturnsInHanded {} Try.checked os 3 .any (Rows.aesBoxesSpec.pre6 enc Try.prog Try.f3 Rows.aesBoxesRow.domain false) (Rows.aesBoxesSpec.post enc Try.prog Try.f3 false true false false) := by
  refine returnsInHanded_of_change (C := Try.checked) boxes_own started (by kernel_rfl) Try.func3
    (ChangeSpec.witness6 (enc := enc) (C := Try.checked) false ⟨#[], #[.int .u8 0, .int .u8 0], []⟩ 8 (by kernel_rfl) (by kernel_rfl) (by kernel_rfl) (by kernel_rfl)) ?_
  intro W base args ds gs before hval0 hW hcnd _
  have hval : ∀ (j : Nat) t v, Try.f3.params[j]? = some t → args[j]? = some v → Value.okWide Try.prog W .any base t v := hval0
  have hW' := hW
  obtain ⟨p, q, hA0, hV, rfl, hfz, hnd⟩ := hW
  have hA : DataW.TrodAll enc Try.prog W 0 (fun _ => true) true Try.f3.params.toList args.toList ds p := hA0
  rw [Try.params3] at hA hval
  obtain ⟨v0, v1, d0, d1, p0, p1, rfl, rfl, rfl, h0, h1⟩ := trodAll_two hA
  obtain ⟨n0, rfl, rfl, rfl, hn0⟩ := open_int Try.underlying5 (hval 0 5 v0 rfl rfl) h0
  obtain ⟨n1, rfl, rfl, rfl, hn1⟩ := open_int Try.underlying5 (hval 1 5 v1 rfl rfl) h1
  obtain ⟨rfl, rfl⟩ := trodVars_none hV
  have hw0 : 0 ≤ n0 ∧ n0 ≤ 255 := by simpa [Lit.wf, IntKind.min, IntKind.max, IntKind.signed, IntKind.bits] using hn0
  have hw1 : 0 ≤ n1 ∧ n1 ≤ 255 := by simpa [Lit.wf, IntKind.min, IntKind.max, IntKind.signed, IntKind.bits] using hn1
  have hm0 : n0 = ((UInt8.ofNat n0.toNat).toNat : Int) := by simp; omega
  have hm1 : n1 = ((UInt8.ofNat n1.toNat).toNat : Int) := by simp; omega
  have hlaw := boxes_law (UInt8.ofNat n0.toNat) (UInt8.ofNat n1.toNat) W
  rw [← hm0, ← hm1] at hlaw
  have e1 : Rows.aesBoxesSpec.fn H ([.lit (.int .u8 n0), .lit (.int .u8 n1)] ++ []) = { results := [.lit (.bool true)], args := [.lit (.int .u8 n0), .lit (.int .u8 n1)] } := by simp [Rows.aesBoxesSpec]
  refine (hlaw).mono fun e W' ⟨he, hb⟩ => ?_
  subst he
  refine ⟨_, rfl, _, _, _, [], [], [], hW', ?_, ?_, ?_, hb.frame _, fun h => by cases h⟩
  · rw [e1]; exact trodAll_mk1 (shut_bool Try.underlying4 true)
  · rw [e1]; exact trodAll_mk2 (shut_int Try.underlying5 hn0) (shut_int Try.underlying5 hn1)
  · rw [e1]; rfl

theorem boxes_holds : Rows.AesBoxesSaid :=
  OpenClaim.holds_of_wide 3 Try.f3 rfl rfl rfl rfl rfl rfl rfl ⟨rfl, rfl, rfl, rfl, rfl⟩ rfl rfl rfl rfl rfl (by kernel_rfl) Try.func3 (by kernel_rfl)
    (of_decide_eq_true (by kernel_rfl)) (by unfold Func.isWrapper; rw [if_neg (of_decide_eq_false (by kernel_rfl))]; exact ⟨rfl, rfl⟩)
    (fun os started H enc _ => boxes_lifted os started H enc)
#print axioms boxes_holds
end Go.Proofs.Ytohjnhekkifhbab
