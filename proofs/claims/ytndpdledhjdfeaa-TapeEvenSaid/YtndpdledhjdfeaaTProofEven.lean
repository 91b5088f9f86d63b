/- For every eight bytes and every power TapeEven answers true: a number below a power of two is that of the last bits of eight bytes. No condition. -/
import Derived.Test.YtndpdledhjdfeaaTLawE
import Derived.Test.YtndpdledhjdfeaaTOpen
import Derived.Test.YtndpdledhjdfeaaRows
import Derived.ProofKit
namespace Go.Proofs.Ytndpdledhjdfeaa
open Go.ChangeShapes Go.WideShapes Go.ChangeAt Go.RowKit Go.WideMaps Go.WideElems
open Go.ChangeMaps (setBlock shut_map_nil open_string shut_string keptBut_setBlock frozen?_setBlock heap_setBlock_same)

theorem even_own : ownKnob Try.prog.godebug = none := by kernel_rfl
set_option maxRecDepth 100000 in
theorem even_lifted (os : Os) (started : os.Started) (H : Type) (enc : TypeId × Value → H) :
    ReturnsInHanded {} Try.checked os 5 .any (Rows.tapeEvenSpec.pre6 enc Try.prog Try.f5 Rows.tapeEvenRow.domain false) (Rows.tapeEvenSpec.post enc Try.prog Try.f5 false true false false) := by
  refine returnsInHanded_of_change (C := Try.checked) even_own started (by kernel_rfl) Try.func5
    (ChangeSpec.witness6 (enc := enc) (C := Try.checked) false ⟨#[], #[.agg #[.int .u8 0, .int .u8 0, .int .u8 0, .int .u8 0, .int .u8 0, .int .u8 0, .int .u8 0, .int .u8 0], .int .u8 0], []⟩ 8 (by kernel_rfl) (by kernel_rfl) (by kernel_rfl) (by kernel_rfl)) ?_
  intro W base args ds gs before hval0 hW hcnd _
  have hval : ∀ (j : Nat) t v, Try.f5.params[j]? = some t → args[j]? = some v → Value.okWide Try.prog W .any base t v := hval0
  have hW' := hW
  obtain ⟨p, q, hA0, hV, rfl, hfz, hnd⟩ := hW
  have hA : DataW.TrodAll enc Try.prog W 0 (fun _ => true) true Try.f5.params.toList args.toList ds p := hA0
  rw [Try.params5] at hA hval
  obtain ⟨v0, v1, d0, d1, p0, p1, rfl, rfl, rfl, h0, h1⟩ := trodAll_two hA
  obtain ⟨B0, rfl, rfl, rfl⟩ := open_bytes (n := 8) Try.underlying44 (by kernel_rfl) Try.underlying5 (by kernel_rfl) (hval 0 44 v0 rfl rfl) h0
  obtain ⟨n0, rfl, rfl, rfl, hn0⟩ := open_int Try.underlying5 (hval 1 5 v1 rfl rfl) h1
  have hw : 0 ≤ n0 ∧ n0 ≤ 255 := by simpa [Lit.wf, IntKind.min, IntKind.max, IntKind.signed, IntKind.bits] using hn0
  obtain ⟨p0, rfl⟩ : ∃ p : Nat, n0 = p := ⟨n0.toNat, by omega⟩
  obtain ⟨rfl, rfl⟩ := trodVars_none hV
  have e1 : Rows.tapeEvenSpec.fn H ([bytesD 8 B0, .lit (.int .u8 p0)] ++ []) = { results := [.lit (.bool true)], args := [bytesD 8 B0, .lit (.int .u8 p0)] } := by simp [Rows.tapeEvenSpec]
  refine (even_law B0 p0 W (by omega)).mono fun e W' ⟨he, hb⟩ => ?_
  subst he
  refine ⟨_, rfl, _, _, _, [], [], [], hW', ?_, ?_, ?_, hb.frame _, fun h => by cases h⟩
  · rw [e1]; exact trodAll_mk1 (shut_bool Try.underlying4 true)
  · rw [e1]; exact trodAll_mk2 (shut_bytes Try.underlying44 (by kernel_rfl) Try.underlying5 (by kernel_rfl) B0) (shut_int Try.underlying5 hn0)
  · rw [e1]; rfl

theorem even_holds : Rows.TapeEvenSaid :=
  OpenClaim.holds_of_wide 5 Try.f5 rfl rfl rfl rfl rfl rfl rfl ⟨rfl, rfl, rfl, rfl, rfl⟩ rfl rfl rfl rfl rfl (by kernel_rfl) Try.func5 (by kernel_rfl)
    (of_decide_eq_true (by kernel_rfl)) (by unfold Func.isWrapper; rw [if_neg (of_decide_eq_false (by kernel_rfl))]; exact ⟨rfl, rfl⟩)
    (fun os started H enc _ => even_lifted os started H enc)
#print axioms even_holds
end Go.Proofs.Ytndpdledhjdfeaa
