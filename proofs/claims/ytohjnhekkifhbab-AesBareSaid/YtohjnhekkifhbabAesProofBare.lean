/- For every key and number AesBare answers true: 16 bytes 0 under them are the block of the number. No condition. -/
import Derived.Test.YtohjnhekkifhbabAesLawB
import Derived.Test.YtohjnhekkifhbabAesOpen
import Derived.Test.YtohjnhekkifhbabRows
import Derived.ProofKit
namespace Go.Proofs.Ytohjnhekkifhbab
open Go.ChangeShapes Go.WideShapes Go.ChangeAt Go.RowKit Go.WideMaps Go.WideElems
open Go.ChangeMaps (setBlock shut_map_nil open_string shut_string keptBut_setBlock frozen?_setBlock heap_setBlock_same)

theorem bare_own : ownKnob Try.prog.godebug = none := by kernel_rfl
set_option maxRecDepth 100000 in
theorem bare_lifted (os : Os) (started : os.Started) (H : Type) (enc : TypeId × Value → H) :
    ReturnsInHanded {} Try.checked os 9 .any (Rows.aesBareSpec.pre6 enc Try.prog Try.f9 Rows.aesBareRow.domain false) (Rows.aesBareSpec.post enc Try.prog Try.f9 false true false false) := by
  refine returnsInHanded_of_change (C := Try.checked) bare_own started (by kernel_rfl) Try.func9
    (ChangeSpec.witness6 (enc := enc) (C := Try.checked) false ⟨#[], #[.agg #[.int .u8 0, .int .u8 0, .int .u8 0, .int .u8 0, .int .u8 0, .int .u8 0, .int .u8 0, .int .u8 0, .int .u8 0, .int .u8 0, .int .u8 0, .int .u8 0, .int .u8 0, .int .u8 0, .int .u8 0, .int .u8 0], .agg #[.int .u8 0, .int .u8 0, .int .u8 0, .int .u8 0, .int .u8 0, .int .u8 0, .int .u8 0, .int .u8 0, .int .u8 0, .int .u8 0, .int .u8 0, .int .u8 0, .int .u8 0, .int .u8 0, .int .u8 0, .int .u8 0]], []⟩ 8 (by kernel_rfl) (by kernel_rfl) (by kernel_rfl) (by kernel_rfl)) ?_
  intro W base args ds gs before hval0 hW hcnd _
  have hval : ∀ (j : Nat) t v, Try.f9.params[j]? = some t → args[j]? = some v → Value.okWide Try.prog W .any base t v := hval0
  have hW' := hW
  obtain ⟨p, q, hA0, hV, rfl, hfz, hnd⟩ := hW
  have hA : DataW.TrodAll enc Try.prog W 0 (fun _ => true) true Try.f9.params.toList args.toList ds p := hA0
  rw [Try.params9] at hA hval
  obtain ⟨v0, v1, d0, d1, p0, p1, rfl, rfl, rfl, h0, h1⟩ := trodAll_two hA
  obtain ⟨B0, rfl, rfl, rfl⟩ := open_bytes (n := 16) Try.underlying35 (by kernel_rfl) Try.underlying5 (by kernel_rfl) (hval 0 35 v0 rfl rfl) h0
  obtain ⟨B1, rfl, rfl, rfl⟩ := open_bytes (n := 16) Try.underlying35 (by kernel_rfl) Try.underlying5 (by kernel_rfl) (hval 1 35 v1 rfl rfl) h1
  obtain ⟨rfl, rfl⟩ := trodVars_none hV
  have e1 : Rows.aesBareSpec.fn H ([bytesD 16 B0, bytesD 16 B1] ++ []) = { results := [.lit (.bool true)], args := [bytesD 16 B0, bytesD 16 B1] } := by simp [Rows.aesBareSpec]
  refine (bare_law B0 B1 W).mono fun e W' ⟨he, hb⟩ => ?_
  subst he
  refine ⟨_, rfl, _, _, _, [], [], [], hW', ?_, ?_, ?_, hb.frame _, fun h => by cases h⟩
  · rw [e1]; exact trodAll_mk1 (shut_bool Try.underlying4 true)
  · rw [e1]; exact trodAll_mk2 (shut_bytes Try.underlying35 (by kernel_rfl) Try.underlying5 (by kernel_rfl) B0) (shut_bytes Try.underlying35 (by kernel_rfl) Try.underlying5 (by kernel_rfl) B1)
  · rw [e1]; rfl

theorem bare_holds : Rows.AesBareSaid :=
  OpenClaim.holds_of_wide 9 Try.f9 rfl rfl rfl rfl rfl rfl rfl ⟨rfl, rfl, rfl, rfl, rfl⟩ rfl rfl rfl rfl rfl (by kernel_rfl) Try.func9 (by kernel_rfl)
    (of_decide_eq_true (by kernel_rfl)) (by unfold Func.isWrapper; rw [if_neg (of_decide_eq_false (by kernel_rfl))]; exact ⟨rfl, rfl⟩)
    (fun os started H enc _ => bare_lifted os started H enc)
#print axioms bare_holds
end Go.Proofs.Ytohjnhekkifhbab
