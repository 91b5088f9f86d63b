/- For every number, text and count AesOn answers true: a later part of a text is put under a later number. No condition. -/
import Derived.Test.YtohjnhekkifhbabAesLawD
import Derived.Test.YtohjnhekkifhbabAesOpen
import Derived.Test.YtohjnhekkifhbabRows
import Derived.ProofKit
namespace Go.Proofs.Ytohjnhekkifhbab
open Go.ChangeShapes Go.WideShapes Go.ChangeAt Go.RowKit Go.WideMaps Go.WideElems
open Go.ChangeMaps (setBlock shut_map_nil open_string shut_string keptBut_setBlock frozen?_setBlock heap_setBlock_same)

theorem on_own : ownKnob Try.prog.godebug = none := by kernel_rfl
set_option maxRecDepth 100000 in
theorem on_lifted (os : Os) (started : os.Started) (H : Type) (enc : TypeId × Value → H) :
    ReturnsInHanded {} Try.checked os 8 .any (Rows.aesOnSpec.pre6 enc Try.prog Try.f8 Rows.aesOnRow.domain false) (Rows.aesOnSpec.post enc Try.prog Try.f8 false true false false) := by
  refine returnsInHanded_of_change (C := Try.checked) on_own started (by kernel_rfl) Try.func8
    (ChangeSpec.witness6 (enc := enc) (C := Try.checked) false ⟨#[], #[.agg #[.int .u8 0, .int .u8 0, .int .u8 0, .int .u8 0, .int .u8 0, .int .u8 0, .int .u8 0, .int .u8 0, .int .u8 0, .int .u8 0, .int .u8 0, .int .u8 0, .int .u8 0, .int .u8 0, .int .u8 0], .string ByteArray.empty, .int .u8 0], []⟩ 8 (by kernel_rfl) (by kernel_rfl) (by kernel_rfl) (by kernel_rfl)) ?_
  intro W base args ds gs before hval0 hW hcnd _
  have hval : ∀ (j : Nat) t v, Try.f8.params[j]? = some t → args[j]? = some v → Value.okWide Try.prog W .any base t v := hval0
  have hW' := hW
  obtain ⟨p, q, hA0, hV, rfl, hfz, hnd⟩ := hW
  have hA : DataW.TrodAll enc Try.prog W 0 (fun _ => true) true Try.f8.params.toList args.toList ds p := hA0
  rw [Try.params8] at hA hval
  obtain ⟨v0, v1, v2, d0, d1, d2, p0, p1, p2, rfl, rfl, rfl, h0, h1, h2⟩ := trodAll_three hA
  obtain ⟨B0, rfl, rfl, rfl⟩ := open_bytes (n := 15) Try.underlying38 (by kernel_rfl) Try.underlying5 (by kernel_rfl) (hval 0 38 v0 rfl rfl) h0
  obtain ⟨s1, rfl, rfl, rfl, hs1⟩ := open_string Try.underlying9 (hval 1 9 v1 rfl rfl) h1
  obtain ⟨n2, rfl, rfl, rfl, hn2⟩ := open_int Try.underlying5 (hval 2 5 v2 rfl rfl) h2
  obtain ⟨rfl, rfl⟩ := trodVars_none hV
  have hw2 : 0 ≤ n2 ∧ n2 ≤ 255 := by simpa [Lit.wf, IntKind.min, IntKind.max, IntKind.signed, IntKind.bits] using hn2
  have hm : n2 = ((UInt8.ofNat n2.toNat).toNat : Int) := by simp; omega
  have hlaw := on_law B0 s1 (UInt8.ofNat n2.toNat) W hs1
  rw [← hm] at hlaw
  have e1 : Rows.aesOnSpec.fn H ([bytesD 15 B0, .lit (.string s1.data.toList), .lit (.int .u8 n2)] ++ []) = { results := [.lit (.bool true)], args := [bytesD 15 B0, .lit (.string s1.data.toList), .lit (.int .u8 n2)] } := by simp [Rows.aesOnSpec]
  refine (hlaw).mono fun e W' ⟨he, hb⟩ => ?_
  subst he
  refine ⟨_, rfl, _, _, _, [], [], [], hW', ?_, ?_, ?_, hb.frame _, fun h => by cases h⟩
  · rw [e1]; exact trodAll_mk1 (shut_bool Try.underlying4 true)
  · rw [e1]; exact trodAll_mk3 (shut_bytes Try.underlying38 (by kernel_rfl) Try.underlying5 (by kernel_rfl) B0) (shut_string Try.underlying9 hs1) (shut_int Try.underlying5 hn2)
  · rw [e1]; rfl

theorem on_holds : Rows.AesOnSaid :=
  OpenClaim.holds_of_wide 8 Try.f8 rfl rfl rfl rfl rfl rfl rfl ⟨rfl, rfl, rfl, rfl, rfl⟩ rfl rfl rfl rfl rfl (by kernel_rfl) Try.func8 (by kernel_rfl)
    (of_decide_eq_true (by kernel_rfl)) (by unfold Func.isWrapper; rw [if_neg (of_decide_eq_false (by kernel_rfl))]; exact ⟨rfl, rfl⟩)
    (fun os started H enc _ => on_lifted os started H enc)
#print axioms on_holds
end Go.Proofs.Ytohjnhekkifhbab
