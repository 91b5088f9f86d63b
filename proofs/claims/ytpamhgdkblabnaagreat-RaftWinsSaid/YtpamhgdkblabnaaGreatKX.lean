/- For every number of nodes, every row of bytes (whose votes come) and every row of bools (granted or not) RaftWins answers true: a node that stands wins as soon as a majority, it among them, voted for it, and no sooner. No condition. -/
import Derived.Test.YtpamhgdkblabnaaGreatKW
import Derived.Test.YtpamhgdkblabnaaGreatRows
import Derived.ProofKit
namespace Go.Proofs.YtpamhgdkblabnaaGreat
open Go.ChangeShapes Go.WideShapes Go.ChangeAt Go.RowKit Go.WideMaps Go.WideElems
open Go.ChangeMaps (setBlock shut_map_nil open_string shut_string keptBut_setBlock frozen?_setBlock heap_setBlock_same)

theorem wins_own : ownKnob Tryz.prog.godebug = none := by kernel_rfl
theorem wins_kids : Kids Tryz.prog (· < Tryz.prog.types.size) := kids_rows (by kernel_rfl) (by kernel_rfl)
theorem wins_full : ∀ t e, t < Tryz.prog.types.size → Tryz.prog.underlying t = some (.slice e) → 0 < Tryz.prog.cellsOf e := slices_full_of Tryz.prog (by kernel_rfl)
theorem wins_all (n : Nat) (hn : n ≤ 255) (fa ba : Option Addr) (c L m c2 : Nat) (w : World) (hf : U8s w fa L) (hb : BoolsAt w ba m) :
    Calls Tryz.prog 6 #[.int .u8 (n : Int), .slice fa L c, .slice ba m c2] w fun e w' => e = .returned (.bool true) ∧ Below w.heap.size w w' := by
  by_cases h : n < 2 ∨ 9 < n ∨ 40 < L ∨ m < L
  · exact wins_out n hn fa ba c L m c2 w h
  · obtain ⟨F, hF1, hF2⟩ := u8s_fn hf
    obtain ⟨B, hB⟩ := bools_fn (L := L) hb (by omega)
    exact wins_law n (by omega) (by omega) fa ba c L m c2 F B w (by omega) (by omega) hF2 hF1 hB
set_option maxRecDepth 100000 in
theorem wins_lifted (os : Os) (started : os.Started) (H : Type) (enc : TypeId × Value → H) :
    ReturnsInHanded {} Tryz.checked os 6 .any (Rows.raftWinsSpec.pre6 enc Tryz.prog Tryz.f6 Rows.raftWinsRow.domain false) (Rows.raftWinsSpec.post enc Tryz.prog Tryz.f6 false true false false) := by
  refine returnsInHanded_of_change (C := Tryz.checked) wins_own started (by kernel_rfl) Tryz.func6
    (ChangeSpec.witness6 (enc := enc) (C := Tryz.checked) false ⟨#[], #[.int .u8 0, .slice none 0 0, .slice none 0 0], []⟩ 8 (by kernel_rfl) (by kernel_rfl) (by kernel_rfl) (by kernel_rfl)) ?_
  intro W base args ds gs before hval0 hW hcnd _
  have hval : ∀ (j : Nat) t v, Tryz.f6.params[j]? = some t → args[j]? = some v → Value.okWide Tryz.prog W .any base t v := hval0
  have hW' := hW
  have hlt := hW.lt
  obtain ⟨p, q, hA0, hV, rfl, hfz, hnd⟩ := hW
  have hA : DataW.TrodAll enc Tryz.prog W 0 (fun _ => true) true Tryz.f6.params.toList args.toList ds p := hA0
  have hA1 := hA
  rw [Tryz.params6] at hA hval
  obtain ⟨v0, v1, v2, d0, d1, d2, p0, p1, p2, rfl, rfl, rfl, h0, h1, h2⟩ := trodAll_three hA
  obtain ⟨x, rfl, rfl, rfl, hx⟩ := open_int Tryz.underlying5 (hval 0 5 v0 rfl rfl) h0
  obtain ⟨fa, L, c, rfl, _, hU⟩ := open_u8s Tryz.underlying73 Tryz.underlying5 (by kernel_rfl) (okWide_slice Tryz.underlying73 (hval 1 73 v1 rfl rfl)) h1
  obtain ⟨ba, m, c2, rfl, hB⟩ := open_bools Tryz.underlying45 Tryz.underlying4 (by kernel_rfl) (okWide_slice Tryz.underlying45 (hval 2 45 v2 rfl rfl)) h2
  obtain ⟨rfl, rfl⟩ := trodVars_none hV
  have hw : 0 ≤ x ∧ x ≤ 255 := by simpa [Lit.wf, IntKind.min, IntKind.max, IntKind.signed, IntKind.bits] using hx
  obtain ⟨n, rfl⟩ : ∃ n : Nat, x = (n : Int) := ⟨x.toNat, by omega⟩
  have e1 : Rows.raftWinsSpec.fn H ([.lit (.int .u8 (n : Int)), d1, d2] ++ []) = { results := [.lit (.bool true)], args := [.lit (.int .u8 (n : Int)), d1, d2] } := by simp [Rows.raftWinsSpec]
  refine (wins_all n (by omega) fa ba c L m c2 W hU hB).mono fun e W' ⟨he, hb⟩ => ?_
  subst he
  refine ⟨_, rfl, _, _, _, [], [] ++ (p1 ++ p2), [], hW', ?_, ?_, ?_, hb.frame _, fun h => by cases h⟩
  · rw [e1]; exact trodAll_mk1 (shut_bool Tryz.underlying4 true)
  · rw [e1]; exact trodAll_stay wins_kids wins_full hb (by rw [Tryz.params6]; decide) hA1 (fun x hx => by
      have := hlt x (by simpa using hx)
      exact ⟨this, by simpa using this⟩)
  · rw [e1]; rfl

theorem wins_holds : Rows.RaftWinsSaid :=
  OpenClaim.holds_of_wide 6 Tryz.f6 rfl rfl rfl rfl rfl rfl rfl ⟨rfl, rfl, rfl, rfl, rfl⟩ rfl rfl rfl rfl rfl (by kernel_rfl) Tryz.func6 (by kernel_rfl)
    (of_decide_eq_true (by kernel_rfl)) (by unfold Func.isWrapper; rw [if_neg (of_decide_eq_false (by kernel_rfl))]; exact ⟨rfl, rfl⟩)
    (fun os started H enc _ => wins_lifted os started H enc)
#print axioms wins_holds
end Go.Proofs.YtpamhgdkblabnaaGreat
