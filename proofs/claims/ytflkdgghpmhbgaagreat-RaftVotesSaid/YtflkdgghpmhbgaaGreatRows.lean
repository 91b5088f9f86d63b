/-
  No cell of these rows narrows 'for every input' (looked for: loops, veiled, ifaces, maps, wideKeys, modest, calm, conditions, laid).
  DERIVED. THE GIVEN ROWS OF THIS SEAT. 9 by the template 'for every input the law returns true; each argument reads behind the call as it read before'; 0 by the template 'total and deterministic' (their statements: YtflkdgghpmhbgaaGreatTotals.lean).
  GIVEN WITH THE SEED: the statements are not yours to turn. If you find one false, say at which input.
  Laid BY PROGRAM, IN A SANDBOX (cutbox-rows.mjs): the forced cells as the released guide's own fill.sh prints them over the translation 5391cdfba954fbed… (all of the seat's roots in one cut). By AI agents, Wed Nov 11 2026. No macro, syntax, notation, axiom, sorry.
-/
import Derived.Test.YtflkdgghpmhbgaaGreatChecked
import GoSem.Claim
import GoSem.ClaimJoined
import GoSem.ClaimMapViews
import Derived.JoinedTies
import Derived.KernelRfl
namespace Go.Proofs.YtflkdgghpmhbgaaGreat
/- THE CELL 'sum', in the pinned program and in every row, IS THE sha256 OF THE DUMP (.gsa) THAT YtflkdgghpmhbgaaGreatProg.lean LOADS. Nothing in Lean hashes anything: it is a label: what it is worth is what the hold of that sum in a sandbox is worth. -/
noncomputable def Tryz.pinned : Pinned := { name := "ytflkdgghpmhbgaagreat", sum := "5391cdfba954fbeddca178a88d2ef1028304573125ec914142bbf833a29f4f1a", checked := Tryz.checked }
namespace Rows
def none {H : Type} : Left H := { results := [], args := [] }

/-- 'vidimuslaw09.RaftRuns': WHATEVER THE INPUT: true; the input reads as it did. -/
def raftRunsSpec : ChangeSpec := { name := "raftRuns", fn := fun _ => fun
  | [d1, d2, d3] => { results := [.lit (.bool true)], args := [d1, d2, d3] }
  | _ => none }
def raftRunsRow : OpenClaim := { program := "ytflkdgghpmhbgaagreat", sum := "5391cdfba954fbeddca178a88d2ef1028304573125ec914142bbf833a29f4f1a", func := "vidimus/vidimuslaw09.RaftRuns", spec := "raftRuns", inPlace := ["slices.overlaps[vidimus/api.Entry]", "internal/abi.NoEscape"], unfollowed := true, recurses := true, apart := false }
def RaftRunsSaid : Prop := raftRunsRow.holds Tryz.pinned (OpenSpec.ofChange raftRunsSpec)

/-- ITS FALSE NEIGHBOUR: 'it returns false'. Refute it at one input. -/
def raftRunsWrong : ChangeSpec := { name := "raftRuns", fn := fun _ => fun
  | [d1, d2, d3] => { results := [.lit (.bool false)], args := [d1, d2, d3] }
  | _ => none }
def RaftRunsWrongFalsely : Prop := raftRunsRow.holds Tryz.pinned (OpenSpec.ofChange raftRunsWrong)

/-- 'vidimuslaw09.RaftVotes': WHATEVER THE INPUT: true; the input reads as it did. -/
def raftVotesSpec : ChangeSpec := { name := "raftVotes", fn := fun _ => fun
  | [d1, d2, d3] => { results := [.lit (.bool true)], args := [d1, d2, d3] }
  | _ => none }
def raftVotesRow : OpenClaim := { program := "ytflkdgghpmhbgaagreat", sum := "5391cdfba954fbeddca178a88d2ef1028304573125ec914142bbf833a29f4f1a", func := "vidimus/vidimuslaw09.RaftVotes", spec := "raftVotes", inPlace := ["slices.overlaps[vidimus/api.Entry]", "internal/abi.NoEscape"], unfollowed := true, recurses := true, apart := false }
def RaftVotesSaid : Prop := raftVotesRow.holds Tryz.pinned (OpenSpec.ofChange raftVotesSpec)

/-- ITS FALSE NEIGHBOUR: 'it returns false'. Refute it at one input. -/
def raftVotesWrong : ChangeSpec := { name := "raftVotes", fn := fun _ => fun
  | [d1, d2, d3] => { results := [.lit (.bool false)], args := [d1, d2, d3] }
  | _ => none }
def RaftVotesWrongFalsely : Prop := raftVotesRow.holds Tryz.pinned (OpenSpec.ofChange raftVotesWrong)

/-- 'vidimuslaw09.RaftKeeps': WHATEVER THE INPUT: true; the input reads as it did. -/
def raftKeepsSpec : ChangeSpec := { name := "raftKeeps", fn := fun _ => fun
  | [d1, d2, d3] => { results := [.lit (.bool true)], args := [d1, d2, d3] }
  | _ => none }
def raftKeepsRow : OpenClaim := { program := "ytflkdgghpmhbgaagreat", sum := "5391cdfba954fbeddca178a88d2ef1028304573125ec914142bbf833a29f4f1a", func := "vidimus/vidimuslaw09.RaftKeeps", spec := "raftKeeps", inPlace := ["slices.overlaps[vidimus/api.Entry]", "internal/abi.NoEscape"], unfollowed := true, recurses := true, apart := false }
def RaftKeepsSaid : Prop := raftKeepsRow.holds Tryz.pinned (OpenSpec.ofChange raftKeepsSpec)

/-- ITS FALSE NEIGHBOUR: 'it returns false'. Refute it at one input. -/
def raftKeepsWrong : ChangeSpec := { name := "raftKeeps", fn := fun _ => fun
  | [d1, d2, d3] => { results := [.lit (.bool false)], args := [d1, d2, d3] }
  | _ => none }
def RaftKeepsWrongFalsely : Prop := raftKeepsRow.holds Tryz.pinned (OpenSpec.ofChange raftKeepsWrong)

/-- 'vidimuslaw11.GroupSafe': WHATEVER THE INPUT: true; the input reads as it did. -/
def groupSafeSpec : ChangeSpec := { name := "groupSafe", fn := fun _ => fun
  | [d1, d2] => { results := [.lit (.bool true)], args := [d1, d2] }
  | _ => none }
def groupSafeRow : OpenClaim := { program := "ytflkdgghpmhbgaagreat", sum := "5391cdfba954fbeddca178a88d2ef1028304573125ec914142bbf833a29f4f1a", func := "vidimus/vidimuslaw11.GroupSafe", spec := "groupSafe", inPlace := ["slices.overlaps[vidimus/api.Entry]", "internal/abi.NoEscape"], unfollowed := true, recurses := true, apart := false }
def GroupSafeSaid : Prop := groupSafeRow.holds Tryz.pinned (OpenSpec.ofChange groupSafeSpec)

/-- ITS FALSE NEIGHBOUR: 'it returns false'. Refute it at one input. -/
def groupSafeWrong : ChangeSpec := { name := "groupSafe", fn := fun _ => fun
  | [d1, d2] => { results := [.lit (.bool false)], args := [d1, d2] }
  | _ => none }
def GroupSafeWrongFalsely : Prop := groupSafeRow.holds Tryz.pinned (OpenSpec.ofChange groupSafeWrong)

/-- 'vidimuslaw11.GroupLives': WHATEVER THE INPUT: true; the input reads as it did. -/
def groupLivesSpec : ChangeSpec := { name := "groupLives", fn := fun _ => fun
  | [d1, d2, d3] => { results := [.lit (.bool true)], args := [d1, d2, d3] }
  | _ => none }
def groupLivesRow : OpenClaim := { program := "ytflkdgghpmhbgaagreat", sum := "5391cdfba954fbeddca178a88d2ef1028304573125ec914142bbf833a29f4f1a", func := "vidimus/vidimuslaw11.GroupLives", spec := "groupLives", inPlace := ["slices.overlaps[vidimus/api.Entry]", "internal/abi.NoEscape"], unfollowed := true, recurses := true, apart := false }
def GroupLivesSaid : Prop := groupLivesRow.holds Tryz.pinned (OpenSpec.ofChange groupLivesSpec)

/-- ITS FALSE NEIGHBOUR: 'it returns false'. Refute it at one input. -/
def groupLivesWrong : ChangeSpec := { name := "groupLives", fn := fun _ => fun
  | [d1, d2, d3] => { results := [.lit (.bool false)], args := [d1, d2, d3] }
  | _ => none }
def GroupLivesWrongFalsely : Prop := groupLivesRow.holds Tryz.pinned (OpenSpec.ofChange groupLivesWrong)

/-- 'vidimuslaw11.GroupCompacts': WHATEVER THE INPUT: true; the input reads as it did. -/
def groupCompactsSpec : ChangeSpec := { name := "groupCompacts", fn := fun _ => fun
  | [d1, d2, d3] => { results := [.lit (.bool true)], args := [d1, d2, d3] }
  | _ => none }
def groupCompactsRow : OpenClaim := { program := "ytflkdgghpmhbgaagreat", sum := "5391cdfba954fbeddca178a88d2ef1028304573125ec914142bbf833a29f4f1a", func := "vidimus/vidimuslaw11.GroupCompacts", spec := "groupCompacts", inPlace := ["slices.overlaps[vidimus/api.Entry]", "internal/abi.NoEscape"], unfollowed := true, recurses := true, apart := false }
def GroupCompactsSaid : Prop := groupCompactsRow.holds Tryz.pinned (OpenSpec.ofChange groupCompactsSpec)

/-- ITS FALSE NEIGHBOUR: 'it returns false'. Refute it at one input. -/
def groupCompactsWrong : ChangeSpec := { name := "groupCompacts", fn := fun _ => fun
  | [d1, d2, d3] => { results := [.lit (.bool false)], args := [d1, d2, d3] }
  | _ => none }
def GroupCompactsWrongFalsely : Prop := groupCompactsRow.holds Tryz.pinned (OpenSpec.ofChange groupCompactsWrong)

/-- 'vidimuslaw11.GroupOutcomes': WHATEVER THE INPUT: true; the input reads as it did. -/
def groupOutcomesSpec : ChangeSpec := { name := "groupOutcomes", fn := fun _ => fun
  | [d1, d2] => { results := [.lit (.bool true)], args := [d1, d2] }
  | _ => none }
def groupOutcomesRow : OpenClaim := { program := "ytflkdgghpmhbgaagreat", sum := "5391cdfba954fbeddca178a88d2ef1028304573125ec914142bbf833a29f4f1a", func := "vidimus/vidimuslaw11.GroupOutcomes", spec := "groupOutcomes", inPlace := ["slices.overlaps[vidimus/api.Entry]", "internal/abi.NoEscape"], unfollowed := true, recurses := true, apart := false }
def GroupOutcomesSaid : Prop := groupOutcomesRow.holds Tryz.pinned (OpenSpec.ofChange groupOutcomesSpec)

/-- ITS FALSE NEIGHBOUR: 'it returns false'. Refute it at one input. -/
def groupOutcomesWrong : ChangeSpec := { name := "groupOutcomes", fn := fun _ => fun
  | [d1, d2] => { results := [.lit (.bool false)], args := [d1, d2] }
  | _ => none }
def GroupOutcomesWrongFalsely : Prop := groupOutcomesRow.holds Tryz.pinned (OpenSpec.ofChange groupOutcomesWrong)

/-- 'vidimuslaw11.GroupMinor': WHATEVER THE INPUT: true; the input reads as it did. -/
def groupMinorSpec : ChangeSpec := { name := "groupMinor", fn := fun _ => fun
  | [d1, d2, d3] => { results := [.lit (.bool true)], args := [d1, d2, d3] }
  | _ => none }
def groupMinorRow : OpenClaim := { program := "ytflkdgghpmhbgaagreat", sum := "5391cdfba954fbeddca178a88d2ef1028304573125ec914142bbf833a29f4f1a", func := "vidimus/vidimuslaw11.GroupMinor", spec := "groupMinor", inPlace := ["slices.overlaps[vidimus/api.Entry]", "internal/abi.NoEscape"], unfollowed := true, recurses := true, apart := false }
def GroupMinorSaid : Prop := groupMinorRow.holds Tryz.pinned (OpenSpec.ofChange groupMinorSpec)

/-- ITS FALSE NEIGHBOUR: 'it returns false'. Refute it at one input. -/
def groupMinorWrong : ChangeSpec := { name := "groupMinor", fn := fun _ => fun
  | [d1, d2, d3] => { results := [.lit (.bool false)], args := [d1, d2, d3] }
  | _ => none }
def GroupMinorWrongFalsely : Prop := groupMinorRow.holds Tryz.pinned (OpenSpec.ofChange groupMinorWrong)

/-- 'vidimuslaw11.GroupLone': WHATEVER THE INPUT: true; the input reads as it did. -/
def groupLoneSpec : ChangeSpec := { name := "groupLone", fn := fun _ => fun
  | [d1, d2] => { results := [.lit (.bool true)], args := [d1, d2] }
  | _ => none }
def groupLoneRow : OpenClaim := { program := "ytflkdgghpmhbgaagreat", sum := "5391cdfba954fbeddca178a88d2ef1028304573125ec914142bbf833a29f4f1a", func := "vidimus/vidimuslaw11.GroupLone", spec := "groupLone", inPlace := ["slices.overlaps[vidimus/api.Entry]", "internal/abi.NoEscape"], unfollowed := true, recurses := true, apart := false }
def GroupLoneSaid : Prop := groupLoneRow.holds Tryz.pinned (OpenSpec.ofChange groupLoneSpec)

/-- ITS FALSE NEIGHBOUR: 'it returns false'. Refute it at one input. -/
def groupLoneWrong : ChangeSpec := { name := "groupLone", fn := fun _ => fun
  | [d1, d2] => { results := [.lit (.bool false)], args := [d1, d2] }
  | _ => none }
def GroupLoneWrongFalsely : Prop := groupLoneRow.holds Tryz.pinned (OpenSpec.ofChange groupLoneWrong)

/- THE SECOND FORM. 'bulk': how many values and letters a reading holds, each counted each time it is reached (what is shared counts as often as it is met; a slice's spare places count too). A statement '..UptoSaid' is the law's where the arguments, and the package variables that the reading takes, are together of bulk at most 1048576: NARROWER than '..Said'. Prove '..Said' where nothing that the law and all that it calls make is longer than what came in: it says more and counts as full. Else prove '..UptoSaid'. A law counts once. -/
mutual
def uptoBulk {H : Type} : DataW H → Nat
  | .lit (.string bytes) => bytes.length + 1
  | .lit _ => 1
  | .nil => 1
  | .ptr d => uptoBulk d + 1
  | .slice elems spare => uptoBulkAll elems + uptoBulkAll spare + 1
  | .agg parts => uptoBulkAll parts + 1
  | .iface _ d => uptoBulk d + 1
  | .map entries => uptoBulkEntries entries + 1
  | .held _ => 1
def uptoBulkAll {H : Type} : List (DataW H) → Nat
  | [] => 0
  | d :: r => uptoBulk d + uptoBulkAll r
def uptoBulkEntries {H : Type} : List (Lit × DataW H) → Nat
  | [] => 0
  | x :: r => uptoBulkEntry x + uptoBulkEntries r
def uptoBulkEntry {H : Type} : Lit × DataW H → Nat
  | (.string bytes, d) => bytes.length + uptoBulk d + 1
  | (_, d) => uptoBulk d + 1
 end
def uptoSmall : (H : Type) → List (DataW H) → Bool := fun _ ds => decide (uptoBulkAll ds ≤ 1048576)
def OpenSpec.upto (s : _root_.Go.ChangeSpec) : _root_.Go.OpenSpec := { _root_.Go.OpenSpec.ofChange s with cond := some uptoSmall }

/-- 'vidimuslaw09.RaftRuns', WHERE WHAT IT READS IS OF BULK AT MOST 1048576: true; the input reads as it did. -/
def raftRunsUptoRow : OpenClaim := { program := "ytflkdgghpmhbgaagreat", sum := "5391cdfba954fbeddca178a88d2ef1028304573125ec914142bbf833a29f4f1a", func := "vidimus/vidimuslaw09.RaftRuns", spec := "raftRuns", inPlace := ["slices.overlaps[vidimus/api.Entry]", "internal/abi.NoEscape"], unfollowed := true, recurses := true, apart := false, narrowed := true }
def RaftRunsUptoSaid : Prop := raftRunsUptoRow.holds Tryz.pinned (OpenSpec.upto raftRunsSpec)

/-- 'vidimuslaw09.RaftVotes', WHERE WHAT IT READS IS OF BULK AT MOST 1048576: true; the input reads as it did. -/
def raftVotesUptoRow : OpenClaim := { program := "ytflkdgghpmhbgaagreat", sum := "5391cdfba954fbeddca178a88d2ef1028304573125ec914142bbf833a29f4f1a", func := "vidimus/vidimuslaw09.RaftVotes", spec := "raftVotes", inPlace := ["slices.overlaps[vidimus/api.Entry]", "internal/abi.NoEscape"], unfollowed := true, recurses := true, apart := false, narrowed := true }
def RaftVotesUptoSaid : Prop := raftVotesUptoRow.holds Tryz.pinned (OpenSpec.upto raftVotesSpec)

/-- 'vidimuslaw09.RaftKeeps', WHERE WHAT IT READS IS OF BULK AT MOST 1048576: true; the input reads as it did. -/
def raftKeepsUptoRow : OpenClaim := { program := "ytflkdgghpmhbgaagreat", sum := "5391cdfba954fbeddca178a88d2ef1028304573125ec914142bbf833a29f4f1a", func := "vidimus/vidimuslaw09.RaftKeeps", spec := "raftKeeps", inPlace := ["slices.overlaps[vidimus/api.Entry]", "internal/abi.NoEscape"], unfollowed := true, recurses := true, apart := false, narrowed := true }
def RaftKeepsUptoSaid : Prop := raftKeepsUptoRow.holds Tryz.pinned (OpenSpec.upto raftKeepsSpec)

/-- 'vidimuslaw11.GroupSafe', WHERE WHAT IT READS IS OF BULK AT MOST 1048576: true; the input reads as it did. -/
def groupSafeUptoRow : OpenClaim := { program := "ytflkdgghpmhbgaagreat", sum := "5391cdfba954fbeddca178a88d2ef1028304573125ec914142bbf833a29f4f1a", func := "vidimus/vidimuslaw11.GroupSafe", spec := "groupSafe", inPlace := ["slices.overlaps[vidimus/api.Entry]", "internal/abi.NoEscape"], unfollowed := true, recurses := true, apart := false, narrowed := true }
def GroupSafeUptoSaid : Prop := groupSafeUptoRow.holds Tryz.pinned (OpenSpec.upto groupSafeSpec)

/-- 'vidimuslaw11.GroupLives', WHERE WHAT IT READS IS OF BULK AT MOST 1048576: true; the input reads as it did. -/
def groupLivesUptoRow : OpenClaim := { program := "ytflkdgghpmhbgaagreat", sum := "5391cdfba954fbeddca178a88d2ef1028304573125ec914142bbf833a29f4f1a", func := "vidimus/vidimuslaw11.GroupLives", spec := "groupLives", inPlace := ["slices.overlaps[vidimus/api.Entry]", "internal/abi.NoEscape"], unfollowed := true, recurses := true, apart := false, narrowed := true }
def GroupLivesUptoSaid : Prop := groupLivesUptoRow.holds Tryz.pinned (OpenSpec.upto groupLivesSpec)

/-- 'vidimuslaw11.GroupCompacts', WHERE WHAT IT READS IS OF BULK AT MOST 1048576: true; the input reads as it did. -/
def groupCompactsUptoRow : OpenClaim := { program := "ytflkdgghpmhbgaagreat", sum := "5391cdfba954fbeddca178a88d2ef1028304573125ec914142bbf833a29f4f1a", func := "vidimus/vidimuslaw11.GroupCompacts", spec := "groupCompacts", inPlace := ["slices.overlaps[vidimus/api.Entry]", "internal/abi.NoEscape"], unfollowed := true, recurses := true, apart := false, narrowed := true }
def GroupCompactsUptoSaid : Prop := groupCompactsUptoRow.holds Tryz.pinned (OpenSpec.upto groupCompactsSpec)

/-- 'vidimuslaw11.GroupOutcomes', WHERE WHAT IT READS IS OF BULK AT MOST 1048576: true; the input reads as it did. -/
def groupOutcomesUptoRow : OpenClaim := { program := "ytflkdgghpmhbgaagreat", sum := "5391cdfba954fbeddca178a88d2ef1028304573125ec914142bbf833a29f4f1a", func := "vidimus/vidimuslaw11.GroupOutcomes", spec := "groupOutcomes", inPlace := ["slices.overlaps[vidimus/api.Entry]", "internal/abi.NoEscape"], unfollowed := true, recurses := true, apart := false, narrowed := true }
def GroupOutcomesUptoSaid : Prop := groupOutcomesUptoRow.holds Tryz.pinned (OpenSpec.upto groupOutcomesSpec)

/-- 'vidimuslaw11.GroupMinor', WHERE WHAT IT READS IS OF BULK AT MOST 1048576: true; the input reads as it did. -/
def groupMinorUptoRow : OpenClaim := { program := "ytflkdgghpmhbgaagreat", sum := "5391cdfba954fbeddca178a88d2ef1028304573125ec914142bbf833a29f4f1a", func := "vidimus/vidimuslaw11.GroupMinor", spec := "groupMinor", inPlace := ["slices.overlaps[vidimus/api.Entry]", "internal/abi.NoEscape"], unfollowed := true, recurses := true, apart := false, narrowed := true }
def GroupMinorUptoSaid : Prop := groupMinorUptoRow.holds Tryz.pinned (OpenSpec.upto groupMinorSpec)

/-- 'vidimuslaw11.GroupLone', WHERE WHAT IT READS IS OF BULK AT MOST 1048576: true; the input reads as it did. -/
def groupLoneUptoRow : OpenClaim := { program := "ytflkdgghpmhbgaagreat", sum := "5391cdfba954fbeddca178a88d2ef1028304573125ec914142bbf833a29f4f1a", func := "vidimus/vidimuslaw11.GroupLone", spec := "groupLone", inPlace := ["slices.overlaps[vidimus/api.Entry]", "internal/abi.NoEscape"], unfollowed := true, recurses := true, apart := false, narrowed := true }
def GroupLoneUptoSaid : Prop := groupLoneUptoRow.holds Tryz.pinned (OpenSpec.upto groupLoneSpec)

end Rows
end Go.Proofs.YtflkdgghpmhbgaaGreat
