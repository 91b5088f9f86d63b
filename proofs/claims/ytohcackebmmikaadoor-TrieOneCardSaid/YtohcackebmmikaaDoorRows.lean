/-
  NARROWER THAN 'FOR EVERY INPUT', by the rows' own cells (each row's printed sentence says how): TrieRuns: laid · TrieAsks: laid · TrieOne: laid · TrieKeeps: laid · TrieBack: laid · TrieLeaf: laid · TrieParts: laid.
  DERIVED. THE GIVEN ROWS OF THIS SEAT. 7 by the template 'for every input the law returns true; each argument reads behind the call as it read before'; 0 by the template 'total and deterministic' (their statements: YtohcackebmmikaaDoorTotals.lean).
  GIVEN WITH THE SEED: the statements are not yours to turn. If you find one false, say at which input.
  Laid BY PROGRAM, IN A SANDBOX (cutbox-rows.mjs): the forced cells as the released guide's own fill.sh prints them over the translation 40a7cae5086c863d… (all of the seat's roots in one cut). By AI agents, Wed Nov 11 2026. No macro, syntax, notation, axiom, sorry.
-/
import Derived.Test.YtohcackebmmikaaDoorChecked
import GoSem.Claim
import GoSem.ClaimJoined
import GoSem.ClaimMapViews
import Derived.JoinedTies
import Derived.KernelRfl
namespace Go.Proofs.YtohcackebmmikaaDoor
/- THE CELL 'sum', in the pinned program and in every row, IS THE sha256 OF THE DUMP (.gsa) THAT YtohcackebmmikaaDoorProg.lean LOADS. Nothing in Lean hashes anything: it is a label: what it is worth is what the hold of that sum in a sandbox is worth. -/
noncomputable def Tryd.pinned : Pinned := { name := "ytohcackebmmikaadoor", sum := "40a7cae5086c863d7366768e8158bae1be5a288bbaac8e3c889c2e688559ecc6", checked := Tryd.checked }
namespace Rows
def none {H : Type} : Left H := { results := [], args := [] }

/- WHAT THE LISTED PACKAGE-LEVEL VARIABLES READ AS WHEN THE CALL BEGINS. Each datum BY PROGRAM (the guide's laid-datum.mjs) off the statement by which the dump's own 'gosem.cut.vars' lays the variable. In a bare row this is a premise. The card (YtohcackebmmikaaDoorCards.lean) ties it to the program's text. -/
def laid_vidimus_sha_start {H : Type} : DataW H := .agg [.lit (.int .u32 1779033703), .lit (.int .u32 3144134277), .lit (.int .u32 1013904242), .lit (.int .u32 2773480762), .lit (.int .u32 1359893119), .lit (.int .u32 2600822924), .lit (.int .u32 528734635), .lit (.int .u32 1541459225)]

/-- 'vidimuslaw05.TrieRuns': WHATEVER THE INPUT: true; the input reads as it did. -/
def trieRunsSpec : ChangeSpec := { name := "trieRuns", fn := fun _ => fun
  | [d] => { results := [.lit (.bool true)], args := [d] }
  | _ => none }
def trieRunsRow : OpenClaim := { program := "ytohcackebmmikaadoor", sum := "40a7cae5086c863d7366768e8158bae1be5a288bbaac8e3c889c2e688559ecc6", func := "vidimus/vidimuslaw05.TrieRuns", spec := "trieRuns", recurses := true, named := ["vidimus/sha.start"], apart := false, laid := [("vidimus/sha.start", laid_vidimus_sha_start)] }
def TrieRunsSaid : Prop := trieRunsRow.holds Tryd.pinned (OpenSpec.ofChange trieRunsSpec)

/-- ITS FALSE NEIGHBOUR: 'it returns false'. Refute it at one input. -/
def trieRunsWrong : ChangeSpec := { name := "trieRuns", fn := fun _ => fun
  | [d] => { results := [.lit (.bool false)], args := [d] }
  | _ => none }
def TrieRunsWrongFalsely : Prop := trieRunsRow.holds Tryd.pinned (OpenSpec.ofChange trieRunsWrong)

/-- 'vidimuslaw05.TrieAsks': WHATEVER THE INPUT: true; the input reads as it did. -/
def trieAsksSpec : ChangeSpec := { name := "trieAsks", fn := fun _ => fun
  | [d1, d2, d3] => { results := [.lit (.bool true)], args := [d1, d2, d3] }
  | _ => none }
def trieAsksRow : OpenClaim := { program := "ytohcackebmmikaadoor", sum := "40a7cae5086c863d7366768e8158bae1be5a288bbaac8e3c889c2e688559ecc6", func := "vidimus/vidimuslaw05.TrieAsks", spec := "trieAsks", recurses := true, named := ["vidimus/sha.start"], apart := false, laid := [("vidimus/sha.start", laid_vidimus_sha_start)] }
def TrieAsksSaid : Prop := trieAsksRow.holds Tryd.pinned (OpenSpec.ofChange trieAsksSpec)

/-- ITS FALSE NEIGHBOUR: 'it returns false'. Refute it at one input. -/
def trieAsksWrong : ChangeSpec := { name := "trieAsks", fn := fun _ => fun
  | [d1, d2, d3] => { results := [.lit (.bool false)], args := [d1, d2, d3] }
  | _ => none }
def TrieAsksWrongFalsely : Prop := trieAsksRow.holds Tryd.pinned (OpenSpec.ofChange trieAsksWrong)

/-- 'vidimuslaw05.TrieOne': WHATEVER THE INPUT: true; the input reads as it did. -/
def trieOneSpec : ChangeSpec := { name := "trieOne", fn := fun _ => fun
  | [d1, d2] => { results := [.lit (.bool true)], args := [d1, d2] }
  | _ => none }
def trieOneRow : OpenClaim := { program := "ytohcackebmmikaadoor", sum := "40a7cae5086c863d7366768e8158bae1be5a288bbaac8e3c889c2e688559ecc6", func := "vidimus/vidimuslaw05.TrieOne", spec := "trieOne", recurses := true, named := ["vidimus/sha.start"], apart := false, laid := [("vidimus/sha.start", laid_vidimus_sha_start)] }
def TrieOneSaid : Prop := trieOneRow.holds Tryd.pinned (OpenSpec.ofChange trieOneSpec)

/-- ITS FALSE NEIGHBOUR: 'it returns false'. Refute it at one input. -/
def trieOneWrong : ChangeSpec := { name := "trieOne", fn := fun _ => fun
  | [d1, d2] => { results := [.lit (.bool false)], args := [d1, d2] }
  | _ => none }
def TrieOneWrongFalsely : Prop := trieOneRow.holds Tryd.pinned (OpenSpec.ofChange trieOneWrong)

/-- 'vidimuslaw05.TrieKeeps': WHATEVER THE INPUT: true; the input reads as it did. -/
def trieKeepsSpec : ChangeSpec := { name := "trieKeeps", fn := fun _ => fun
  | [d1, d2] => { results := [.lit (.bool true)], args := [d1, d2] }
  | _ => none }
def trieKeepsRow : OpenClaim := { program := "ytohcackebmmikaadoor", sum := "40a7cae5086c863d7366768e8158bae1be5a288bbaac8e3c889c2e688559ecc6", func := "vidimus/vidimuslaw05.TrieKeeps", spec := "trieKeeps", recurses := true, named := ["vidimus/sha.start"], apart := false, laid := [("vidimus/sha.start", laid_vidimus_sha_start)] }
def TrieKeepsSaid : Prop := trieKeepsRow.holds Tryd.pinned (OpenSpec.ofChange trieKeepsSpec)

/-- ITS FALSE NEIGHBOUR: 'it returns false'. Refute it at one input. -/
def trieKeepsWrong : ChangeSpec := { name := "trieKeeps", fn := fun _ => fun
  | [d1, d2] => { results := [.lit (.bool false)], args := [d1, d2] }
  | _ => none }
def TrieKeepsWrongFalsely : Prop := trieKeepsRow.holds Tryd.pinned (OpenSpec.ofChange trieKeepsWrong)

/-- 'vidimuslaw05.TrieBack': WHATEVER THE INPUT: true; the input reads as it did. -/
def trieBackSpec : ChangeSpec := { name := "trieBack", fn := fun _ => fun
  | [d1, d2, d3] => { results := [.lit (.bool true)], args := [d1, d2, d3] }
  | _ => none }
def trieBackRow : OpenClaim := { program := "ytohcackebmmikaadoor", sum := "40a7cae5086c863d7366768e8158bae1be5a288bbaac8e3c889c2e688559ecc6", func := "vidimus/vidimuslaw05.TrieBack", spec := "trieBack", recurses := true, named := ["vidimus/sha.start"], apart := false, laid := [("vidimus/sha.start", laid_vidimus_sha_start)] }
def TrieBackSaid : Prop := trieBackRow.holds Tryd.pinned (OpenSpec.ofChange trieBackSpec)

/-- ITS FALSE NEIGHBOUR: 'it returns false'. Refute it at one input. -/
def trieBackWrong : ChangeSpec := { name := "trieBack", fn := fun _ => fun
  | [d1, d2, d3] => { results := [.lit (.bool false)], args := [d1, d2, d3] }
  | _ => none }
def TrieBackWrongFalsely : Prop := trieBackRow.holds Tryd.pinned (OpenSpec.ofChange trieBackWrong)

/-- 'vidimuslaw05.TrieLeaf': WHATEVER THE INPUT: true; the input reads as it did. -/
def trieLeafSpec : ChangeSpec := { name := "trieLeaf", fn := fun _ => fun
  | [d1, d2, d3] => { results := [.lit (.bool true)], args := [d1, d2, d3] }
  | _ => none }
def trieLeafRow : OpenClaim := { program := "ytohcackebmmikaadoor", sum := "40a7cae5086c863d7366768e8158bae1be5a288bbaac8e3c889c2e688559ecc6", func := "vidimus/vidimuslaw05.TrieLeaf", spec := "trieLeaf", recurses := true, named := ["vidimus/sha.start"], apart := false, laid := [("vidimus/sha.start", laid_vidimus_sha_start)] }
def TrieLeafSaid : Prop := trieLeafRow.holds Tryd.pinned (OpenSpec.ofChange trieLeafSpec)

/-- ITS FALSE NEIGHBOUR: 'it returns false'. Refute it at one input. -/
def trieLeafWrong : ChangeSpec := { name := "trieLeaf", fn := fun _ => fun
  | [d1, d2, d3] => { results := [.lit (.bool false)], args := [d1, d2, d3] }
  | _ => none }
def TrieLeafWrongFalsely : Prop := trieLeafRow.holds Tryd.pinned (OpenSpec.ofChange trieLeafWrong)

/-- 'vidimuslaw05.TrieParts': WHATEVER THE INPUT: true; the input reads as it did. -/
def triePartsSpec : ChangeSpec := { name := "trieParts", fn := fun _ => fun
  | [d1, d2, d3] => { results := [.lit (.bool true)], args := [d1, d2, d3] }
  | _ => none }
def triePartsRow : OpenClaim := { program := "ytohcackebmmikaadoor", sum := "40a7cae5086c863d7366768e8158bae1be5a288bbaac8e3c889c2e688559ecc6", func := "vidimus/vidimuslaw05.TrieParts", spec := "trieParts", recurses := true, named := ["vidimus/sha.start"], apart := false, laid := [("vidimus/sha.start", laid_vidimus_sha_start)] }
def TriePartsSaid : Prop := triePartsRow.holds Tryd.pinned (OpenSpec.ofChange triePartsSpec)

/-- ITS FALSE NEIGHBOUR: 'it returns false'. Refute it at one input. -/
def triePartsWrong : ChangeSpec := { name := "trieParts", fn := fun _ => fun
  | [d1, d2, d3] => { results := [.lit (.bool false)], args := [d1, d2, d3] }
  | _ => none }
def TriePartsWrongFalsely : Prop := triePartsRow.holds Tryd.pinned (OpenSpec.ofChange triePartsWrong)

/- THE SECOND FORM. 'bulk': how many values and letters a reading holds, each counted each time it is reached (what is shared counts as often as it is met; a slice's spare places count too). A statement '..UptoSaid' is the law's where the arguments, and the package variables that the reading takes, are together of bulk at most 1048576: NARROWER than '..Said'. Prove '..Said' where nothing that the law and all that it calls make is longer than what came in: it says more and counts as full. Else prove '..UptoSaid'. A law counts once. -/
mutual
def uptoBulk {H : Type} : DataW H → Nat
  | .lit (.string bytes) => bytes.length + 1
  | .lit _ => 1
  | .nil => 1
  | .ptr d => uptoBulk d + 1
  | .slice elems spare => uptoBulkAll elems + uptoBulkAll spare + 1
  | .agg parts => uptoBulkAll parts + 1
  | .iface _ d => uptoBulk d + 1
  | .map entries => uptoBulkEntries entries + 1
  | .held _ => 1
def uptoBulkAll {H : Type} : List (DataW H) → Nat
  | [] => 0
  | d :: r => uptoBulk d + uptoBulkAll r
def uptoBulkEntries {H : Type} : List (Lit × DataW H) → Nat
  | [] => 0
  | x :: r => uptoBulkEntry x + uptoBulkEntries r
def uptoBulkEntry {H : Type} : Lit × DataW H → Nat
  | (.string bytes, d) => bytes.length + uptoBulk d + 1
  | (_, d) => uptoBulk d + 1
 end
def uptoSmall : (H : Type) → List (DataW H) → Bool := fun _ ds => decide (uptoBulkAll ds ≤ 1048576)
def OpenSpec.upto (s : _root_.Go.ChangeSpec) : _root_.Go.OpenSpec := { _root_.Go.OpenSpec.ofChange s with cond := some uptoSmall }

/-- 'vidimuslaw05.TrieRuns', WHERE WHAT IT READS IS OF BULK AT MOST 1048576: true; the input reads as it did. -/
def trieRunsUptoRow : OpenClaim := { program := "ytohcackebmmikaadoor", sum := "40a7cae5086c863d7366768e8158bae1be5a288bbaac8e3c889c2e688559ecc6", func := "vidimus/vidimuslaw05.TrieRuns", spec := "trieRuns", recurses := true, named := ["vidimus/sha.start"], apart := false, laid := [("vidimus/sha.start", laid_vidimus_sha_start)], narrowed := true }
def TrieRunsUptoSaid : Prop := trieRunsUptoRow.holds Tryd.pinned (OpenSpec.upto trieRunsSpec)

/-- 'vidimuslaw05.TrieAsks', WHERE WHAT IT READS IS OF BULK AT MOST 1048576: true; the input reads as it did. -/
def trieAsksUptoRow : OpenClaim := { program := "ytohcackebmmikaadoor", sum := "40a7cae5086c863d7366768e8158bae1be5a288bbaac8e3c889c2e688559ecc6", func := "vidimus/vidimuslaw05.TrieAsks", spec := "trieAsks", recurses := true, named := ["vidimus/sha.start"], apart := false, laid := [("vidimus/sha.start", laid_vidimus_sha_start)], narrowed := true }
def TrieAsksUptoSaid : Prop := trieAsksUptoRow.holds Tryd.pinned (OpenSpec.upto trieAsksSpec)

/-- 'vidimuslaw05.TrieOne', WHERE WHAT IT READS IS OF BULK AT MOST 1048576: true; the input reads as it did. -/
def trieOneUptoRow : OpenClaim := { program := "ytohcackebmmikaadoor", sum := "40a7cae5086c863d7366768e8158bae1be5a288bbaac8e3c889c2e688559ecc6", func := "vidimus/vidimuslaw05.TrieOne", spec := "trieOne", recurses := true, named := ["vidimus/sha.start"], apart := false, laid := [("vidimus/sha.start", laid_vidimus_sha_start)], narrowed := true }
def TrieOneUptoSaid : Prop := trieOneUptoRow.holds Tryd.pinned (OpenSpec.upto trieOneSpec)

/-- 'vidimuslaw05.TrieKeeps', WHERE WHAT IT READS IS OF BULK AT MOST 1048576: true; the input reads as it did. -/
def trieKeepsUptoRow : OpenClaim := { program := "ytohcackebmmikaadoor", sum := "40a7cae5086c863d7366768e8158bae1be5a288bbaac8e3c889c2e688559ecc6", func := "vidimus/vidimuslaw05.TrieKeeps", spec := "trieKeeps", recurses := true, named := ["vidimus/sha.start"], apart := false, laid := [("vidimus/sha.start", laid_vidimus_sha_start)], narrowed := true }
def TrieKeepsUptoSaid : Prop := trieKeepsUptoRow.holds Tryd.pinned (OpenSpec.upto trieKeepsSpec)

/-- 'vidimuslaw05.TrieBack', WHERE WHAT IT READS IS OF BULK AT MOST 1048576: true; the input reads as it did. -/
def trieBackUptoRow : OpenClaim := { program := "ytohcackebmmikaadoor", sum := "40a7cae5086c863d7366768e8158bae1be5a288bbaac8e3c889c2e688559ecc6", func := "vidimus/vidimuslaw05.TrieBack", spec := "trieBack", recurses := true, named := ["vidimus/sha.start"], apart := false, laid := [("vidimus/sha.start", laid_vidimus_sha_start)], narrowed := true }
def TrieBackUptoSaid : Prop := trieBackUptoRow.holds Tryd.pinned (OpenSpec.upto trieBackSpec)

/-- 'vidimuslaw05.TrieLeaf', WHERE WHAT IT READS IS OF BULK AT MOST 1048576: true; the input reads as it did. -/
def trieLeafUptoRow : OpenClaim := { program := "ytohcackebmmikaadoor", sum := "40a7cae5086c863d7366768e8158bae1be5a288bbaac8e3c889c2e688559ecc6", func := "vidimus/vidimuslaw05.TrieLeaf", spec := "trieLeaf", recurses := true, named := ["vidimus/sha.start"], apart := false, laid := [("vidimus/sha.start", laid_vidimus_sha_start)], narrowed := true }
def TrieLeafUptoSaid : Prop := trieLeafUptoRow.holds Tryd.pinned (OpenSpec.upto trieLeafSpec)

/-- 'vidimuslaw05.TrieParts', WHERE WHAT IT READS IS OF BULK AT MOST 1048576: true; the input reads as it did. -/
def triePartsUptoRow : OpenClaim := { program := "ytohcackebmmikaadoor", sum := "40a7cae5086c863d7366768e8158bae1be5a288bbaac8e3c889c2e688559ecc6", func := "vidimus/vidimuslaw05.TrieParts", spec := "trieParts", recurses := true, named := ["vidimus/sha.start"], apart := false, laid := [("vidimus/sha.start", laid_vidimus_sha_start)], narrowed := true }
def TriePartsUptoSaid : Prop := triePartsUptoRow.holds Tryd.pinned (OpenSpec.upto triePartsSpec)

end Rows
end Go.Proofs.YtohcackebmmikaaDoor
