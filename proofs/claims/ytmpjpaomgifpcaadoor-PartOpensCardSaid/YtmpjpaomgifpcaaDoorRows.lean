/-
  NARROWER THAN 'FOR EVERY INPUT', by the rows' own cells (each row's printed sentence says how): PartOpens: laid · PartOther: laid · PartNone: laid · PartMore: laid.
  DERIVED. THE GIVEN ROWS OF THIS SEAT. 4 by the template 'for every input the law returns true; each argument reads behind the call as it read before'; 0 by the template 'total and deterministic' (their statements: YtmpjpaomgifpcaaDoorTotals.lean).
  GIVEN WITH THE SEED: the statements are not yours to turn. If you find one false, say at which input.
  Laid BY PROGRAM, IN A SANDBOX (cutbox-rows.mjs): the forced cells as the released guide's own fill.sh prints them over the translation 945bc0e73192a411… (all of the seat's roots in one cut). By AI agents, Wed Nov 11 2026. No macro, syntax, notation, axiom, sorry.
-/
import Derived.Test.YtmpjpaomgifpcaaDoorChecked
import GoSem.Claim
import GoSem.ClaimJoined
import GoSem.ClaimMapViews
import Derived.JoinedTies
import Derived.KernelRfl
namespace Go.Proofs.YtmpjpaomgifpcaaDoor
/- THE CELL 'sum', in the pinned program and in every row, IS THE sha256 OF THE DUMP (.gsa) THAT YtmpjpaomgifpcaaDoorProg.lean LOADS. Nothing in Lean hashes anything: it is a label: what it is worth is what the hold of that sum in a sandbox is worth. -/
noncomputable def Tryd.pinned : Pinned := { name := "ytmpjpaomgifpcaadoor", sum := "945bc0e73192a411548c51e0a4876cf36e167a0ae1f7aee520e32e9add8b13b4", checked := Tryd.checked }
namespace Rows
def none {H : Type} : Left H := { results := [], args := [] }

/- WHAT THE LISTED PACKAGE-LEVEL VARIABLES READ AS WHEN THE CALL BEGINS. Each datum BY PROGRAM (the guide's laid-datum.mjs) off the statement by which the dump's own 'gosem.cut.vars' lays the variable. In a bare row this is a premise. The card (YtmpjpaomgifpcaaDoorCards.lean) ties it to the program's text. -/
def laid_vidimus_sha_start {H : Type} : DataW H := .agg [.lit (.int .u32 1779033703), .lit (.int .u32 3144134277), .lit (.int .u32 1013904242), .lit (.int .u32 2773480762), .lit (.int .u32 1359893119), .lit (.int .u32 2600822924), .lit (.int .u32 528734635), .lit (.int .u32 1541459225)]

/-- 'vidimuslaw06.PartOpens': WHATEVER THE INPUT: true; the input reads as it did. -/
def partOpensSpec : ChangeSpec := { name := "partOpens", fn := fun _ => fun
  | [d1, d2] => { results := [.lit (.bool true)], args := [d1, d2] }
  | _ => none }
def partOpensRow : OpenClaim := { program := "ytmpjpaomgifpcaadoor", sum := "945bc0e73192a411548c51e0a4876cf36e167a0ae1f7aee520e32e9add8b13b4", func := "vidimus/vidimuslaw06.PartOpens", spec := "partOpens", recurses := true, named := ["vidimus/sha.start"], apart := false, laid := [("vidimus/sha.start", laid_vidimus_sha_start)] }
def PartOpensSaid : Prop := partOpensRow.holds Tryd.pinned (OpenSpec.ofChange partOpensSpec)

/-- ITS FALSE NEIGHBOUR: 'it returns false'. Refute it at one input. -/
def partOpensWrong : ChangeSpec := { name := "partOpens", fn := fun _ => fun
  | [d1, d2] => { results := [.lit (.bool false)], args := [d1, d2] }
  | _ => none }
def PartOpensWrongFalsely : Prop := partOpensRow.holds Tryd.pinned (OpenSpec.ofChange partOpensWrong)

/-- 'vidimuslaw06.PartOther': WHATEVER THE INPUT: true; the input reads as it did. -/
def partOtherSpec : ChangeSpec := { name := "partOther", fn := fun _ => fun
  | [d1, d2, d3] => { results := [.lit (.bool true)], args := [d1, d2, d3] }
  | _ => none }
def partOtherRow : OpenClaim := { program := "ytmpjpaomgifpcaadoor", sum := "945bc0e73192a411548c51e0a4876cf36e167a0ae1f7aee520e32e9add8b13b4", func := "vidimus/vidimuslaw06.PartOther", spec := "partOther", recurses := true, named := ["vidimus/sha.start"], apart := false, laid := [("vidimus/sha.start", laid_vidimus_sha_start)] }
def PartOtherSaid : Prop := partOtherRow.holds Tryd.pinned (OpenSpec.ofChange partOtherSpec)

/-- ITS FALSE NEIGHBOUR: 'it returns false'. Refute it at one input. -/
def partOtherWrong : ChangeSpec := { name := "partOther", fn := fun _ => fun
  | [d1, d2, d3] => { results := [.lit (.bool false)], args := [d1, d2, d3] }
  | _ => none }
def PartOtherWrongFalsely : Prop := partOtherRow.holds Tryd.pinned (OpenSpec.ofChange partOtherWrong)

/-- 'vidimuslaw06.PartNone': WHATEVER THE INPUT: true; the input reads as it did. -/
def partNoneSpec : ChangeSpec := { name := "partNone", fn := fun _ => fun
  | [d1, d2] => { results := [.lit (.bool true)], args := [d1, d2] }
  | _ => none }
def partNoneRow : OpenClaim := { program := "ytmpjpaomgifpcaadoor", sum := "945bc0e73192a411548c51e0a4876cf36e167a0ae1f7aee520e32e9add8b13b4", func := "vidimus/vidimuslaw06.PartNone", spec := "partNone", recurses := true, named := ["vidimus/sha.start"], apart := false, laid := [("vidimus/sha.start", laid_vidimus_sha_start)] }
def PartNoneSaid : Prop := partNoneRow.holds Tryd.pinned (OpenSpec.ofChange partNoneSpec)

/-- ITS FALSE NEIGHBOUR: 'it returns false'. Refute it at one input. -/
def partNoneWrong : ChangeSpec := { name := "partNone", fn := fun _ => fun
  | [d1, d2] => { results := [.lit (.bool false)], args := [d1, d2] }
  | _ => none }
def PartNoneWrongFalsely : Prop := partNoneRow.holds Tryd.pinned (OpenSpec.ofChange partNoneWrong)

/-- 'vidimuslaw06.PartMore': WHATEVER THE INPUT: true; the input reads as it did. -/
def partMoreSpec : ChangeSpec := { name := "partMore", fn := fun _ => fun
  | [d1, d2, d3] => { results := [.lit (.bool true)], args := [d1, d2, d3] }
  | _ => none }
def partMoreRow : OpenClaim := { program := "ytmpjpaomgifpcaadoor", sum := "945bc0e73192a411548c51e0a4876cf36e167a0ae1f7aee520e32e9add8b13b4", func := "vidimus/vidimuslaw06.PartMore", spec := "partMore", recurses := true, named := ["vidimus/sha.start"], apart := false, laid := [("vidimus/sha.start", laid_vidimus_sha_start)] }
def PartMoreSaid : Prop := partMoreRow.holds Tryd.pinned (OpenSpec.ofChange partMoreSpec)

/-- ITS FALSE NEIGHBOUR: 'it returns false'. Refute it at one input. -/
def partMoreWrong : ChangeSpec := { name := "partMore", fn := fun _ => fun
  | [d1, d2, d3] => { results := [.lit (.bool false)], args := [d1, d2, d3] }
  | _ => none }
def PartMoreWrongFalsely : Prop := partMoreRow.holds Tryd.pinned (OpenSpec.ofChange partMoreWrong)

/- THE SECOND FORM. 'bulk': how many values and letters a reading holds, each counted each time it is reached (what is shared counts as often as it is met; a slice's spare places count too). A statement '..UptoSaid' is the law's where the arguments, and the package variables that the reading takes, are together of bulk at most 1048576: NARROWER than '..Said'. Prove '..Said' where nothing that the law and all that it calls make is longer than what came in: it says more and counts as full. Else prove '..UptoSaid'. A law counts once. -/
mutual
def uptoBulk {H : Type} : DataW H → Nat
  | .lit (.string bytes) => bytes.length + 1
  | .lit _ => 1
  | .nil => 1
  | .ptr d => uptoBulk d + 1
  | .slice elems spare => uptoBulkAll elems + uptoBulkAll spare + 1
  | .agg parts => uptoBulkAll parts + 1
  | .iface _ d => uptoBulk d + 1
  | .map entries => uptoBulkEntries entries + 1
  | .held _ => 1
def uptoBulkAll {H : Type} : List (DataW H) → Nat
  | [] => 0
  | d :: r => uptoBulk d + uptoBulkAll r
def uptoBulkEntries {H : Type} : List (Lit × DataW H) → Nat
  | [] => 0
  | x :: r => uptoBulkEntry x + uptoBulkEntries r
def uptoBulkEntry {H : Type} : Lit × DataW H → Nat
  | (.string bytes, d) => bytes.length + uptoBulk d + 1
  | (_, d) => uptoBulk d + 1
 end
def uptoSmall : (H : Type) → List (DataW H) → Bool := fun _ ds => decide (uptoBulkAll ds ≤ 1048576)
def OpenSpec.upto (s : _root_.Go.ChangeSpec) : _root_.Go.OpenSpec := { _root_.Go.OpenSpec.ofChange s with cond := some uptoSmall }

/-- 'vidimuslaw06.PartOpens', WHERE WHAT IT READS IS OF BULK AT MOST 1048576: true; the input reads as it did. -/
def partOpensUptoRow : OpenClaim := { program := "ytmpjpaomgifpcaadoor", sum := "945bc0e73192a411548c51e0a4876cf36e167a0ae1f7aee520e32e9add8b13b4", func := "vidimus/vidimuslaw06.PartOpens", spec := "partOpens", recurses := true, named := ["vidimus/sha.start"], apart := false, laid := [("vidimus/sha.start", laid_vidimus_sha_start)], narrowed := true }
def PartOpensUptoSaid : Prop := partOpensUptoRow.holds Tryd.pinned (OpenSpec.upto partOpensSpec)

/-- 'vidimuslaw06.PartOther', WHERE WHAT IT READS IS OF BULK AT MOST 1048576: true; the input reads as it did. -/
def partOtherUptoRow : OpenClaim := { program := "ytmpjpaomgifpcaadoor", sum := "945bc0e73192a411548c51e0a4876cf36e167a0ae1f7aee520e32e9add8b13b4", func := "vidimus/vidimuslaw06.PartOther", spec := "partOther", recurses := true, named := ["vidimus/sha.start"], apart := false, laid := [("vidimus/sha.start", laid_vidimus_sha_start)], narrowed := true }
def PartOtherUptoSaid : Prop := partOtherUptoRow.holds Tryd.pinned (OpenSpec.upto partOtherSpec)

/-- 'vidimuslaw06.PartNone', WHERE WHAT IT READS IS OF BULK AT MOST 1048576: true; the input reads as it did. -/
def partNoneUptoRow : OpenClaim := { program := "ytmpjpaomgifpcaadoor", sum := "945bc0e73192a411548c51e0a4876cf36e167a0ae1f7aee520e32e9add8b13b4", func := "vidimus/vidimuslaw06.PartNone", spec := "partNone", recurses := true, named := ["vidimus/sha.start"], apart := false, laid := [("vidimus/sha.start", laid_vidimus_sha_start)], narrowed := true }
def PartNoneUptoSaid : Prop := partNoneUptoRow.holds Tryd.pinned (OpenSpec.upto partNoneSpec)

/-- 'vidimuslaw06.PartMore', WHERE WHAT IT READS IS OF BULK AT MOST 1048576: true; the input reads as it did. -/
def partMoreUptoRow : OpenClaim := { program := "ytmpjpaomgifpcaadoor", sum := "945bc0e73192a411548c51e0a4876cf36e167a0ae1f7aee520e32e9add8b13b4", func := "vidimus/vidimuslaw06.PartMore", spec := "partMore", recurses := true, named := ["vidimus/sha.start"], apart := false, laid := [("vidimus/sha.start", laid_vidimus_sha_start)], narrowed := true }
def PartMoreUptoSaid : Prop := partMoreUptoRow.holds Tryd.pinned (OpenSpec.upto partMoreSpec)

end Rows
end Go.Proofs.YtmpjpaomgifpcaaDoor
