/-
  NARROWER THAN 'FOR EVERY INPUT', by the rows' own cells (each row's printed sentence says how): PartShows: laid · PartSound: laid.
  DERIVED. THE GIVEN ROWS OF THIS SEAT. 2 by the template 'for every input the law returns true; each argument reads behind the call as it read before'; 0 by the template 'total and deterministic' (their statements: YtmpjpaomgifpcaaGreatDoorTotals.lean).
  GIVEN WITH THE SEED: the statements are not yours to turn. If you find one false, say at which input.
  Laid BY PROGRAM, IN A SANDBOX (cutbox-rows.mjs): the forced cells as the released guide's own fill.sh prints them over the translation 01f88ccbe078f6ac… (all of the seat's roots in one cut). By AI agents, Wed Nov 11 2026. No macro, syntax, notation, axiom, sorry.
-/
import Derived.Test.YtmpjpaomgifpcaaGreatDoorChecked
import GoSem.Claim
import GoSem.ClaimJoined
import GoSem.ClaimMapViews
import Derived.JoinedTies
import Derived.KernelRfl
namespace Go.Proofs.YtmpjpaomgifpcaaGreatDoor
/- THE CELL 'sum', in the pinned program and in every row, IS THE sha256 OF THE DUMP (.gsa) THAT YtmpjpaomgifpcaaGreatDoorProg.lean LOADS. Nothing in Lean hashes anything: it is a label: what it is worth is what the hold of that sum in a sandbox is worth. -/
noncomputable def Tryz.pinned : Pinned := { name := "ytmpjpaomgifpcaagreatdoor", sum := "01f88ccbe078f6ac22c9a7e2a547b21538c47865bac2aa2204341715554ca943", checked := Tryz.checked }
namespace Rows
def none {H : Type} : Left H := { results := [], args := [] }

/- WHAT THE LISTED PACKAGE-LEVEL VARIABLES READ AS WHEN THE CALL BEGINS. Each datum BY PROGRAM (the guide's laid-datum.mjs) off the statement by which the dump's own 'gosem.cut.vars' lays the variable. In a bare row this is a premise. The card (YtmpjpaomgifpcaaGreatDoorCards.lean) ties it to the program's text. -/
def laid_vidimus_sha_start {H : Type} : DataW H := .agg [.lit (.int .u32 1779033703), .lit (.int .u32 3144134277), .lit (.int .u32 1013904242), .lit (.int .u32 2773480762), .lit (.int .u32 1359893119), .lit (.int .u32 2600822924), .lit (.int .u32 528734635), .lit (.int .u32 1541459225)]

/-- 'vidimuslaw06.PartShows': WHATEVER THE INPUT: true; the input reads as it did. -/
def partShowsSpec : ChangeSpec := { name := "partShows", fn := fun _ => fun
  | [d1, d2] => { results := [.lit (.bool true)], args := [d1, d2] }
  | _ => none }
def partShowsRow : OpenClaim := { program := "ytmpjpaomgifpcaagreatdoor", sum := "01f88ccbe078f6ac22c9a7e2a547b21538c47865bac2aa2204341715554ca943", func := "vidimus/vidimuslaw06.PartShows", spec := "partShows", recurses := true, named := ["vidimus/sha.start"], apart := false, laid := [("vidimus/sha.start", laid_vidimus_sha_start)] }
def PartShowsSaid : Prop := partShowsRow.holds Tryz.pinned (OpenSpec.ofChange partShowsSpec)

/-- ITS FALSE NEIGHBOUR: 'it returns false'. Refute it at one input. -/
def partShowsWrong : ChangeSpec := { name := "partShows", fn := fun _ => fun
  | [d1, d2] => { results := [.lit (.bool false)], args := [d1, d2] }
  | _ => none }
def PartShowsWrongFalsely : Prop := partShowsRow.holds Tryz.pinned (OpenSpec.ofChange partShowsWrong)

/-- 'vidimuslaw06.PartSound': WHATEVER THE INPUT: true; the input reads as it did. -/
def partSoundSpec : ChangeSpec := { name := "partSound", fn := fun _ => fun
  | [d1, d2, d3] => { results := [.lit (.bool true)], args := [d1, d2, d3] }
  | _ => none }
def partSoundRow : OpenClaim := { program := "ytmpjpaomgifpcaagreatdoor", sum := "01f88ccbe078f6ac22c9a7e2a547b21538c47865bac2aa2204341715554ca943", func := "vidimus/vidimuslaw06.PartSound", spec := "partSound", recurses := true, named := ["vidimus/sha.start"], apart := false, laid := [("vidimus/sha.start", laid_vidimus_sha_start)] }
def PartSoundSaid : Prop := partSoundRow.holds Tryz.pinned (OpenSpec.ofChange partSoundSpec)

/-- ITS FALSE NEIGHBOUR: 'it returns false'. Refute it at one input. -/
def partSoundWrong : ChangeSpec := { name := "partSound", fn := fun _ => fun
  | [d1, d2, d3] => { results := [.lit (.bool false)], args := [d1, d2, d3] }
  | _ => none }
def PartSoundWrongFalsely : Prop := partSoundRow.holds Tryz.pinned (OpenSpec.ofChange partSoundWrong)

/- THE SECOND FORM. 'bulk': how many values and letters a reading holds, each counted each time it is reached (what is shared counts as often as it is met; a slice's spare places count too). A statement '..UptoSaid' is the law's where the arguments, and the package variables that the reading takes, are together of bulk at most 1048576: NARROWER than '..Said'. Prove '..Said' where nothing that the law and all that it calls make is longer than what came in: it says more and counts as full. Else prove '..UptoSaid'. A law counts once. -/
mutual
def uptoBulk {H : Type} : DataW H → Nat
  | .lit (.string bytes) => bytes.length + 1
  | .lit _ => 1
  | .nil => 1
  | .ptr d => uptoBulk d + 1
  | .slice elems spare => uptoBulkAll elems + uptoBulkAll spare + 1
  | .agg parts => uptoBulkAll parts + 1
  | .iface _ d => uptoBulk d + 1
  | .map entries => uptoBulkEntries entries + 1
  | .held _ => 1
def uptoBulkAll {H : Type} : List (DataW H) → Nat
  | [] => 0
  | d :: r => uptoBulk d + uptoBulkAll r
def uptoBulkEntries {H : Type} : List (Lit × DataW H) → Nat
  | [] => 0
  | x :: r => uptoBulkEntry x + uptoBulkEntries r
def uptoBulkEntry {H : Type} : Lit × DataW H → Nat
  | (.string bytes, d) => bytes.length + uptoBulk d + 1
  | (_, d) => uptoBulk d + 1
 end
def uptoSmall : (H : Type) → List (DataW H) → Bool := fun _ ds => decide (uptoBulkAll ds ≤ 1048576)
def OpenSpec.upto (s : _root_.Go.ChangeSpec) : _root_.Go.OpenSpec := { _root_.Go.OpenSpec.ofChange s with cond := some uptoSmall }

/-- 'vidimuslaw06.PartShows', WHERE WHAT IT READS IS OF BULK AT MOST 1048576: true; the input reads as it did. -/
def partShowsUptoRow : OpenClaim := { program := "ytmpjpaomgifpcaagreatdoor", sum := "01f88ccbe078f6ac22c9a7e2a547b21538c47865bac2aa2204341715554ca943", func := "vidimus/vidimuslaw06.PartShows", spec := "partShows", recurses := true, named := ["vidimus/sha.start"], apart := false, laid := [("vidimus/sha.start", laid_vidimus_sha_start)], narrowed := true }
def PartShowsUptoSaid : Prop := partShowsUptoRow.holds Tryz.pinned (OpenSpec.upto partShowsSpec)

/-- 'vidimuslaw06.PartSound', WHERE WHAT IT READS IS OF BULK AT MOST 1048576: true; the input reads as it did. -/
def partSoundUptoRow : OpenClaim := { program := "ytmpjpaomgifpcaagreatdoor", sum := "01f88ccbe078f6ac22c9a7e2a547b21538c47865bac2aa2204341715554ca943", func := "vidimus/vidimuslaw06.PartSound", spec := "partSound", recurses := true, named := ["vidimus/sha.start"], apart := false, laid := [("vidimus/sha.start", laid_vidimus_sha_start)], narrowed := true }
def PartSoundUptoSaid : Prop := partSoundUptoRow.holds Tryz.pinned (OpenSpec.upto partSoundSpec)

end Rows
end Go.Proofs.YtmpjpaomgifpcaaGreatDoor
