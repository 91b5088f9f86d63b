/-
  NARROWER THAN 'FOR EVERY INPUT', by the rows' own cells (each row's printed sentence says how): ShaSums: laid · ShaRoots: laid · ShaSeals: laid · ShaDigits: laid · ShaKeys: laid · ShaTwice: laid · ShaUnlike: laid.
  DERIVED. THE GIVEN ROWS OF THIS SEAT. 7 by the template 'for every input the law returns true; each argument reads behind the call as it read before'; 0 by the template 'total and deterministic' (their statements: YtohjnhekkifhbaaDoorTotals.lean).
  GIVEN WITH THE SEED: the statements are not yours to turn. If you find one false, say at which input.
  Laid BY PROGRAM, IN A SANDBOX (cutbox-rows.mjs): the forced cells as the released guide's own fill.sh prints them over the translation 0d6edd05a0c6b842… (all of the seat's roots in one cut). By AI agents, Wed Nov 11 2026. No macro, syntax, notation, axiom, sorry.
-/
import Derived.Test.YtohjnhekkifhbaaDoorChecked
import GoSem.Claim
import GoSem.ClaimJoined
import GoSem.ClaimMapViews
import Derived.JoinedTies
import Derived.KernelRfl
namespace Go.Proofs.YtohjnhekkifhbaaDoor
/- THE CELL 'sum', in the pinned program and in every row, IS THE sha256 OF THE DUMP (.gsa) THAT YtohjnhekkifhbaaDoorProg.lean LOADS. Nothing in Lean hashes anything: it is a label: what it is worth is what the hold of that sum in a sandbox is worth. -/
noncomputable def Tryd.pinned : Pinned := { name := "ytohjnhekkifhbaadoor", sum := "0d6edd05a0c6b84290e94dc2b908854e0cca3d9176754178bab825aa14441b73", checked := Tryd.checked }
namespace Rows
def none {H : Type} : Left H := { results := [], args := [] }

/- WHAT THE LISTED PACKAGE-LEVEL VARIABLES READ AS WHEN THE CALL BEGINS. Each datum BY PROGRAM (the guide's laid-datum.mjs) off the statement by which the dump's own 'gosem.cut.vars' lays the variable. In a bare row this is a premise. The card (YtohjnhekkifhbaaDoorCards.lean) ties it to the program's text. -/
def laid_vidimus_sha_start {H : Type} : DataW H := .agg [.lit (.int .u32 1779033703), .lit (.int .u32 3144134277), .lit (.int .u32 1013904242), .lit (.int .u32 2773480762), .lit (.int .u32 1359893119), .lit (.int .u32 2600822924), .lit (.int .u32 528734635), .lit (.int .u32 1541459225)]

/-- 'vidimuslaw01.ShaSums': WHATEVER THE INPUT: true; the input reads as it did. -/
def shaSumsSpec : ChangeSpec := { name := "shaSums", fn := fun _ => fun
  | [d] => { results := [.lit (.bool true)], args := [d] }
  | _ => none }
def shaSumsRow : OpenClaim := { program := "ytohjnhekkifhbaadoor", sum := "0d6edd05a0c6b84290e94dc2b908854e0cca3d9176754178bab825aa14441b73", func := "vidimus/vidimuslaw01.ShaSums", spec := "shaSums", named := ["vidimus/sha.start"], apart := false, laid := [("vidimus/sha.start", laid_vidimus_sha_start)] }
def ShaSumsSaid : Prop := shaSumsRow.holds Tryd.pinned (OpenSpec.ofChange shaSumsSpec)

/-- ITS FALSE NEIGHBOUR: 'it returns false'. Refute it at one input. -/
def shaSumsWrong : ChangeSpec := { name := "shaSums", fn := fun _ => fun
  | [d] => { results := [.lit (.bool false)], args := [d] }
  | _ => none }
def ShaSumsWrongFalsely : Prop := shaSumsRow.holds Tryd.pinned (OpenSpec.ofChange shaSumsWrong)

/-- 'vidimuslaw01.ShaRoots': WHATEVER THE INPUT: true; the input reads as it did. -/
def shaRootsSpec : ChangeSpec := { name := "shaRoots", fn := fun _ => fun
  | [d] => { results := [.lit (.bool true)], args := [d] }
  | _ => none }
def shaRootsRow : OpenClaim := { program := "ytohjnhekkifhbaadoor", sum := "0d6edd05a0c6b84290e94dc2b908854e0cca3d9176754178bab825aa14441b73", func := "vidimus/vidimuslaw01.ShaRoots", spec := "shaRoots", named := ["vidimus/sha.start"], apart := false, laid := [("vidimus/sha.start", laid_vidimus_sha_start)] }
def ShaRootsSaid : Prop := shaRootsRow.holds Tryd.pinned (OpenSpec.ofChange shaRootsSpec)

/-- ITS FALSE NEIGHBOUR: 'it returns false'. Refute it at one input. -/
def shaRootsWrong : ChangeSpec := { name := "shaRoots", fn := fun _ => fun
  | [d] => { results := [.lit (.bool false)], args := [d] }
  | _ => none }
def ShaRootsWrongFalsely : Prop := shaRootsRow.holds Tryd.pinned (OpenSpec.ofChange shaRootsWrong)

/-- 'vidimuslaw01.ShaSeals': WHATEVER THE INPUT: true; the input reads as it did. -/
def shaSealsSpec : ChangeSpec := { name := "shaSeals", fn := fun _ => fun
  | [d1, d2] => { results := [.lit (.bool true)], args := [d1, d2] }
  | _ => none }
def shaSealsRow : OpenClaim := { program := "ytohjnhekkifhbaadoor", sum := "0d6edd05a0c6b84290e94dc2b908854e0cca3d9176754178bab825aa14441b73", func := "vidimus/vidimuslaw01.ShaSeals", spec := "shaSeals", named := ["vidimus/sha.start"], apart := false, laid := [("vidimus/sha.start", laid_vidimus_sha_start)] }
def ShaSealsSaid : Prop := shaSealsRow.holds Tryd.pinned (OpenSpec.ofChange shaSealsSpec)

/-- ITS FALSE NEIGHBOUR: 'it returns false'. Refute it at one input. -/
def shaSealsWrong : ChangeSpec := { name := "shaSeals", fn := fun _ => fun
  | [d1, d2] => { results := [.lit (.bool false)], args := [d1, d2] }
  | _ => none }
def ShaSealsWrongFalsely : Prop := shaSealsRow.holds Tryd.pinned (OpenSpec.ofChange shaSealsWrong)

/-- 'vidimuslaw01.ShaDigits': WHATEVER THE INPUT: true; the input reads as it did. -/
def shaDigitsSpec : ChangeSpec := { name := "shaDigits", fn := fun _ => fun
  | [d] => { results := [.lit (.bool true)], args := [d] }
  | _ => none }
def shaDigitsRow : OpenClaim := { program := "ytohjnhekkifhbaadoor", sum := "0d6edd05a0c6b84290e94dc2b908854e0cca3d9176754178bab825aa14441b73", func := "vidimus/vidimuslaw01.ShaDigits", spec := "shaDigits", named := ["vidimus/sha.start"], apart := false, laid := [("vidimus/sha.start", laid_vidimus_sha_start)] }
def ShaDigitsSaid : Prop := shaDigitsRow.holds Tryd.pinned (OpenSpec.ofChange shaDigitsSpec)

/-- ITS FALSE NEIGHBOUR: 'it returns false'. Refute it at one input. -/
def shaDigitsWrong : ChangeSpec := { name := "shaDigits", fn := fun _ => fun
  | [d] => { results := [.lit (.bool false)], args := [d] }
  | _ => none }
def ShaDigitsWrongFalsely : Prop := shaDigitsRow.holds Tryd.pinned (OpenSpec.ofChange shaDigitsWrong)

/-- 'vidimuslaw01.ShaKeys': WHATEVER THE INPUT: true; the input reads as it did. -/
def shaKeysSpec : ChangeSpec := { name := "shaKeys", fn := fun _ => fun
  | [d1, d2] => { results := [.lit (.bool true)], args := [d1, d2] }
  | _ => none }
def shaKeysRow : OpenClaim := { program := "ytohjnhekkifhbaadoor", sum := "0d6edd05a0c6b84290e94dc2b908854e0cca3d9176754178bab825aa14441b73", func := "vidimus/vidimuslaw01.ShaKeys", spec := "shaKeys", named := ["vidimus/sha.start"], apart := false, laid := [("vidimus/sha.start", laid_vidimus_sha_start)] }
def ShaKeysSaid : Prop := shaKeysRow.holds Tryd.pinned (OpenSpec.ofChange shaKeysSpec)

/-- ITS FALSE NEIGHBOUR: 'it returns false'. Refute it at one input. -/
def shaKeysWrong : ChangeSpec := { name := "shaKeys", fn := fun _ => fun
  | [d1, d2] => { results := [.lit (.bool false)], args := [d1, d2] }
  | _ => none }
def ShaKeysWrongFalsely : Prop := shaKeysRow.holds Tryd.pinned (OpenSpec.ofChange shaKeysWrong)

/-- 'vidimuslaw01.ShaTwice': WHATEVER THE INPUT: true; the input reads as it did. -/
def shaTwiceSpec : ChangeSpec := { name := "shaTwice", fn := fun _ => fun
  | [d1, d2] => { results := [.lit (.bool true)], args := [d1, d2] }
  | _ => none }
def shaTwiceRow : OpenClaim := { program := "ytohjnhekkifhbaadoor", sum := "0d6edd05a0c6b84290e94dc2b908854e0cca3d9176754178bab825aa14441b73", func := "vidimus/vidimuslaw01.ShaTwice", spec := "shaTwice", named := ["vidimus/sha.start"], apart := false, laid := [("vidimus/sha.start", laid_vidimus_sha_start)] }
def ShaTwiceSaid : Prop := shaTwiceRow.holds Tryd.pinned (OpenSpec.ofChange shaTwiceSpec)

/-- ITS FALSE NEIGHBOUR: 'it returns false'. Refute it at one input. -/
def shaTwiceWrong : ChangeSpec := { name := "shaTwice", fn := fun _ => fun
  | [d1, d2] => { results := [.lit (.bool false)], args := [d1, d2] }
  | _ => none }
def ShaTwiceWrongFalsely : Prop := shaTwiceRow.holds Tryd.pinned (OpenSpec.ofChange shaTwiceWrong)

/-- 'vidimuslaw01.ShaUnlike': WHATEVER THE INPUT: true; the input reads as it did. -/
def shaUnlikeSpec : ChangeSpec := { name := "shaUnlike", fn := fun _ => fun
  | [d1, d2, d3] => { results := [.lit (.bool true)], args := [d1, d2, d3] }
  | _ => none }
def shaUnlikeRow : OpenClaim := { program := "ytohjnhekkifhbaadoor", sum := "0d6edd05a0c6b84290e94dc2b908854e0cca3d9176754178bab825aa14441b73", func := "vidimus/vidimuslaw01.ShaUnlike", spec := "shaUnlike", named := ["vidimus/sha.start"], apart := false, laid := [("vidimus/sha.start", laid_vidimus_sha_start)] }
def ShaUnlikeSaid : Prop := shaUnlikeRow.holds Tryd.pinned (OpenSpec.ofChange shaUnlikeSpec)

/-- ITS FALSE NEIGHBOUR: 'it returns false'. Refute it at one input. -/
def shaUnlikeWrong : ChangeSpec := { name := "shaUnlike", fn := fun _ => fun
  | [d1, d2, d3] => { results := [.lit (.bool false)], args := [d1, d2, d3] }
  | _ => none }
def ShaUnlikeWrongFalsely : Prop := shaUnlikeRow.holds Tryd.pinned (OpenSpec.ofChange shaUnlikeWrong)

/- THE SECOND FORM. 'bulk': how many values and letters a reading holds, each counted each time it is reached (what is shared counts as often as it is met; a slice's spare places count too). A statement '..UptoSaid' is the law's where the arguments, and the package variables that the reading takes, are together of bulk at most 1048576: NARROWER than '..Said'. Prove '..Said' where nothing that the law and all that it calls make is longer than what came in: it says more and counts as full. Else prove '..UptoSaid'. A law counts once. -/
mutual
def uptoBulk {H : Type} : DataW H → Nat
  | .lit (.string bytes) => bytes.length + 1
  | .lit _ => 1
  | .nil => 1
  | .ptr d => uptoBulk d + 1
  | .slice elems spare => uptoBulkAll elems + uptoBulkAll spare + 1
  | .agg parts => uptoBulkAll parts + 1
  | .iface _ d => uptoBulk d + 1
  | .map entries => uptoBulkEntries entries + 1
  | .held _ => 1
def uptoBulkAll {H : Type} : List (DataW H) → Nat
  | [] => 0
  | d :: r => uptoBulk d + uptoBulkAll r
def uptoBulkEntries {H : Type} : List (Lit × DataW H) → Nat
  | [] => 0
  | x :: r => uptoBulkEntry x + uptoBulkEntries r
def uptoBulkEntry {H : Type} : Lit × DataW H → Nat
  | (.string bytes, d) => bytes.length + uptoBulk d + 1
  | (_, d) => uptoBulk d + 1
 end
def uptoSmall : (H : Type) → List (DataW H) → Bool := fun _ ds => decide (uptoBulkAll ds ≤ 1048576)
def OpenSpec.upto (s : _root_.Go.ChangeSpec) : _root_.Go.OpenSpec := { _root_.Go.OpenSpec.ofChange s with cond := some uptoSmall }

/-- 'vidimuslaw01.ShaSums', WHERE WHAT IT READS IS OF BULK AT MOST 1048576: true; the input reads as it did. -/
def shaSumsUptoRow : OpenClaim := { program := "ytohjnhekkifhbaadoor", sum := "0d6edd05a0c6b84290e94dc2b908854e0cca3d9176754178bab825aa14441b73", func := "vidimus/vidimuslaw01.ShaSums", spec := "shaSums", named := ["vidimus/sha.start"], apart := false, laid := [("vidimus/sha.start", laid_vidimus_sha_start)], narrowed := true }
def ShaSumsUptoSaid : Prop := shaSumsUptoRow.holds Tryd.pinned (OpenSpec.upto shaSumsSpec)

/-- 'vidimuslaw01.ShaRoots', WHERE WHAT IT READS IS OF BULK AT MOST 1048576: true; the input reads as it did. -/
def shaRootsUptoRow : OpenClaim := { program := "ytohjnhekkifhbaadoor", sum := "0d6edd05a0c6b84290e94dc2b908854e0cca3d9176754178bab825aa14441b73", func := "vidimus/vidimuslaw01.ShaRoots", spec := "shaRoots", named := ["vidimus/sha.start"], apart := false, laid := [("vidimus/sha.start", laid_vidimus_sha_start)], narrowed := true }
def ShaRootsUptoSaid : Prop := shaRootsUptoRow.holds Tryd.pinned (OpenSpec.upto shaRootsSpec)

/-- 'vidimuslaw01.ShaSeals', WHERE WHAT IT READS IS OF BULK AT MOST 1048576: true; the input reads as it did. -/
def shaSealsUptoRow : OpenClaim := { program := "ytohjnhekkifhbaadoor", sum := "0d6edd05a0c6b84290e94dc2b908854e0cca3d9176754178bab825aa14441b73", func := "vidimus/vidimuslaw01.ShaSeals", spec := "shaSeals", named := ["vidimus/sha.start"], apart := false, laid := [("vidimus/sha.start", laid_vidimus_sha_start)], narrowed := true }
def ShaSealsUptoSaid : Prop := shaSealsUptoRow.holds Tryd.pinned (OpenSpec.upto shaSealsSpec)

/-- 'vidimuslaw01.ShaDigits', WHERE WHAT IT READS IS OF BULK AT MOST 1048576: true; the input reads as it did. -/
def shaDigitsUptoRow : OpenClaim := { program := "ytohjnhekkifhbaadoor", sum := "0d6edd05a0c6b84290e94dc2b908854e0cca3d9176754178bab825aa14441b73", func := "vidimus/vidimuslaw01.ShaDigits", spec := "shaDigits", named := ["vidimus/sha.start"], apart := false, laid := [("vidimus/sha.start", laid_vidimus_sha_start)], narrowed := true }
def ShaDigitsUptoSaid : Prop := shaDigitsUptoRow.holds Tryd.pinned (OpenSpec.upto shaDigitsSpec)

/-- 'vidimuslaw01.ShaKeys', WHERE WHAT IT READS IS OF BULK AT MOST 1048576: true; the input reads as it did. -/
def shaKeysUptoRow : OpenClaim := { program := "ytohjnhekkifhbaadoor", sum := "0d6edd05a0c6b84290e94dc2b908854e0cca3d9176754178bab825aa14441b73", func := "vidimus/vidimuslaw01.ShaKeys", spec := "shaKeys", named := ["vidimus/sha.start"], apart := false, laid := [("vidimus/sha.start", laid_vidimus_sha_start)], narrowed := true }
def ShaKeysUptoSaid : Prop := shaKeysUptoRow.holds Tryd.pinned (OpenSpec.upto shaKeysSpec)

/-- 'vidimuslaw01.ShaTwice', WHERE WHAT IT READS IS OF BULK AT MOST 1048576: true; the input reads as it did. -/
def shaTwiceUptoRow : OpenClaim := { program := "ytohjnhekkifhbaadoor", sum := "0d6edd05a0c6b84290e94dc2b908854e0cca3d9176754178bab825aa14441b73", func := "vidimus/vidimuslaw01.ShaTwice", spec := "shaTwice", named := ["vidimus/sha.start"], apart := false, laid := [("vidimus/sha.start", laid_vidimus_sha_start)], narrowed := true }
def ShaTwiceUptoSaid : Prop := shaTwiceUptoRow.holds Tryd.pinned (OpenSpec.upto shaTwiceSpec)

/-- 'vidimuslaw01.ShaUnlike', WHERE WHAT IT READS IS OF BULK AT MOST 1048576: true; the input reads as it did. -/
def shaUnlikeUptoRow : OpenClaim := { program := "ytohjnhekkifhbaadoor", sum := "0d6edd05a0c6b84290e94dc2b908854e0cca3d9176754178bab825aa14441b73", func := "vidimus/vidimuslaw01.ShaUnlike", spec := "shaUnlike", named := ["vidimus/sha.start"], apart := false, laid := [("vidimus/sha.start", laid_vidimus_sha_start)], narrowed := true }
def ShaUnlikeUptoSaid : Prop := shaUnlikeUptoRow.holds Tryd.pinned (OpenSpec.upto shaUnlikeSpec)

end Rows
end Go.Proofs.YtohjnhekkifhbaaDoor
