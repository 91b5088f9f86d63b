/-
  No cell of these rows narrows 'for every input' (looked for: loops, veiled, ifaces, maps, wideKeys, modest, calm, conditions, laid).
  DERIVED. THE GIVEN ROWS OF THIS SEAT. 7 by the template 'for every input the law returns true; each argument reads behind the call as it read before'; 0 by the template 'total and deterministic' (their statements: YtohjnhekkifhbabTotals.lean).
  GIVEN WITH THE SEED: the statements are not yours to turn. If you find one false, say at which input.
  Laid BY PROGRAM, IN A SANDBOX (cutbox-rows.mjs): the forced cells as the released guide's own fill.sh prints them over the translation 082db4513d840974… (all of the seat's roots in one cut). By AI agents, Wed Nov 11 2026. No macro, syntax, notation, axiom, sorry.
-/
import Derived.Test.YtohjnhekkifhbabChecked
import GoSem.Claim
import GoSem.ClaimJoined
import GoSem.ClaimMapViews
import Derived.JoinedTies
import Derived.KernelRfl
namespace Go.Proofs.Ytohjnhekkifhbab
/- THE CELL 'sum', in the pinned program and in every row, IS THE sha256 OF THE DUMP (.gsa) THAT YtohjnhekkifhbabProg.lean LOADS. Nothing in Lean hashes anything: it is a label: what it is worth is what the hold of that sum in a sandbox is worth. -/
noncomputable def Try.pinned : Pinned := { name := "ytohjnhekkifhbab", sum := "082db4513d8409743411f81072be07cfdfe0a70a271a2d17a0c8c652e336cf3a", checked := Try.checked }
namespace Rows
def none {H : Type} : Left H := { results := [], args := [] }

/-- 'vidimuslaw02.AesBoxes': WHATEVER THE INPUT: true; the input reads as it did. -/
def aesBoxesSpec : ChangeSpec := { name := "aesBoxes", fn := fun _ => fun
  | [d1, d2] => { results := [.lit (.bool true)], args := [d1, d2] }
  | _ => none }
def aesBoxesRow : OpenClaim := { program := "ytohjnhekkifhbab", sum := "082db4513d8409743411f81072be07cfdfe0a70a271a2d17a0c8c652e336cf3a", func := "vidimus/vidimuslaw02.AesBoxes", spec := "aesBoxes", apart := false }
def AesBoxesSaid : Prop := aesBoxesRow.holds Try.pinned (OpenSpec.ofChange aesBoxesSpec)

/-- ITS FALSE NEIGHBOUR: 'it returns false'. Refute it at one input. -/
def aesBoxesWrong : ChangeSpec := { name := "aesBoxes", fn := fun _ => fun
  | [d1, d2] => { results := [.lit (.bool false)], args := [d1, d2] }
  | _ => none }
def AesBoxesWrongFalsely : Prop := aesBoxesRow.holds Try.pinned (OpenSpec.ofChange aesBoxesWrong)

/-- 'vidimuslaw02.AesBlocks': WHATEVER THE INPUT: true; the input reads as it did. -/
def aesBlocksSpec : ChangeSpec := { name := "aesBlocks", fn := fun _ => fun
  | [d1, d2] => { results := [.lit (.bool true)], args := [d1, d2] }
  | _ => none }
def aesBlocksRow : OpenClaim := { program := "ytohjnhekkifhbab", sum := "082db4513d8409743411f81072be07cfdfe0a70a271a2d17a0c8c652e336cf3a", func := "vidimus/vidimuslaw02.AesBlocks", spec := "aesBlocks", apart := false }
def AesBlocksSaid : Prop := aesBlocksRow.holds Try.pinned (OpenSpec.ofChange aesBlocksSpec)

/-- ITS FALSE NEIGHBOUR: 'it returns false'. Refute it at one input. -/
def aesBlocksWrong : ChangeSpec := { name := "aesBlocks", fn := fun _ => fun
  | [d1, d2] => { results := [.lit (.bool false)], args := [d1, d2] }
  | _ => none }
def AesBlocksWrongFalsely : Prop := aesBlocksRow.holds Try.pinned (OpenSpec.ofChange aesBlocksWrong)

/-- 'vidimuslaw02.AesStreams': WHATEVER THE INPUT: true; the input reads as it did. -/
def aesStreamsSpec : ChangeSpec := { name := "aesStreams", fn := fun _ => fun
  | [d1, d2, d3] => { results := [.lit (.bool true)], args := [d1, d2, d3] }
  | _ => none }
def aesStreamsRow : OpenClaim := { program := "ytohjnhekkifhbab", sum := "082db4513d8409743411f81072be07cfdfe0a70a271a2d17a0c8c652e336cf3a", func := "vidimus/vidimuslaw02.AesStreams", spec := "aesStreams", apart := false }
def AesStreamsSaid : Prop := aesStreamsRow.holds Try.pinned (OpenSpec.ofChange aesStreamsSpec)

/-- ITS FALSE NEIGHBOUR: 'it returns false'. Refute it at one input. -/
def aesStreamsWrong : ChangeSpec := { name := "aesStreams", fn := fun _ => fun
  | [d1, d2, d3] => { results := [.lit (.bool false)], args := [d1, d2, d3] }
  | _ => none }
def AesStreamsWrongFalsely : Prop := aesStreamsRow.holds Try.pinned (OpenSpec.ofChange aesStreamsWrong)

/-- 'vidimuslaw02.AesApart': WHATEVER THE INPUT: true; the input reads as it did. -/
def aesApartSpec : ChangeSpec := { name := "aesApart", fn := fun _ => fun
  | [d1, d2, d3] => { results := [.lit (.bool true)], args := [d1, d2, d3] }
  | _ => none }
def aesApartRow : OpenClaim := { program := "ytohjnhekkifhbab", sum := "082db4513d8409743411f81072be07cfdfe0a70a271a2d17a0c8c652e336cf3a", func := "vidimus/vidimuslaw02.AesApart", spec := "aesApart", apart := false }
def AesApartSaid : Prop := aesApartRow.holds Try.pinned (OpenSpec.ofChange aesApartSpec)

/-- ITS FALSE NEIGHBOUR: 'it returns false'. Refute it at one input. -/
def aesApartWrong : ChangeSpec := { name := "aesApart", fn := fun _ => fun
  | [d1, d2, d3] => { results := [.lit (.bool false)], args := [d1, d2, d3] }
  | _ => none }
def AesApartWrongFalsely : Prop := aesApartRow.holds Try.pinned (OpenSpec.ofChange aesApartWrong)

/-- 'vidimuslaw02.AesWays': WHATEVER THE INPUT: true; the input reads as it did. -/
def aesWaysSpec : ChangeSpec := { name := "aesWays", fn := fun _ => fun
  | [d1, d2, d3] => { results := [.lit (.bool true)], args := [d1, d2, d3] }
  | _ => none }
def aesWaysRow : OpenClaim := { program := "ytohjnhekkifhbab", sum := "082db4513d8409743411f81072be07cfdfe0a70a271a2d17a0c8c652e336cf3a", func := "vidimus/vidimuslaw02.AesWays", spec := "aesWays", apart := false }
def AesWaysSaid : Prop := aesWaysRow.holds Try.pinned (OpenSpec.ofChange aesWaysSpec)

/-- ITS FALSE NEIGHBOUR: 'it returns false'. Refute it at one input. -/
def aesWaysWrong : ChangeSpec := { name := "aesWays", fn := fun _ => fun
  | [d1, d2, d3] => { results := [.lit (.bool false)], args := [d1, d2, d3] }
  | _ => none }
def AesWaysWrongFalsely : Prop := aesWaysRow.holds Try.pinned (OpenSpec.ofChange aesWaysWrong)

/-- 'vidimuslaw02.AesOn': WHATEVER THE INPUT: true; the input reads as it did. -/
def aesOnSpec : ChangeSpec := { name := "aesOn", fn := fun _ => fun
  | [d1, d2, d3] => { results := [.lit (.bool true)], args := [d1, d2, d3] }
  | _ => none }
def aesOnRow : OpenClaim := { program := "ytohjnhekkifhbab", sum := "082db4513d8409743411f81072be07cfdfe0a70a271a2d17a0c8c652e336cf3a", func := "vidimus/vidimuslaw02.AesOn", spec := "aesOn", apart := false }
def AesOnSaid : Prop := aesOnRow.holds Try.pinned (OpenSpec.ofChange aesOnSpec)

/-- ITS FALSE NEIGHBOUR: 'it returns false'. Refute it at one input. -/
def aesOnWrong : ChangeSpec := { name := "aesOn", fn := fun _ => fun
  | [d1, d2, d3] => { results := [.lit (.bool false)], args := [d1, d2, d3] }
  | _ => none }
def AesOnWrongFalsely : Prop := aesOnRow.holds Try.pinned (OpenSpec.ofChange aesOnWrong)

/-- 'vidimuslaw02.AesBare': WHATEVER THE INPUT: true; the input reads as it did. -/
def aesBareSpec : ChangeSpec := { name := "aesBare", fn := fun _ => fun
  | [d1, d2] => { results := [.lit (.bool true)], args := [d1, d2] }
  | _ => none }
def aesBareRow : OpenClaim := { program := "ytohjnhekkifhbab", sum := "082db4513d8409743411f81072be07cfdfe0a70a271a2d17a0c8c652e336cf3a", func := "vidimus/vidimuslaw02.AesBare", spec := "aesBare", apart := false }
def AesBareSaid : Prop := aesBareRow.holds Try.pinned (OpenSpec.ofChange aesBareSpec)

/-- ITS FALSE NEIGHBOUR: 'it returns false'. Refute it at one input. -/
def aesBareWrong : ChangeSpec := { name := "aesBare", fn := fun _ => fun
  | [d1, d2] => { results := [.lit (.bool false)], args := [d1, d2] }
  | _ => none }
def AesBareWrongFalsely : Prop := aesBareRow.holds Try.pinned (OpenSpec.ofChange aesBareWrong)

/- THE SECOND FORM. 'bulk': how many values and letters a reading holds, each counted each time it is reached (what is shared counts as often as it is met; a slice's spare places count too). A statement '..UptoSaid' is the law's where the arguments, and the package variables that the reading takes, are together of bulk at most 1048576: NARROWER than '..Said'. Prove '..Said' where nothing that the law and all that it calls make is longer than what came in: it says more and counts as full. Else prove '..UptoSaid'. A law counts once. -/
mutual
def uptoBulk {H : Type} : DataW H → Nat
  | .lit (.string bytes) => bytes.length + 1
  | .lit _ => 1
  | .nil => 1
  | .ptr d => uptoBulk d + 1
  | .slice elems spare => uptoBulkAll elems + uptoBulkAll spare + 1
  | .agg parts => uptoBulkAll parts + 1
  | .iface _ d => uptoBulk d + 1
  | .map entries => uptoBulkEntries entries + 1
  | .held _ => 1
def uptoBulkAll {H : Type} : List (DataW H) → Nat
  | [] => 0
  | d :: r => uptoBulk d + uptoBulkAll r
def uptoBulkEntries {H : Type} : List (Lit × DataW H) → Nat
  | [] => 0
  | x :: r => uptoBulkEntry x + uptoBulkEntries r
def uptoBulkEntry {H : Type} : Lit × DataW H → Nat
  | (.string bytes, d) => bytes.length + uptoBulk d + 1
  | (_, d) => uptoBulk d + 1
 end
def uptoSmall : (H : Type) → List (DataW H) → Bool := fun _ ds => decide (uptoBulkAll ds ≤ 1048576)
def OpenSpec.upto (s : _root_.Go.ChangeSpec) : _root_.Go.OpenSpec := { _root_.Go.OpenSpec.ofChange s with cond := some uptoSmall }

/-- 'vidimuslaw02.AesBoxes', WHERE WHAT IT READS IS OF BULK AT MOST 1048576: true; the input reads as it did. -/
def aesBoxesUptoRow : OpenClaim := { program := "ytohjnhekkifhbab", sum := "082db4513d8409743411f81072be07cfdfe0a70a271a2d17a0c8c652e336cf3a", func := "vidimus/vidimuslaw02.AesBoxes", spec := "aesBoxes", apart := false, narrowed := true }
def AesBoxesUptoSaid : Prop := aesBoxesUptoRow.holds Try.pinned (OpenSpec.upto aesBoxesSpec)

/-- 'vidimuslaw02.AesBlocks', WHERE WHAT IT READS IS OF BULK AT MOST 1048576: true; the input reads as it did. -/
def aesBlocksUptoRow : OpenClaim := { program := "ytohjnhekkifhbab", sum := "082db4513d8409743411f81072be07cfdfe0a70a271a2d17a0c8c652e336cf3a", func := "vidimus/vidimuslaw02.AesBlocks", spec := "aesBlocks", apart := false, narrowed := true }
def AesBlocksUptoSaid : Prop := aesBlocksUptoRow.holds Try.pinned (OpenSpec.upto aesBlocksSpec)

/-- 'vidimuslaw02.AesStreams', WHERE WHAT IT READS IS OF BULK AT MOST 1048576: true; the input reads as it did. -/
def aesStreamsUptoRow : OpenClaim := { program := "ytohjnhekkifhbab", sum := "082db4513d8409743411f81072be07cfdfe0a70a271a2d17a0c8c652e336cf3a", func := "vidimus/vidimuslaw02.AesStreams", spec := "aesStreams", apart := false, narrowed := true }
def AesStreamsUptoSaid : Prop := aesStreamsUptoRow.holds Try.pinned (OpenSpec.upto aesStreamsSpec)

/-- 'vidimuslaw02.AesApart', WHERE WHAT IT READS IS OF BULK AT MOST 1048576: true; the input reads as it did. -/
def aesApartUptoRow : OpenClaim := { program := "ytohjnhekkifhbab", sum := "082db4513d8409743411f81072be07cfdfe0a70a271a2d17a0c8c652e336cf3a", func := "vidimus/vidimuslaw02.AesApart", spec := "aesApart", apart := false, narrowed := true }
def AesApartUptoSaid : Prop := aesApartUptoRow.holds Try.pinned (OpenSpec.upto aesApartSpec)

/-- 'vidimuslaw02.AesWays', WHERE WHAT IT READS IS OF BULK AT MOST 1048576: true; the input reads as it did. -/
def aesWaysUptoRow : OpenClaim := { program := "ytohjnhekkifhbab", sum := "082db4513d8409743411f81072be07cfdfe0a70a271a2d17a0c8c652e336cf3a", func := "vidimus/vidimuslaw02.AesWays", spec := "aesWays", apart := false, narrowed := true }
def AesWaysUptoSaid : Prop := aesWaysUptoRow.holds Try.pinned (OpenSpec.upto aesWaysSpec)

/-- 'vidimuslaw02.AesOn', WHERE WHAT IT READS IS OF BULK AT MOST 1048576: true; the input reads as it did. -/
def aesOnUptoRow : OpenClaim := { program := "ytohjnhekkifhbab", sum := "082db4513d8409743411f81072be07cfdfe0a70a271a2d17a0c8c652e336cf3a", func := "vidimus/vidimuslaw02.AesOn", spec := "aesOn", apart := false, narrowed := true }
def AesOnUptoSaid : Prop := aesOnUptoRow.holds Try.pinned (OpenSpec.upto aesOnSpec)

/-- 'vidimuslaw02.AesBare', WHERE WHAT IT READS IS OF BULK AT MOST 1048576: true; the input reads as it did. -/
def aesBareUptoRow : OpenClaim := { program := "ytohjnhekkifhbab", sum := "082db4513d8409743411f81072be07cfdfe0a70a271a2d17a0c8c652e336cf3a", func := "vidimus/vidimuslaw02.AesBare", spec := "aesBare", apart := false, narrowed := true }
def AesBareUptoSaid : Prop := aesBareUptoRow.holds Try.pinned (OpenSpec.upto aesBareSpec)

end Rows
end Go.Proofs.Ytohjnhekkifhbab
