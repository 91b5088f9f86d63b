/-
  DERIVED. GIVEN WITH THE SEED: THE CARDS: each row of YtpkkdjmcabefbaaDoorRows.lean that lists a variable, with what it lists TIED to the program's text (the seventh form; the later family's looks); each row that meets fmt, with fmt's text TOLD by the authors' own Lean function (tested against real Go, not proved from fmt's source: count such statements apart). THE CARD IS WHAT COUNTS. Prove the row's statement (the work); the ties are given (YtpkkdjmcabefbaaDoorTie.lean); close each card by the builder's one call (the guide's Derived/Test/ToyasCard.lean, 'card_holds'). Laid BY PROGRAM, IN A SANDBOX (cutbox-door.mjs). By AI agents, Wed Nov 11 2026. No macro, syntax, notation, axiom, sorry.
-/
import Derived.Test.YtpkkdjmcabefbaaDoorRows
import GoSem.ClaimSeven
namespace Go.Proofs.YtpkkdjmcabefbaaDoor
namespace Rows

/-- THE TIED CARD OF 'vidimuslaw12.HeaderTexts'. -/
def headerTextsCard : Claim7 := { stood := { row := headerTextsRow, standIns := [], harness := (true, "6a6331466c3adb49dc58b39a5f3979d848c1b0cd6e0d43a15d6841424b585ba5"), looks := false }, kinds := [], alts := [], laidByText := true, laidKinds := [.data], laidTests := true, laidLooks := .later }
def HeaderTextsCardSaid : Prop := Claim7.holds Tryd.pinned (.plain (OpenSpec.ofChange headerTextsSpec)) headerTextsCard

/-- THE SECOND FORM's CARD OF 'vidimuslaw12.HeaderTexts'. -/
def headerTextsUptoCard : Claim7 := { stood := { row := headerTextsUptoRow, standIns := [], harness := (true, "6a6331466c3adb49dc58b39a5f3979d848c1b0cd6e0d43a15d6841424b585ba5"), looks := false }, kinds := [], alts := [], laidByText := true, laidKinds := [.data], laidTests := true, laidLooks := .later }
def HeaderTextsUptoCardSaid : Prop := Claim7.holds Tryd.pinned (.plain (OpenSpec.upto headerTextsSpec)) headerTextsUptoCard
end Rows
end Go.Proofs.YtpkkdjmcabefbaaDoor
