/-
  DERIVED. GIVEN WITH THE SEED: THE CARDS: each row of YtmpjpaomgifpcaaGreatDoorRows.lean that lists a variable, with what it lists TIED to the program's text (the seventh form; the later family's looks); each row that meets fmt, with fmt's text TOLD by the authors' own Lean function (tested against real Go, not proved from fmt's source: count such statements apart). THE CARD IS WHAT COUNTS. Prove the row's statement (the work); the ties are given (YtmpjpaomgifpcaaGreatDoorTie.lean); close each card by the builder's one call (the guide's Derived/Test/ToyasCard.lean, 'card_holds'). Laid BY PROGRAM, IN A SANDBOX (cutbox-door.mjs). By AI agents, Wed Nov 11 2026. No macro, syntax, notation, axiom, sorry.
-/
import Derived.Test.YtmpjpaomgifpcaaGreatDoorRows
import GoSem.ClaimSeven
namespace Go.Proofs.YtmpjpaomgifpcaaGreatDoor
namespace Rows

/-- THE TIED CARD OF 'vidimuslaw06.PartShows'. -/
def partShowsCard : Claim7 := { stood := { row := partShowsRow, standIns := [], harness := (true, "4aee937417455be5f3d4cdcb1762d5a080c5d32c0a486533e4b8f0b4aff738c4"), looks := false }, kinds := [], alts := [], laidByText := true, laidKinds := [.data], laidTests := true, laidLooks := .later }
def PartShowsCardSaid : Prop := Claim7.holds Tryz.pinned (.plain (OpenSpec.ofChange partShowsSpec)) partShowsCard

/-- THE TIED CARD OF 'vidimuslaw06.PartSound'. -/
def partSoundCard : Claim7 := { stood := { row := partSoundRow, standIns := [], harness := (true, "4aee937417455be5f3d4cdcb1762d5a080c5d32c0a486533e4b8f0b4aff738c4"), looks := false }, kinds := [], alts := [], laidByText := true, laidKinds := [.data], laidTests := true, laidLooks := .later }
def PartSoundCardSaid : Prop := Claim7.holds Tryz.pinned (.plain (OpenSpec.ofChange partSoundSpec)) partSoundCard

/-- THE SECOND FORM's CARD OF 'vidimuslaw06.PartShows'. -/
def partShowsUptoCard : Claim7 := { stood := { row := partShowsUptoRow, standIns := [], harness := (true, "4aee937417455be5f3d4cdcb1762d5a080c5d32c0a486533e4b8f0b4aff738c4"), looks := false }, kinds := [], alts := [], laidByText := true, laidKinds := [.data], laidTests := true, laidLooks := .later }
def PartShowsUptoCardSaid : Prop := Claim7.holds Tryz.pinned (.plain (OpenSpec.upto partShowsSpec)) partShowsUptoCard

/-- THE SECOND FORM's CARD OF 'vidimuslaw06.PartSound'. -/
def partSoundUptoCard : Claim7 := { stood := { row := partSoundUptoRow, standIns := [], harness := (true, "4aee937417455be5f3d4cdcb1762d5a080c5d32c0a486533e4b8f0b4aff738c4"), looks := false }, kinds := [], alts := [], laidByText := true, laidKinds := [.data], laidTests := true, laidLooks := .later }
def PartSoundUptoCardSaid : Prop := Claim7.holds Tryz.pinned (.plain (OpenSpec.upto partSoundSpec)) partSoundUptoCard
end Rows
end Go.Proofs.YtmpjpaomgifpcaaGreatDoor
