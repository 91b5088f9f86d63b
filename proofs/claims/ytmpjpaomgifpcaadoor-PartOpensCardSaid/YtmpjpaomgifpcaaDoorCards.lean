/-
  DERIVED. GIVEN WITH THE SEED: THE CARDS: each row of YtmpjpaomgifpcaaDoorRows.lean that lists a variable, with what it lists TIED to the program's text (the seventh form; the later family's looks); each row that meets fmt, with fmt's text TOLD by the authors' own Lean function (tested against real Go, not proved from fmt's source: count such statements apart). THE CARD IS WHAT COUNTS. Prove the row's statement (the work); the ties are given (YtmpjpaomgifpcaaDoorTie.lean); close each card by the builder's one call (the guide's Derived/Test/ToyasCard.lean, 'card_holds'). Laid BY PROGRAM, IN A SANDBOX (cutbox-door.mjs). By AI agents, Wed Nov 11 2026. No macro, syntax, notation, axiom, sorry.
-/
import Derived.Test.YtmpjpaomgifpcaaDoorRows
import GoSem.ClaimSeven
namespace Go.Proofs.YtmpjpaomgifpcaaDoor
namespace Rows

/-- THE TIED CARD OF 'vidimuslaw06.PartOpens'. -/
def partOpensCard : Claim7 := { stood := { row := partOpensRow, standIns := [], harness := (true, "35f347a23199b589534281d925c34313af4e8ba10ba4f55469598c9b7f7f4007"), looks := false }, kinds := [], alts := [], laidByText := true, laidKinds := [.data], laidTests := true, laidLooks := .later }
def PartOpensCardSaid : Prop := Claim7.holds Tryd.pinned (.plain (OpenSpec.ofChange partOpensSpec)) partOpensCard

/-- THE TIED CARD OF 'vidimuslaw06.PartOther'. -/
def partOtherCard : Claim7 := { stood := { row := partOtherRow, standIns := [], harness := (true, "35f347a23199b589534281d925c34313af4e8ba10ba4f55469598c9b7f7f4007"), looks := false }, kinds := [], alts := [], laidByText := true, laidKinds := [.data], laidTests := true, laidLooks := .later }
def PartOtherCardSaid : Prop := Claim7.holds Tryd.pinned (.plain (OpenSpec.ofChange partOtherSpec)) partOtherCard

/-- THE TIED CARD OF 'vidimuslaw06.PartNone'. -/
def partNoneCard : Claim7 := { stood := { row := partNoneRow, standIns := [], harness := (true, "35f347a23199b589534281d925c34313af4e8ba10ba4f55469598c9b7f7f4007"), looks := false }, kinds := [], alts := [], laidByText := true, laidKinds := [.data], laidTests := true, laidLooks := .later }
def PartNoneCardSaid : Prop := Claim7.holds Tryd.pinned (.plain (OpenSpec.ofChange partNoneSpec)) partNoneCard

/-- THE TIED CARD OF 'vidimuslaw06.PartMore'. -/
def partMoreCard : Claim7 := { stood := { row := partMoreRow, standIns := [], harness := (true, "35f347a23199b589534281d925c34313af4e8ba10ba4f55469598c9b7f7f4007"), looks := false }, kinds := [], alts := [], laidByText := true, laidKinds := [.data], laidTests := true, laidLooks := .later }
def PartMoreCardSaid : Prop := Claim7.holds Tryd.pinned (.plain (OpenSpec.ofChange partMoreSpec)) partMoreCard

/-- THE SECOND FORM's CARD OF 'vidimuslaw06.PartOpens'. -/
def partOpensUptoCard : Claim7 := { stood := { row := partOpensUptoRow, standIns := [], harness := (true, "35f347a23199b589534281d925c34313af4e8ba10ba4f55469598c9b7f7f4007"), looks := false }, kinds := [], alts := [], laidByText := true, laidKinds := [.data], laidTests := true, laidLooks := .later }
def PartOpensUptoCardSaid : Prop := Claim7.holds Tryd.pinned (.plain (OpenSpec.upto partOpensSpec)) partOpensUptoCard

/-- THE SECOND FORM's CARD OF 'vidimuslaw06.PartOther'. -/
def partOtherUptoCard : Claim7 := { stood := { row := partOtherUptoRow, standIns := [], harness := (true, "35f347a23199b589534281d925c34313af4e8ba10ba4f55469598c9b7f7f4007"), looks := false }, kinds := [], alts := [], laidByText := true, laidKinds := [.data], laidTests := true, laidLooks := .later }
def PartOtherUptoCardSaid : Prop := Claim7.holds Tryd.pinned (.plain (OpenSpec.upto partOtherSpec)) partOtherUptoCard

/-- THE SECOND FORM's CARD OF 'vidimuslaw06.PartNone'. -/
def partNoneUptoCard : Claim7 := { stood := { row := partNoneUptoRow, standIns := [], harness := (true, "35f347a23199b589534281d925c34313af4e8ba10ba4f55469598c9b7f7f4007"), looks := false }, kinds := [], alts := [], laidByText := true, laidKinds := [.data], laidTests := true, laidLooks := .later }
def PartNoneUptoCardSaid : Prop := Claim7.holds Tryd.pinned (.plain (OpenSpec.upto partNoneSpec)) partNoneUptoCard

/-- THE SECOND FORM's CARD OF 'vidimuslaw06.PartMore'. -/
def partMoreUptoCard : Claim7 := { stood := { row := partMoreUptoRow, standIns := [], harness := (true, "35f347a23199b589534281d925c34313af4e8ba10ba4f55469598c9b7f7f4007"), looks := false }, kinds := [], alts := [], laidByText := true, laidKinds := [.data], laidTests := true, laidLooks := .later }
def PartMoreUptoCardSaid : Prop := Claim7.holds Tryd.pinned (.plain (OpenSpec.upto partMoreSpec)) partMoreUptoCard
end Rows
end Go.Proofs.YtmpjpaomgifpcaaDoor
