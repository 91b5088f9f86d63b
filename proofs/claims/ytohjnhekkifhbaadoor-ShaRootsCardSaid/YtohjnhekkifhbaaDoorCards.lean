/-
  DERIVED. GIVEN WITH THE SEED: THE CARDS: each row of YtohjnhekkifhbaaDoorRows.lean that lists a variable, with what it lists TIED to the program's text (the seventh form; the later family's looks); each row that meets fmt, with fmt's text TOLD by the authors' own Lean function (tested against real Go, not proved from fmt's source: count such statements apart). THE CARD IS WHAT COUNTS. Prove the row's statement (the work); the ties are given (YtohjnhekkifhbaaDoorTie.lean); close each card by the builder's one call (the guide's Derived/Test/ToyasCard.lean, 'card_holds'). Laid BY PROGRAM, IN A SANDBOX (cutbox-door.mjs). By AI agents, Wed Nov 11 2026. No macro, syntax, notation, axiom, sorry.
-/
import Derived.Test.YtohjnhekkifhbaaDoorRows
import GoSem.ClaimSeven
namespace Go.Proofs.YtohjnhekkifhbaaDoor
namespace Rows

/-- THE TIED CARD OF 'vidimuslaw01.ShaSums'. -/
def shaSumsCard : Claim7 := { stood := { row := shaSumsRow, standIns := [], harness := (true, "3b0cc919c3ecf3a4ac842b0ed11b4defd05d1b42cce704100bb6290fd2049153"), looks := false }, kinds := [], alts := [], laidByText := true, laidKinds := [.data], laidTests := true, laidLooks := .later }
def ShaSumsCardSaid : Prop := Claim7.holds Tryd.pinned (.plain (OpenSpec.ofChange shaSumsSpec)) shaSumsCard

/-- THE TIED CARD OF 'vidimuslaw01.ShaRoots'. -/
def shaRootsCard : Claim7 := { stood := { row := shaRootsRow, standIns := [], harness := (true, "3b0cc919c3ecf3a4ac842b0ed11b4defd05d1b42cce704100bb6290fd2049153"), looks := false }, kinds := [], alts := [], laidByText := true, laidKinds := [.data], laidTests := true, laidLooks := .later }
def ShaRootsCardSaid : Prop := Claim7.holds Tryd.pinned (.plain (OpenSpec.ofChange shaRootsSpec)) shaRootsCard

/-- THE TIED CARD OF 'vidimuslaw01.ShaSeals'. -/
def shaSealsCard : Claim7 := { stood := { row := shaSealsRow, standIns := [], harness := (true, "3b0cc919c3ecf3a4ac842b0ed11b4defd05d1b42cce704100bb6290fd2049153"), looks := false }, kinds := [], alts := [], laidByText := true, laidKinds := [.data], laidTests := true, laidLooks := .later }
def ShaSealsCardSaid : Prop := Claim7.holds Tryd.pinned (.plain (OpenSpec.ofChange shaSealsSpec)) shaSealsCard

/-- THE TIED CARD OF 'vidimuslaw01.ShaDigits'. -/
def shaDigitsCard : Claim7 := { stood := { row := shaDigitsRow, standIns := [], harness := (true, "3b0cc919c3ecf3a4ac842b0ed11b4defd05d1b42cce704100bb6290fd2049153"), looks := false }, kinds := [], alts := [], laidByText := true, laidKinds := [.data], laidTests := true, laidLooks := .later }
def ShaDigitsCardSaid : Prop := Claim7.holds Tryd.pinned (.plain (OpenSpec.ofChange shaDigitsSpec)) shaDigitsCard

/-- THE TIED CARD OF 'vidimuslaw01.ShaKeys'. -/
def shaKeysCard : Claim7 := { stood := { row := shaKeysRow, standIns := [], harness := (true, "3b0cc919c3ecf3a4ac842b0ed11b4defd05d1b42cce704100bb6290fd2049153"), looks := false }, kinds := [], alts := [], laidByText := true, laidKinds := [.data], laidTests := true, laidLooks := .later }
def ShaKeysCardSaid : Prop := Claim7.holds Tryd.pinned (.plain (OpenSpec.ofChange shaKeysSpec)) shaKeysCard

/-- THE TIED CARD OF 'vidimuslaw01.ShaTwice'. -/
def shaTwiceCard : Claim7 := { stood := { row := shaTwiceRow, standIns := [], harness := (true, "3b0cc919c3ecf3a4ac842b0ed11b4defd05d1b42cce704100bb6290fd2049153"), looks := false }, kinds := [], alts := [], laidByText := true, laidKinds := [.data], laidTests := true, laidLooks := .later }
def ShaTwiceCardSaid : Prop := Claim7.holds Tryd.pinned (.plain (OpenSpec.ofChange shaTwiceSpec)) shaTwiceCard

/-- THE TIED CARD OF 'vidimuslaw01.ShaUnlike'. -/
def shaUnlikeCard : Claim7 := { stood := { row := shaUnlikeRow, standIns := [], harness := (true, "3b0cc919c3ecf3a4ac842b0ed11b4defd05d1b42cce704100bb6290fd2049153"), looks := false }, kinds := [], alts := [], laidByText := true, laidKinds := [.data], laidTests := true, laidLooks := .later }
def ShaUnlikeCardSaid : Prop := Claim7.holds Tryd.pinned (.plain (OpenSpec.ofChange shaUnlikeSpec)) shaUnlikeCard

/-- THE SECOND FORM's CARD OF 'vidimuslaw01.ShaSums'. -/
def shaSumsUptoCard : Claim7 := { stood := { row := shaSumsUptoRow, standIns := [], harness := (true, "3b0cc919c3ecf3a4ac842b0ed11b4defd05d1b42cce704100bb6290fd2049153"), looks := false }, kinds := [], alts := [], laidByText := true, laidKinds := [.data], laidTests := true, laidLooks := .later }
def ShaSumsUptoCardSaid : Prop := Claim7.holds Tryd.pinned (.plain (OpenSpec.upto shaSumsSpec)) shaSumsUptoCard

/-- THE SECOND FORM's CARD OF 'vidimuslaw01.ShaRoots'. -/
def shaRootsUptoCard : Claim7 := { stood := { row := shaRootsUptoRow, standIns := [], harness := (true, "3b0cc919c3ecf3a4ac842b0ed11b4defd05d1b42cce704100bb6290fd2049153"), looks := false }, kinds := [], alts := [], laidByText := true, laidKinds := [.data], laidTests := true, laidLooks := .later }
def ShaRootsUptoCardSaid : Prop := Claim7.holds Tryd.pinned (.plain (OpenSpec.upto shaRootsSpec)) shaRootsUptoCard

/-- THE SECOND FORM's CARD OF 'vidimuslaw01.ShaSeals'. -/
def shaSealsUptoCard : Claim7 := { stood := { row := shaSealsUptoRow, standIns := [], harness := (true, "3b0cc919c3ecf3a4ac842b0ed11b4defd05d1b42cce704100bb6290fd2049153"), looks := false }, kinds := [], alts := [], laidByText := true, laidKinds := [.data], laidTests := true, laidLooks := .later }
def ShaSealsUptoCardSaid : Prop := Claim7.holds Tryd.pinned (.plain (OpenSpec.upto shaSealsSpec)) shaSealsUptoCard

/-- THE SECOND FORM's CARD OF 'vidimuslaw01.ShaDigits'. -/
def shaDigitsUptoCard : Claim7 := { stood := { row := shaDigitsUptoRow, standIns := [], harness := (true, "3b0cc919c3ecf3a4ac842b0ed11b4defd05d1b42cce704100bb6290fd2049153"), looks := false }, kinds := [], alts := [], laidByText := true, laidKinds := [.data], laidTests := true, laidLooks := .later }
def ShaDigitsUptoCardSaid : Prop := Claim7.holds Tryd.pinned (.plain (OpenSpec.upto shaDigitsSpec)) shaDigitsUptoCard

/-- THE SECOND FORM's CARD OF 'vidimuslaw01.ShaKeys'. -/
def shaKeysUptoCard : Claim7 := { stood := { row := shaKeysUptoRow, standIns := [], harness := (true, "3b0cc919c3ecf3a4ac842b0ed11b4defd05d1b42cce704100bb6290fd2049153"), looks := false }, kinds := [], alts := [], laidByText := true, laidKinds := [.data], laidTests := true, laidLooks := .later }
def ShaKeysUptoCardSaid : Prop := Claim7.holds Tryd.pinned (.plain (OpenSpec.upto shaKeysSpec)) shaKeysUptoCard

/-- THE SECOND FORM's CARD OF 'vidimuslaw01.ShaTwice'. -/
def shaTwiceUptoCard : Claim7 := { stood := { row := shaTwiceUptoRow, standIns := [], harness := (true, "3b0cc919c3ecf3a4ac842b0ed11b4defd05d1b42cce704100bb6290fd2049153"), looks := false }, kinds := [], alts := [], laidByText := true, laidKinds := [.data], laidTests := true, laidLooks := .later }
def ShaTwiceUptoCardSaid : Prop := Claim7.holds Tryd.pinned (.plain (OpenSpec.upto shaTwiceSpec)) shaTwiceUptoCard

/-- THE SECOND FORM's CARD OF 'vidimuslaw01.ShaUnlike'. -/
def shaUnlikeUptoCard : Claim7 := { stood := { row := shaUnlikeUptoRow, standIns := [], harness := (true, "3b0cc919c3ecf3a4ac842b0ed11b4defd05d1b42cce704100bb6290fd2049153"), looks := false }, kinds := [], alts := [], laidByText := true, laidKinds := [.data], laidTests := true, laidLooks := .later }
def ShaUnlikeUptoCardSaid : Prop := Claim7.holds Tryd.pinned (.plain (OpenSpec.upto shaUnlikeSpec)) shaUnlikeUptoCard
end Rows
end Go.Proofs.YtohjnhekkifhbaaDoor
