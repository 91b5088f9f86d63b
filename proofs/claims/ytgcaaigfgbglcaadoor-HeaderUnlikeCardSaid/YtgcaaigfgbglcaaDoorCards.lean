/-
  DERIVED. GIVEN WITH THE SEED: THE CARDS: each row of YtgcaaigfgbglcaaDoorRows.lean that lists a variable, with what it lists TIED to the program's text (the seventh form; the later family's looks); each row that meets fmt, with fmt's text TOLD by the authors' own Lean function (tested against real Go, not proved from fmt's source: count such statements apart). THE CARD IS WHAT COUNTS. Prove the row's statement (the work); the ties are given (YtgcaaigfgbglcaaDoorTie.lean); close each card by the builder's one call (the guide's Derived/Test/ToyasCard.lean, 'card_holds'). Laid BY PROGRAM, IN A SANDBOX (cutbox-door.mjs). By AI agents, Wed Nov 11 2026. No macro, syntax, notation, axiom, sorry.
-/
import Derived.Test.YtgcaaigfgbglcaaDoorRows
import GoSem.ClaimSeven
namespace Go.Proofs.YtgcaaigfgbglcaaDoor
namespace Rows

/-- THE TIED CARD OF 'vidimuslaw12.HeaderSigns'. -/
def headerSignsCard : Claim7 := { stood := { row := headerSignsRow, standIns := [], harness := (true, "0a5253c0ccf919e37f9815bab6e624664e144089dae43d2dc42161422db6edb7"), looks := false }, kinds := [], alts := [], laidByText := true, laidKinds := [.data], laidTests := true, laidLooks := .later }
def HeaderSignsCardSaid : Prop := Claim7.holds Tryd.pinned (.plain (OpenSpec.ofChange headerSignsSpec)) headerSignsCard

/-- THE TIED CARD OF 'vidimuslaw12.HeaderChains'. -/
def headerChainsCard : Claim7 := { stood := { row := headerChainsRow, standIns := [], harness := (true, "0a5253c0ccf919e37f9815bab6e624664e144089dae43d2dc42161422db6edb7"), looks := false }, kinds := [], alts := [], laidByText := true, laidKinds := [.data], laidTests := true, laidLooks := .later }
def HeaderChainsCardSaid : Prop := Claim7.holds Tryd.pinned (.plain (OpenSpec.ofChange headerChainsSpec)) headerChainsCard

/-- THE TIED CARD OF 'vidimuslaw12.HeaderTexts'. -/
def headerTextsCard : Claim7 := { stood := { row := headerTextsRow, standIns := [], harness := (true, "0a5253c0ccf919e37f9815bab6e624664e144089dae43d2dc42161422db6edb7"), looks := false }, kinds := [], alts := [], laidByText := true, laidKinds := [.data], laidTests := true, laidLooks := .later }
def HeaderTextsCardSaid : Prop := Claim7.holds Tryd.pinned (.plain (OpenSpec.ofChange headerTextsSpec)) headerTextsCard

/-- THE TIED CARD OF 'vidimuslaw12.HeaderUnlike'. -/
def headerUnlikeCard : Claim7 := { stood := { row := headerUnlikeRow, standIns := [], harness := (true, "0a5253c0ccf919e37f9815bab6e624664e144089dae43d2dc42161422db6edb7"), looks := false }, kinds := [], alts := [], laidByText := true, laidKinds := [.data], laidTests := true, laidLooks := .later }
def HeaderUnlikeCardSaid : Prop := Claim7.holds Tryd.pinned (.plain (OpenSpec.ofChange headerUnlikeSpec)) headerUnlikeCard

/-- THE TIED CARD OF 'vidimuslaw12.HeaderTurned'. -/
def headerTurnedCard : Claim7 := { stood := { row := headerTurnedRow, standIns := [], harness := (true, "0a5253c0ccf919e37f9815bab6e624664e144089dae43d2dc42161422db6edb7"), looks := false }, kinds := [], alts := [], laidByText := true, laidKinds := [.data], laidTests := true, laidLooks := .later }
def HeaderTurnedCardSaid : Prop := Claim7.holds Tryd.pinned (.plain (OpenSpec.ofChange headerTurnedSpec)) headerTurnedCard

/-- THE TIED CARD OF 'vidimuslaw12.HeaderCut'. -/
def headerCutCard : Claim7 := { stood := { row := headerCutRow, standIns := [], harness := (true, "0a5253c0ccf919e37f9815bab6e624664e144089dae43d2dc42161422db6edb7"), looks := false }, kinds := [], alts := [], laidByText := true, laidKinds := [.data], laidTests := true, laidLooks := .later }
def HeaderCutCardSaid : Prop := Claim7.holds Tryd.pinned (.plain (OpenSpec.ofChange headerCutSpec)) headerCutCard

/-- THE SECOND FORM's CARD OF 'vidimuslaw12.HeaderSigns'. -/
def headerSignsUptoCard : Claim7 := { stood := { row := headerSignsUptoRow, standIns := [], harness := (true, "0a5253c0ccf919e37f9815bab6e624664e144089dae43d2dc42161422db6edb7"), looks := false }, kinds := [], alts := [], laidByText := true, laidKinds := [.data], laidTests := true, laidLooks := .later }
def HeaderSignsUptoCardSaid : Prop := Claim7.holds Tryd.pinned (.plain (OpenSpec.upto headerSignsSpec)) headerSignsUptoCard

/-- THE SECOND FORM's CARD OF 'vidimuslaw12.HeaderChains'. -/
def headerChainsUptoCard : Claim7 := { stood := { row := headerChainsUptoRow, standIns := [], harness := (true, "0a5253c0ccf919e37f9815bab6e624664e144089dae43d2dc42161422db6edb7"), looks := false }, kinds := [], alts := [], laidByText := true, laidKinds := [.data], laidTests := true, laidLooks := .later }
def HeaderChainsUptoCardSaid : Prop := Claim7.holds Tryd.pinned (.plain (OpenSpec.upto headerChainsSpec)) headerChainsUptoCard

/-- THE SECOND FORM's CARD OF 'vidimuslaw12.HeaderTexts'. -/
def headerTextsUptoCard : Claim7 := { stood := { row := headerTextsUptoRow, standIns := [], harness := (true, "0a5253c0ccf919e37f9815bab6e624664e144089dae43d2dc42161422db6edb7"), looks := false }, kinds := [], alts := [], laidByText := true, laidKinds := [.data], laidTests := true, laidLooks := .later }
def HeaderTextsUptoCardSaid : Prop := Claim7.holds Tryd.pinned (.plain (OpenSpec.upto headerTextsSpec)) headerTextsUptoCard

/-- THE SECOND FORM's CARD OF 'vidimuslaw12.HeaderUnlike'. -/
def headerUnlikeUptoCard : Claim7 := { stood := { row := headerUnlikeUptoRow, standIns := [], harness := (true, "0a5253c0ccf919e37f9815bab6e624664e144089dae43d2dc42161422db6edb7"), looks := false }, kinds := [], alts := [], laidByText := true, laidKinds := [.data], laidTests := true, laidLooks := .later }
def HeaderUnlikeUptoCardSaid : Prop := Claim7.holds Tryd.pinned (.plain (OpenSpec.upto headerUnlikeSpec)) headerUnlikeUptoCard

/-- THE SECOND FORM's CARD OF 'vidimuslaw12.HeaderTurned'. -/
def headerTurnedUptoCard : Claim7 := { stood := { row := headerTurnedUptoRow, standIns := [], harness := (true, "0a5253c0ccf919e37f9815bab6e624664e144089dae43d2dc42161422db6edb7"), looks := false }, kinds := [], alts := [], laidByText := true, laidKinds := [.data], laidTests := true, laidLooks := .later }
def HeaderTurnedUptoCardSaid : Prop := Claim7.holds Tryd.pinned (.plain (OpenSpec.upto headerTurnedSpec)) headerTurnedUptoCard

/-- THE SECOND FORM's CARD OF 'vidimuslaw12.HeaderCut'. -/
def headerCutUptoCard : Claim7 := { stood := { row := headerCutUptoRow, standIns := [], harness := (true, "0a5253c0ccf919e37f9815bab6e624664e144089dae43d2dc42161422db6edb7"), looks := false }, kinds := [], alts := [], laidByText := true, laidKinds := [.data], laidTests := true, laidLooks := .later }
def HeaderCutUptoCardSaid : Prop := Claim7.holds Tryd.pinned (.plain (OpenSpec.upto headerCutSpec)) headerCutUptoCard
end Rows
end Go.Proofs.YtgcaaigfgbglcaaDoor
