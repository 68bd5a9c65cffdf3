/-
  DERIVED. GIVEN WITH THE SEED: THE CARDS: each row of YtghoelgjpljbkaaDoorRows.lean that lists a variable, with what it lists TIED to the program's text (the seventh form; the later family's looks); each row that meets fmt, with fmt's text TOLD by the authors' own Lean function (tested against real Go, not proved from fmt's source: count such statements apart). THE CARD IS WHAT COUNTS. Prove the row's statement (the work); the ties are given (YtghoelgjpljbkaaDoorTie.lean); close each card by the builder's one call (the guide's Derived/Test/ToyasCard.lean, 'card_holds'). Laid BY PROGRAM, IN A SANDBOX (cutbox-door.mjs). By AI agents, Wed Nov 11 2026. No macro, syntax, notation, axiom, sorry.
-/
import Derived.Test.YtghoelgjpljbkaaDoorRows
import GoSem.ClaimSeven
namespace Go.Proofs.YtghoelgjpljbkaaDoor
namespace Rows

/-- THE TIED CARD OF 'cambistlaw02.LabelNames'. -/
def labelNamesCard : Claim7 := { stood := { row := labelNamesRow, standIns := [], harness := (true, "b5fabf5a654461a47eb6ec79e09e8bbff664e7b7d80b9742c8ff79a6cf237c4f"), looks := true }, kinds := [], alts := [], laidByText := true, laidKinds := [.data, .data, .data, .data, .sentinel, .sentinel, .pinned], laidTests := true, laidLooks := .later }
def LabelNamesCardSaid : Prop := Claim7.holds Tryd.pinned (.plain (OpenSpec.ofChange labelNamesSpec)) labelNamesCard

/-- THE TIED CARD OF 'cambistlaw02.LabelTells'. -/
def labelTellsCard : Claim7 := { stood := { row := labelTellsRow, standIns := [], harness := (true, "b5fabf5a654461a47eb6ec79e09e8bbff664e7b7d80b9742c8ff79a6cf237c4f"), looks := true }, kinds := [], alts := [], laidByText := true, laidKinds := [.data, .data, .data, .data, .sentinel, .sentinel, .pinned], laidTests := true, laidLooks := .later }
def LabelTellsCardSaid : Prop := Claim7.holds Tryd.pinned (.plain (OpenSpec.ofChange labelTellsSpec)) labelTellsCard

/-- THE TIED CARD OF 'cambistlaw02.LabelKeys'. -/
def labelKeysCard : Claim7 := { stood := { row := labelKeysRow, standIns := [], harness := (true, "b5fabf5a654461a47eb6ec79e09e8bbff664e7b7d80b9742c8ff79a6cf237c4f"), looks := true }, kinds := [], alts := [], laidByText := true, laidKinds := [.data, .data, .data, .data, .sentinel, .sentinel, .pinned], laidTests := true, laidLooks := .later }
def LabelKeysCardSaid : Prop := Claim7.holds Tryd.pinned (.plain (OpenSpec.ofChange labelKeysSpec)) labelKeysCard

/-- THE TIED CARD OF 'cambistlaw02.LabelBack'. -/
def labelBackCard : Claim7 := { stood := { row := labelBackRow, standIns := [], harness := (true, "b5fabf5a654461a47eb6ec79e09e8bbff664e7b7d80b9742c8ff79a6cf237c4f"), looks := true }, kinds := [], alts := [], laidByText := true, laidKinds := [.data, .data, .data, .data, .sentinel, .sentinel, .pinned], laidTests := true, laidLooks := .later }
def LabelBackCardSaid : Prop := Claim7.holds Tryd.pinned (.plain (OpenSpec.ofChange labelBackSpec)) labelBackCard

/-- THE TIED CARD OF 'cambistlaw02.LabelRises'. -/
def labelRisesCard : Claim7 := { stood := { row := labelRisesRow, standIns := [], harness := (true, "b5fabf5a654461a47eb6ec79e09e8bbff664e7b7d80b9742c8ff79a6cf237c4f"), looks := true }, kinds := [], alts := [], laidByText := true, laidKinds := [.data, .data, .data, .data, .sentinel, .sentinel, .pinned], laidTests := true, laidLooks := .later }
def LabelRisesCardSaid : Prop := Claim7.holds Tryd.pinned (.plain (OpenSpec.ofChange labelRisesSpec)) labelRisesCard

/-- THE TIED CARD OF 'cambistlaw02.LabelBetween'. -/
def labelBetweenCard : Claim7 := { stood := { row := labelBetweenRow, standIns := [], harness := (true, "b5fabf5a654461a47eb6ec79e09e8bbff664e7b7d80b9742c8ff79a6cf237c4f"), looks := true }, kinds := [], alts := [], laidByText := true, laidKinds := [.data, .data, .data, .data, .sentinel, .sentinel, .pinned], laidTests := true, laidLooks := .later }
def LabelBetweenCardSaid : Prop := Claim7.holds Tryd.pinned (.plain (OpenSpec.ofChange labelBetweenSpec)) labelBetweenCard

/-- THE SECOND FORM's CARD OF 'cambistlaw02.LabelNames'. -/
def labelNamesUptoCard : Claim7 := { stood := { row := labelNamesUptoRow, standIns := [], harness := (true, "b5fabf5a654461a47eb6ec79e09e8bbff664e7b7d80b9742c8ff79a6cf237c4f"), looks := true }, kinds := [], alts := [], laidByText := true, laidKinds := [.data, .data, .data, .data, .sentinel, .sentinel, .pinned], laidTests := true, laidLooks := .later }
def LabelNamesUptoCardSaid : Prop := Claim7.holds Tryd.pinned (.plain (OpenSpec.upto labelNamesSpec)) labelNamesUptoCard

/-- THE SECOND FORM's CARD OF 'cambistlaw02.LabelTells'. -/
def labelTellsUptoCard : Claim7 := { stood := { row := labelTellsUptoRow, standIns := [], harness := (true, "b5fabf5a654461a47eb6ec79e09e8bbff664e7b7d80b9742c8ff79a6cf237c4f"), looks := true }, kinds := [], alts := [], laidByText := true, laidKinds := [.data, .data, .data, .data, .sentinel, .sentinel, .pinned], laidTests := true, laidLooks := .later }
def LabelTellsUptoCardSaid : Prop := Claim7.holds Tryd.pinned (.plain (OpenSpec.upto labelTellsSpec)) labelTellsUptoCard

/-- THE SECOND FORM's CARD OF 'cambistlaw02.LabelKeys'. -/
def labelKeysUptoCard : Claim7 := { stood := { row := labelKeysUptoRow, standIns := [], harness := (true, "b5fabf5a654461a47eb6ec79e09e8bbff664e7b7d80b9742c8ff79a6cf237c4f"), looks := true }, kinds := [], alts := [], laidByText := true, laidKinds := [.data, .data, .data, .data, .sentinel, .sentinel, .pinned], laidTests := true, laidLooks := .later }
def LabelKeysUptoCardSaid : Prop := Claim7.holds Tryd.pinned (.plain (OpenSpec.upto labelKeysSpec)) labelKeysUptoCard

/-- THE SECOND FORM's CARD OF 'cambistlaw02.LabelBack'. -/
def labelBackUptoCard : Claim7 := { stood := { row := labelBackUptoRow, standIns := [], harness := (true, "b5fabf5a654461a47eb6ec79e09e8bbff664e7b7d80b9742c8ff79a6cf237c4f"), looks := true }, kinds := [], alts := [], laidByText := true, laidKinds := [.data, .data, .data, .data, .sentinel, .sentinel, .pinned], laidTests := true, laidLooks := .later }
def LabelBackUptoCardSaid : Prop := Claim7.holds Tryd.pinned (.plain (OpenSpec.upto labelBackSpec)) labelBackUptoCard

/-- THE SECOND FORM's CARD OF 'cambistlaw02.LabelRises'. -/
def labelRisesUptoCard : Claim7 := { stood := { row := labelRisesUptoRow, standIns := [], harness := (true, "b5fabf5a654461a47eb6ec79e09e8bbff664e7b7d80b9742c8ff79a6cf237c4f"), looks := true }, kinds := [], alts := [], laidByText := true, laidKinds := [.data, .data, .data, .data, .sentinel, .sentinel, .pinned], laidTests := true, laidLooks := .later }
def LabelRisesUptoCardSaid : Prop := Claim7.holds Tryd.pinned (.plain (OpenSpec.upto labelRisesSpec)) labelRisesUptoCard

/-- THE SECOND FORM's CARD OF 'cambistlaw02.LabelBetween'. -/
def labelBetweenUptoCard : Claim7 := { stood := { row := labelBetweenUptoRow, standIns := [], harness := (true, "b5fabf5a654461a47eb6ec79e09e8bbff664e7b7d80b9742c8ff79a6cf237c4f"), looks := true }, kinds := [], alts := [], laidByText := true, laidKinds := [.data, .data, .data, .data, .sentinel, .sentinel, .pinned], laidTests := true, laidLooks := .later }
def LabelBetweenUptoCardSaid : Prop := Claim7.holds Tryd.pinned (.plain (OpenSpec.upto labelBetweenSpec)) labelBetweenUptoCard
end Rows
end Go.Proofs.YtghoelgjpljbkaaDoor
