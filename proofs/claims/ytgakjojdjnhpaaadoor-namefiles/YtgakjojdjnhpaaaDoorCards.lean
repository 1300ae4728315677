/-
  DERIVED. GIVEN WITH THE SEED: THE CARDS: each row of YtgakjojdjnhpaaaDoorRows.lean that lists a variable, with what it lists TIED to the program's text (the seventh form; the later family's looks); each row that meets fmt, with fmt's text TOLD by the authors' own Lean function (tested against real Go, not proved from fmt's source: count such statements apart). THE CARD IS WHAT COUNTS. Prove the row's statement (the work); the ties are given (YtgakjojdjnhpaaaDoorTie.lean); close each card by the builder's one call (the guide's Derived/Test/ToyasCard.lean, 'card_holds'). Laid BY PROGRAM, IN A SANDBOX (cutbox-door.mjs). By AI agents, Wed Nov 11 2026. No macro, syntax, notation, axiom, sorry.
-/
import Derived.Test.YtgakjojdjnhpaaaDoorRows
import GoSem.ClaimSeven
namespace Go.Proofs.YtgakjojdjnhpaaaDoor
namespace Rows

/-- THE TIED CARD OF 'stevedorelaw12.NameTells'. -/
def nameTellsCard : Claim7 := { stood := { row := nameTellsRow, standIns := [], harness := (true, "7d8f8ba46bc596dbe9e1ec5ada9460904713f2c4f298811363e30a43a081973b"), looks := false }, kinds := [], alts := [], laidByText := true, laidKinds := [.data, .pinned], laidTests := true, laidLooks := .later }
def NameTellsCardSaid : Prop := Claim7.holds Tryd.pinned (.plain (OpenSpec.ofChange nameTellsSpec)) nameTellsCard

/-- THE TIED CARD OF 'stevedorelaw12.NameParts'. -/
def namePartsCard : Claim7 := { stood := { row := namePartsRow, standIns := [], harness := (true, "7d8f8ba46bc596dbe9e1ec5ada9460904713f2c4f298811363e30a43a081973b"), looks := false }, kinds := [], alts := [], laidByText := true, laidKinds := [.data, .pinned], laidTests := true, laidLooks := .later }
def NamePartsCardSaid : Prop := Claim7.holds Tryd.pinned (.plain (OpenSpec.ofChange namePartsSpec)) namePartsCard

/-- THE TIED CARD OF 'stevedorelaw12.NameBytes'. -/
def nameBytesCard : Claim7 := { stood := { row := nameBytesRow, standIns := [], harness := (true, "7d8f8ba46bc596dbe9e1ec5ada9460904713f2c4f298811363e30a43a081973b"), looks := false }, kinds := [], alts := [], laidByText := true, laidKinds := [.data, .pinned], laidTests := true, laidLooks := .later }
def NameBytesCardSaid : Prop := Claim7.holds Tryd.pinned (.plain (OpenSpec.ofChange nameBytesSpec)) nameBytesCard

/-- THE TIED CARD OF 'stevedorelaw12.NameFiles'. -/
def nameFilesCard : Claim7 := { stood := { row := nameFilesRow, standIns := [], harness := (true, "7d8f8ba46bc596dbe9e1ec5ada9460904713f2c4f298811363e30a43a081973b"), looks := false }, kinds := [], alts := [], laidByText := true, laidKinds := [.data, .pinned], laidTests := true, laidLooks := .later }
def NameFilesCardSaid : Prop := Claim7.holds Tryd.pinned (.plain (OpenSpec.ofChange nameFilesSpec)) nameFilesCard

/-- THE SECOND FORM's CARD OF 'stevedorelaw12.NameTells'. -/
def nameTellsUptoCard : Claim7 := { stood := { row := nameTellsUptoRow, standIns := [], harness := (true, "7d8f8ba46bc596dbe9e1ec5ada9460904713f2c4f298811363e30a43a081973b"), looks := false }, kinds := [], alts := [], laidByText := true, laidKinds := [.data, .pinned], laidTests := true, laidLooks := .later }
def NameTellsUptoCardSaid : Prop := Claim7.holds Tryd.pinned (.plain (OpenSpec.upto nameTellsSpec)) nameTellsUptoCard

/-- THE SECOND FORM's CARD OF 'stevedorelaw12.NameParts'. -/
def namePartsUptoCard : Claim7 := { stood := { row := namePartsUptoRow, standIns := [], harness := (true, "7d8f8ba46bc596dbe9e1ec5ada9460904713f2c4f298811363e30a43a081973b"), looks := false }, kinds := [], alts := [], laidByText := true, laidKinds := [.data, .pinned], laidTests := true, laidLooks := .later }
def NamePartsUptoCardSaid : Prop := Claim7.holds Tryd.pinned (.plain (OpenSpec.upto namePartsSpec)) namePartsUptoCard

/-- THE SECOND FORM's CARD OF 'stevedorelaw12.NameBytes'. -/
def nameBytesUptoCard : Claim7 := { stood := { row := nameBytesUptoRow, standIns := [], harness := (true, "7d8f8ba46bc596dbe9e1ec5ada9460904713f2c4f298811363e30a43a081973b"), looks := false }, kinds := [], alts := [], laidByText := true, laidKinds := [.data, .pinned], laidTests := true, laidLooks := .later }
def NameBytesUptoCardSaid : Prop := Claim7.holds Tryd.pinned (.plain (OpenSpec.upto nameBytesSpec)) nameBytesUptoCard

/-- THE SECOND FORM's CARD OF 'stevedorelaw12.NameFiles'. -/
def nameFilesUptoCard : Claim7 := { stood := { row := nameFilesUptoRow, standIns := [], harness := (true, "7d8f8ba46bc596dbe9e1ec5ada9460904713f2c4f298811363e30a43a081973b"), looks := false }, kinds := [], alts := [], laidByText := true, laidKinds := [.data, .pinned], laidTests := true, laidLooks := .later }
def NameFilesUptoCardSaid : Prop := Claim7.holds Tryd.pinned (.plain (OpenSpec.upto nameFilesSpec)) nameFilesUptoCard
end Rows
end Go.Proofs.YtgakjojdjnhpaaaDoor
