/-
  DERIVED. GIVEN WITH THE SEED: THE CARDS: each row of YtgahahichplpkaaDoorRows.lean that lists a variable, with what it lists TIED to the program's text (the seventh form; the later family's looks); each row that meets fmt, with fmt's text TOLD by the authors' own Lean function (tested against real Go, not proved from fmt's source: count such statements apart). THE CARD IS WHAT COUNTS. Prove the row's statement (the work); the ties are given (YtgahahichplpkaaDoorTie.lean); close each card by the builder's one call (the guide's Derived/Test/ToyasCard.lean, 'card_holds'). Laid BY PROGRAM, IN A SANDBOX (cutbox-door.mjs). By AI agents, Wed Nov 11 2026. No macro, syntax, notation, axiom, sorry.
-/
import Derived.Test.YtgahahichplpkaaDoorRows
import GoSem.ClaimSeven
namespace Go.Proofs.YtgahahichplpkaaDoor
namespace Rows

/-- THE TIED CARD OF 'watchtowerlaw08.SelIs'. -/
def selIsCard : Claim7 := { stood := { row := selIsRow, standIns := [], harness := (true, "47c4771180c83dc58ecee9a40d3504ede734bf14f7c5a394ccc40f23342144c8"), looks := false }, kinds := [], alts := [], laidByText := true, laidKinds := [.data, .pinned], laidTests := true, laidLooks := .later }
def SelIsCardSaid : Prop := Claim7.holds Tryd.pinned (.plain (OpenSpec.ofChange selIsSpec)) selIsCard

/-- THE TIED CARD OF 'watchtowerlaw08.SelBack'. -/
def selBackCard : Claim7 := { stood := { row := selBackRow, standIns := [], harness := (true, "47c4771180c83dc58ecee9a40d3504ede734bf14f7c5a394ccc40f23342144c8"), looks := false }, kinds := [], alts := [], laidByText := true, laidKinds := [.data, .pinned], laidTests := true, laidLooks := .later }
def SelBackCardSaid : Prop := Claim7.holds Tryd.pinned (.plain (OpenSpec.ofChange selBackSpec)) selBackCard

/-- THE TIED CARD OF 'watchtowerlaw08.SelParsed'. -/
def selParsedCard : Claim7 := { stood := { row := selParsedRow, standIns := [], harness := (true, "47c4771180c83dc58ecee9a40d3504ede734bf14f7c5a394ccc40f23342144c8"), looks := false }, kinds := [], alts := [], laidByText := true, laidKinds := [.data, .pinned], laidTests := true, laidLooks := .later }
def SelParsedCardSaid : Prop := Claim7.holds Tryd.pinned (.plain (OpenSpec.ofChange selParsedSpec)) selParsedCard

/-- THE TIED CARD OF 'watchtowerlaw08.SelFits'. -/
def selFitsCard : Claim7 := { stood := { row := selFitsRow, standIns := [], harness := (true, "47c4771180c83dc58ecee9a40d3504ede734bf14f7c5a394ccc40f23342144c8"), looks := false }, kinds := [], alts := [], laidByText := true, laidKinds := [.data, .pinned], laidTests := true, laidLooks := .later }
def SelFitsCardSaid : Prop := Claim7.holds Tryd.pinned (.plain (OpenSpec.ofChange selFitsSpec)) selFitsCard

/-- THE TIED CARD OF 'watchtowerlaw08.SelApart'. -/
def selApartCard : Claim7 := { stood := { row := selApartRow, standIns := [], harness := (true, "47c4771180c83dc58ecee9a40d3504ede734bf14f7c5a394ccc40f23342144c8"), looks := false }, kinds := [], alts := [], laidByText := true, laidKinds := [.data, .pinned], laidTests := true, laidLooks := .later }
def SelApartCardSaid : Prop := Claim7.holds Tryd.pinned (.plain (OpenSpec.ofChange selApartSpec)) selApartCard

/-- THE SECOND FORM's CARD OF 'watchtowerlaw08.SelIs'. -/
def selIsUptoCard : Claim7 := { stood := { row := selIsUptoRow, standIns := [], harness := (true, "47c4771180c83dc58ecee9a40d3504ede734bf14f7c5a394ccc40f23342144c8"), looks := false }, kinds := [], alts := [], laidByText := true, laidKinds := [.data, .pinned], laidTests := true, laidLooks := .later }
def SelIsUptoCardSaid : Prop := Claim7.holds Tryd.pinned (.plain (OpenSpec.upto selIsSpec)) selIsUptoCard

/-- THE SECOND FORM's CARD OF 'watchtowerlaw08.SelBack'. -/
def selBackUptoCard : Claim7 := { stood := { row := selBackUptoRow, standIns := [], harness := (true, "47c4771180c83dc58ecee9a40d3504ede734bf14f7c5a394ccc40f23342144c8"), looks := false }, kinds := [], alts := [], laidByText := true, laidKinds := [.data, .pinned], laidTests := true, laidLooks := .later }
def SelBackUptoCardSaid : Prop := Claim7.holds Tryd.pinned (.plain (OpenSpec.upto selBackSpec)) selBackUptoCard

/-- THE SECOND FORM's CARD OF 'watchtowerlaw08.SelParsed'. -/
def selParsedUptoCard : Claim7 := { stood := { row := selParsedUptoRow, standIns := [], harness := (true, "47c4771180c83dc58ecee9a40d3504ede734bf14f7c5a394ccc40f23342144c8"), looks := false }, kinds := [], alts := [], laidByText := true, laidKinds := [.data, .pinned], laidTests := true, laidLooks := .later }
def SelParsedUptoCardSaid : Prop := Claim7.holds Tryd.pinned (.plain (OpenSpec.upto selParsedSpec)) selParsedUptoCard

/-- THE SECOND FORM's CARD OF 'watchtowerlaw08.SelFits'. -/
def selFitsUptoCard : Claim7 := { stood := { row := selFitsUptoRow, standIns := [], harness := (true, "47c4771180c83dc58ecee9a40d3504ede734bf14f7c5a394ccc40f23342144c8"), looks := false }, kinds := [], alts := [], laidByText := true, laidKinds := [.data, .pinned], laidTests := true, laidLooks := .later }
def SelFitsUptoCardSaid : Prop := Claim7.holds Tryd.pinned (.plain (OpenSpec.upto selFitsSpec)) selFitsUptoCard

/-- THE SECOND FORM's CARD OF 'watchtowerlaw08.SelApart'. -/
def selApartUptoCard : Claim7 := { stood := { row := selApartUptoRow, standIns := [], harness := (true, "47c4771180c83dc58ecee9a40d3504ede734bf14f7c5a394ccc40f23342144c8"), looks := false }, kinds := [], alts := [], laidByText := true, laidKinds := [.data, .pinned], laidTests := true, laidLooks := .later }
def SelApartUptoCardSaid : Prop := Claim7.holds Tryd.pinned (.plain (OpenSpec.upto selApartSpec)) selApartUptoCard
end Rows
end Go.Proofs.YtgahahichplpkaaDoor
