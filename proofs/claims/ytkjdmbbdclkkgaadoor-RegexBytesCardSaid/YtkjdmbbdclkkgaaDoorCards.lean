/-
  DERIVED. GIVEN WITH THE SEED: THE CARDS: each row of YtkjdmbbdclkkgaaDoorRows.lean that lists a variable, with what it lists TIED to the program's text (the seventh form; the later family's looks); each row that meets fmt, with fmt's text TOLD by the authors' own Lean function (tested against real Go, not proved from fmt's source: count such statements apart). THE CARD IS WHAT COUNTS. Prove the row's statement (the work); the ties are given (YtkjdmbbdclkkgaaDoorTie.lean); close each card by the builder's one call (the guide's Derived/Test/ToyasCard.lean, 'card_holds'). Laid BY PROGRAM, IN A SANDBOX (cutbox-door.mjs). By AI agents, Wed Nov 11 2026. No macro, syntax, notation, axiom, sorry.
-/
import Derived.Test.YtkjdmbbdclkkgaaDoorRows
import GoSem.ClaimSeven
namespace Go.Proofs.YtkjdmbbdclkkgaaDoor
namespace Rows

/-- THE TIED CARD OF 'guipurelaw06.RegexChecks'. -/
def regexChecksCard : Claim7 := { stood := { row := regexChecksRow, standIns := [], harness := (true, "231f9529c5f9a7adf15cf206e6fb7c4f689ea4e727fadc11c5c72ffc92787361"), looks := false }, kinds := [], alts := [], laidByText := true, laidKinds := [.data], laidTests := true, laidLooks := .later }
def RegexChecksCardSaid : Prop := Claim7.holds Tryd.pinned (.plain (OpenSpec.ofChange regexChecksSpec)) regexChecksCard

/-- THE TIED CARD OF 'guipurelaw06.RegexBack'. -/
def regexBackCard : Claim7 := { stood := { row := regexBackRow, standIns := [], harness := (true, "231f9529c5f9a7adf15cf206e6fb7c4f689ea4e727fadc11c5c72ffc92787361"), looks := false }, kinds := [], alts := [], laidByText := true, laidKinds := [.data], laidTests := true, laidLooks := .later }
def RegexBackCardSaid : Prop := Claim7.holds Tryd.pinned (.plain (OpenSpec.ofChange regexBackSpec)) regexBackCard

/-- THE TIED CARD OF 'guipurelaw06.RegexParses'. -/
def regexParsesCard : Claim7 := { stood := { row := regexParsesRow, standIns := [], harness := (true, "231f9529c5f9a7adf15cf206e6fb7c4f689ea4e727fadc11c5c72ffc92787361"), looks := false }, kinds := [], alts := [], laidByText := true, laidKinds := [.data], laidTests := true, laidLooks := .later }
def RegexParsesCardSaid : Prop := Claim7.holds Tryd.pinned (.plain (OpenSpec.ofChange regexParsesSpec)) regexParsesCard

/-- THE TIED CARD OF 'guipurelaw06.RegexJoins'. -/
def regexJoinsCard : Claim7 := { stood := { row := regexJoinsRow, standIns := [], harness := (true, "231f9529c5f9a7adf15cf206e6fb7c4f689ea4e727fadc11c5c72ffc92787361"), looks := false }, kinds := [], alts := [], laidByText := true, laidKinds := [.data], laidTests := true, laidLooks := .later }
def RegexJoinsCardSaid : Prop := Claim7.holds Tryd.pinned (.plain (OpenSpec.ofChange regexJoinsSpec)) regexJoinsCard

/-- THE TIED CARD OF 'guipurelaw06.RegexBytes'. -/
def regexBytesCard : Claim7 := { stood := { row := regexBytesRow, standIns := [], harness := (true, "231f9529c5f9a7adf15cf206e6fb7c4f689ea4e727fadc11c5c72ffc92787361"), looks := false }, kinds := [], alts := [], laidByText := true, laidKinds := [.data], laidTests := true, laidLooks := .later }
def RegexBytesCardSaid : Prop := Claim7.holds Tryd.pinned (.plain (OpenSpec.ofChange regexBytesSpec)) regexBytesCard

/-- THE TIED CARD OF 'guipurelaw07.NfaSets'. -/
def nfaSetsCard : Claim7 := { stood := { row := nfaSetsRow, standIns := [], harness := (true, "231f9529c5f9a7adf15cf206e6fb7c4f689ea4e727fadc11c5c72ffc92787361"), looks := false }, kinds := [], alts := [], laidByText := true, laidKinds := [.data], laidTests := true, laidLooks := .later }
def NfaSetsCardSaid : Prop := Claim7.holds Tryd.pinned (.plain (OpenSpec.ofChange nfaSetsSpec)) nfaSetsCard

/-- THE TIED CARD OF 'guipuretop.WholeClasses'. -/
def wholeClassesCard : Claim7 := { stood := { row := wholeClassesRow, standIns := [], harness := (true, "231f9529c5f9a7adf15cf206e6fb7c4f689ea4e727fadc11c5c72ffc92787361"), looks := false }, kinds := [], alts := [], laidByText := true, laidKinds := [.data], laidTests := true, laidLooks := .later }
def WholeClassesCardSaid : Prop := Claim7.holds Tryd.pinned (.plain (OpenSpec.ofChange wholeClassesSpec)) wholeClassesCard

/-- THE SECOND FORM's CARD OF 'guipurelaw06.RegexChecks'. -/
def regexChecksUptoCard : Claim7 := { stood := { row := regexChecksUptoRow, standIns := [], harness := (true, "231f9529c5f9a7adf15cf206e6fb7c4f689ea4e727fadc11c5c72ffc92787361"), looks := false }, kinds := [], alts := [], laidByText := true, laidKinds := [.data], laidTests := true, laidLooks := .later }
def RegexChecksUptoCardSaid : Prop := Claim7.holds Tryd.pinned (.plain (OpenSpec.upto regexChecksSpec)) regexChecksUptoCard

/-- THE SECOND FORM's CARD OF 'guipurelaw06.RegexBack'. -/
def regexBackUptoCard : Claim7 := { stood := { row := regexBackUptoRow, standIns := [], harness := (true, "231f9529c5f9a7adf15cf206e6fb7c4f689ea4e727fadc11c5c72ffc92787361"), looks := false }, kinds := [], alts := [], laidByText := true, laidKinds := [.data], laidTests := true, laidLooks := .later }
def RegexBackUptoCardSaid : Prop := Claim7.holds Tryd.pinned (.plain (OpenSpec.upto regexBackSpec)) regexBackUptoCard

/-- THE SECOND FORM's CARD OF 'guipurelaw06.RegexParses'. -/
def regexParsesUptoCard : Claim7 := { stood := { row := regexParsesUptoRow, standIns := [], harness := (true, "231f9529c5f9a7adf15cf206e6fb7c4f689ea4e727fadc11c5c72ffc92787361"), looks := false }, kinds := [], alts := [], laidByText := true, laidKinds := [.data], laidTests := true, laidLooks := .later }
def RegexParsesUptoCardSaid : Prop := Claim7.holds Tryd.pinned (.plain (OpenSpec.upto regexParsesSpec)) regexParsesUptoCard

/-- THE SECOND FORM's CARD OF 'guipurelaw06.RegexJoins'. -/
def regexJoinsUptoCard : Claim7 := { stood := { row := regexJoinsUptoRow, standIns := [], harness := (true, "231f9529c5f9a7adf15cf206e6fb7c4f689ea4e727fadc11c5c72ffc92787361"), looks := false }, kinds := [], alts := [], laidByText := true, laidKinds := [.data], laidTests := true, laidLooks := .later }
def RegexJoinsUptoCardSaid : Prop := Claim7.holds Tryd.pinned (.plain (OpenSpec.upto regexJoinsSpec)) regexJoinsUptoCard

/-- THE SECOND FORM's CARD OF 'guipurelaw06.RegexBytes'. -/
def regexBytesUptoCard : Claim7 := { stood := { row := regexBytesUptoRow, standIns := [], harness := (true, "231f9529c5f9a7adf15cf206e6fb7c4f689ea4e727fadc11c5c72ffc92787361"), looks := false }, kinds := [], alts := [], laidByText := true, laidKinds := [.data], laidTests := true, laidLooks := .later }
def RegexBytesUptoCardSaid : Prop := Claim7.holds Tryd.pinned (.plain (OpenSpec.upto regexBytesSpec)) regexBytesUptoCard

/-- THE SECOND FORM's CARD OF 'guipurelaw07.NfaSets'. -/
def nfaSetsUptoCard : Claim7 := { stood := { row := nfaSetsUptoRow, standIns := [], harness := (true, "231f9529c5f9a7adf15cf206e6fb7c4f689ea4e727fadc11c5c72ffc92787361"), looks := false }, kinds := [], alts := [], laidByText := true, laidKinds := [.data], laidTests := true, laidLooks := .later }
def NfaSetsUptoCardSaid : Prop := Claim7.holds Tryd.pinned (.plain (OpenSpec.upto nfaSetsSpec)) nfaSetsUptoCard

/-- THE SECOND FORM's CARD OF 'guipuretop.WholeClasses'. -/
def wholeClassesUptoCard : Claim7 := { stood := { row := wholeClassesUptoRow, standIns := [], harness := (true, "231f9529c5f9a7adf15cf206e6fb7c4f689ea4e727fadc11c5c72ffc92787361"), looks := false }, kinds := [], alts := [], laidByText := true, laidKinds := [.data], laidTests := true, laidLooks := .later }
def WholeClassesUptoCardSaid : Prop := Claim7.holds Tryd.pinned (.plain (OpenSpec.upto wholeClassesSpec)) wholeClassesUptoCard
end Rows
end Go.Proofs.YtkjdmbbdclkkgaaDoor
