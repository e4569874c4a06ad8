/-
  DERIVED. GIVEN WITH THE SEED: THE CARDS: each row of YtbpgfphilcjmdaaDoorRows.lean that lists a variable, with what it lists TIED to the program's text (the seventh form; the later family's looks); each row that meets fmt, with fmt's text TOLD by the authors' own Lean function (tested against real Go, not proved from fmt's source: count such statements apart). THE CARD IS WHAT COUNTS. Prove the row's statement (the work); the ties are given (YtbpgfphilcjmdaaDoorTie.lean); close each card by the builder's one call (the guide's Derived/Test/ToyasCard.lean, 'card_holds'). Laid BY PROGRAM, IN A SANDBOX (cutbox-door.mjs). By AI agents, Wed Nov 11 2026. No macro, syntax, notation, axiom, sorry.
-/
import Derived.Test.YtbpgfphilcjmdaaDoorRows
import GoSem.ClaimSeven
namespace Go.Proofs.YtbpgfphilcjmdaaDoor
namespace Rows

/-- THE TIED CARD OF 'guipurelaw06.RegexParses'. -/
def regexParsesCard : Claim7 := { stood := { row := regexParsesRow, standIns := [], harness := (true, "37bad7ce20aeb30c091ab7ba25931b4e867489575bbaaba878dbd15a6833cecb"), looks := false }, kinds := [], alts := [], laidByText := true, laidKinds := [.data], laidTests := true, laidLooks := .later }
def RegexParsesCardSaid : Prop := Claim7.holds Tryd.pinned (.plain (OpenSpec.ofChange regexParsesSpec)) regexParsesCard

/-- THE TIED CARD OF 'guipurelaw06.RegexJoins'. -/
def regexJoinsCard : Claim7 := { stood := { row := regexJoinsRow, standIns := [], harness := (true, "37bad7ce20aeb30c091ab7ba25931b4e867489575bbaaba878dbd15a6833cecb"), looks := false }, kinds := [], alts := [], laidByText := true, laidKinds := [.data], laidTests := true, laidLooks := .later }
def RegexJoinsCardSaid : Prop := Claim7.holds Tryd.pinned (.plain (OpenSpec.ofChange regexJoinsSpec)) regexJoinsCard

/-- THE TIED CARD OF 'guipurelaw06.RegexBytes'. -/
def regexBytesCard : Claim7 := { stood := { row := regexBytesRow, standIns := [], harness := (true, "37bad7ce20aeb30c091ab7ba25931b4e867489575bbaaba878dbd15a6833cecb"), looks := false }, kinds := [], alts := [], laidByText := true, laidKinds := [.data], laidTests := true, laidLooks := .later }
def RegexBytesCardSaid : Prop := Claim7.holds Tryd.pinned (.plain (OpenSpec.ofChange regexBytesSpec)) regexBytesCard

/-- THE TIED CARD OF 'guipuretop.WholeClasses'. -/
def wholeClassesCard : Claim7 := { stood := { row := wholeClassesRow, standIns := [], harness := (true, "37bad7ce20aeb30c091ab7ba25931b4e867489575bbaaba878dbd15a6833cecb"), looks := false }, kinds := [], alts := [], laidByText := true, laidKinds := [.data], laidTests := true, laidLooks := .later }
def WholeClassesCardSaid : Prop := Claim7.holds Tryd.pinned (.plain (OpenSpec.ofChange wholeClassesSpec)) wholeClassesCard

/-- THE SECOND FORM's CARD OF 'guipurelaw06.RegexParses'. -/
def regexParsesUptoCard : Claim7 := { stood := { row := regexParsesUptoRow, standIns := [], harness := (true, "37bad7ce20aeb30c091ab7ba25931b4e867489575bbaaba878dbd15a6833cecb"), looks := false }, kinds := [], alts := [], laidByText := true, laidKinds := [.data], laidTests := true, laidLooks := .later }
def RegexParsesUptoCardSaid : Prop := Claim7.holds Tryd.pinned (.plain (OpenSpec.upto regexParsesSpec)) regexParsesUptoCard

/-- THE SECOND FORM's CARD OF 'guipurelaw06.RegexJoins'. -/
def regexJoinsUptoCard : Claim7 := { stood := { row := regexJoinsUptoRow, standIns := [], harness := (true, "37bad7ce20aeb30c091ab7ba25931b4e867489575bbaaba878dbd15a6833cecb"), looks := false }, kinds := [], alts := [], laidByText := true, laidKinds := [.data], laidTests := true, laidLooks := .later }
def RegexJoinsUptoCardSaid : Prop := Claim7.holds Tryd.pinned (.plain (OpenSpec.upto regexJoinsSpec)) regexJoinsUptoCard

/-- THE SECOND FORM's CARD OF 'guipurelaw06.RegexBytes'. -/
def regexBytesUptoCard : Claim7 := { stood := { row := regexBytesUptoRow, standIns := [], harness := (true, "37bad7ce20aeb30c091ab7ba25931b4e867489575bbaaba878dbd15a6833cecb"), looks := false }, kinds := [], alts := [], laidByText := true, laidKinds := [.data], laidTests := true, laidLooks := .later }
def RegexBytesUptoCardSaid : Prop := Claim7.holds Tryd.pinned (.plain (OpenSpec.upto regexBytesSpec)) regexBytesUptoCard

/-- THE SECOND FORM's CARD OF 'guipuretop.WholeClasses'. -/
def wholeClassesUptoCard : Claim7 := { stood := { row := wholeClassesUptoRow, standIns := [], harness := (true, "37bad7ce20aeb30c091ab7ba25931b4e867489575bbaaba878dbd15a6833cecb"), looks := false }, kinds := [], alts := [], laidByText := true, laidKinds := [.data], laidTests := true, laidLooks := .later }
def WholeClassesUptoCardSaid : Prop := Claim7.holds Tryd.pinned (.plain (OpenSpec.upto wholeClassesSpec)) wholeClassesUptoCard
end Rows
end Go.Proofs.YtbpgfphilcjmdaaDoor
