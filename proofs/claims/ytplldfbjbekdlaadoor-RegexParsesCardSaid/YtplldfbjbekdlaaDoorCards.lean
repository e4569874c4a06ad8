/-
  DERIVED. GIVEN WITH THE SEED: THE CARDS: each row of YtplldfbjbekdlaaDoorRows.lean that lists a variable, with what it lists TIED to the program's text (the seventh form; the later family's looks); each row that meets fmt, with fmt's text TOLD by the authors' own Lean function (tested against real Go, not proved from fmt's source: count such statements apart). THE CARD IS WHAT COUNTS. Prove the row's statement (the work); the ties are given (YtplldfbjbekdlaaDoorTie.lean); close each card by the builder's one call (the guide's Derived/Test/ToyasCard.lean, 'card_holds'). Laid BY PROGRAM, IN A SANDBOX (cutbox-door.mjs). By AI agents, Wed Nov 11 2026. No macro, syntax, notation, axiom, sorry.
-/
import Derived.Test.YtplldfbjbekdlaaDoorRows
import GoSem.ClaimSeven
namespace Go.Proofs.YtplldfbjbekdlaaDoor
namespace Rows

/-- THE TIED CARD OF 'guipurelaw06.RegexParses'. -/
def regexParsesCard : Claim7 := { stood := { row := regexParsesRow, standIns := [], harness := (true, "ae16e848ee658f0c7dd09799d58312aaa8e8464ab8eb0ae876038ef03b98e130"), looks := false }, kinds := [], alts := [], laidByText := true, laidKinds := [.data], laidTests := true, laidLooks := .later }
def RegexParsesCardSaid : Prop := Claim7.holds Tryd.pinned (.plain (OpenSpec.ofChange regexParsesSpec)) regexParsesCard

/-- THE SECOND FORM's CARD OF 'guipurelaw06.RegexParses'. -/
def regexParsesUptoCard : Claim7 := { stood := { row := regexParsesUptoRow, standIns := [], harness := (true, "ae16e848ee658f0c7dd09799d58312aaa8e8464ab8eb0ae876038ef03b98e130"), looks := false }, kinds := [], alts := [], laidByText := true, laidKinds := [.data], laidTests := true, laidLooks := .later }
def RegexParsesUptoCardSaid : Prop := Claim7.holds Tryd.pinned (.plain (OpenSpec.upto regexParsesSpec)) regexParsesUptoCard
end Rows
end Go.Proofs.YtplldfbjbekdlaaDoor
