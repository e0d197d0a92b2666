/-
  DERIVED. GIVEN WITH THE SEED: THE CARDS: each row of YtpdikdnffehmkaaDoorRows.lean that lists a variable, with what it lists TIED to the program's text (the seventh form; the later family's looks); each row that meets fmt, with fmt's text TOLD by the authors' own Lean function (tested against real Go, not proved from fmt's source: count such statements apart). THE CARD IS WHAT COUNTS. Prove the row's statement (the work); the ties are given (YtpdikdnffehmkaaDoorTie.lean); close each card by the builder's one call (the guide's Derived/Test/ToyasCard.lean, 'card_holds'). Laid BY PROGRAM, IN A SANDBOX (cutbox-door.mjs). By AI agents, Wed Nov 11 2026. No macro, syntax, notation, axiom, sorry.
-/
import Derived.Test.YtpdikdnffehmkaaDoorRows
import GoSem.ClaimSeven
namespace Go.Proofs.YtpdikdnffehmkaaDoor
namespace Rows

/-- THE TIED CARD OF 'promptkeep.Reckons'. -/
def reckonsCard : Claim7 := { stood := { row := reckonsRow, standIns := [], harness := (true, "6eb834b311af20ac69b9112d1c33f31f186a481aaeb28be6730e639bd6768e33"), looks := false }, kinds := [], alts := [], laidByText := true, laidKinds := [.data, .data, .data], laidTests := true, laidLooks := .later }
def ReckonsCardSaid : Prop := Claim7.holds Tryd.pinned (.plain (OpenSpec.ofChange reckonsSpec)) reckonsCard

/-- THE SECOND FORM's CARD OF 'promptkeep.Reckons'. -/
def reckonsUptoCard : Claim7 := { stood := { row := reckonsUptoRow, standIns := [], harness := (true, "6eb834b311af20ac69b9112d1c33f31f186a481aaeb28be6730e639bd6768e33"), looks := false }, kinds := [], alts := [], laidByText := true, laidKinds := [.data, .data, .data], laidTests := true, laidLooks := .later }
def ReckonsUptoCardSaid : Prop := Claim7.holds Tryd.pinned (.plain (OpenSpec.upto reckonsSpec)) reckonsUptoCard
end Rows
end Go.Proofs.YtpdikdnffehmkaaDoor
