/-
  DERIVED. GIVEN WITH THE SEED: THE CARDS: each row of YthdmbbfaphipkaaGreatDoorRows.lean that lists a variable, with what it lists TIED to the program's text (the seventh form; the later family's looks); each row that meets fmt, with fmt's text TOLD by the authors' own Lean function (tested against real Go, not proved from fmt's source: count such statements apart). THE CARD IS WHAT COUNTS. Prove the row's statement (the work); the ties are given (YthdmbbfaphipkaaGreatDoorTie.lean); close each card by the builder's one call (the guide's Derived/Test/ToyasCard.lean, 'card_holds'). Laid BY PROGRAM, IN A SANDBOX (cutbox-door.mjs). By AI agents, Wed Nov 11 2026. No macro, syntax, notation, axiom, sorry.
-/
import Derived.Test.YthdmbbfaphipkaaGreatDoorRows
import GoSem.ClaimSeven
namespace Go.Proofs.YthdmbbfaphipkaaGreatDoor
namespace Rows

/-- THE TIED CARD OF 'promptlaw.Consults'. -/
def consultsCard : Claim7 := { stood := { row := consultsRow, standIns := [], harness := (true, "f47dbb32f3c43ccb938d9ae6a2acb26884a16445bc2e79b955a2188b0a6194d8"), looks := true }, kinds := [], alts := [], laidByText := true, laidKinds := [.data, .data, .data, .sentinel, .sentinel], laidTests := true, laidLooks := .later }
def ConsultsCardSaid : Prop := Claim7.holds Tryz.pinned (.plain (OpenSpec.ofChange consultsSpec)) consultsCard

/-- THE SECOND FORM's CARD OF 'promptlaw.Consults'. -/
def consultsUptoCard : Claim7 := { stood := { row := consultsUptoRow, standIns := [], harness := (true, "f47dbb32f3c43ccb938d9ae6a2acb26884a16445bc2e79b955a2188b0a6194d8"), looks := true }, kinds := [], alts := [], laidByText := true, laidKinds := [.data, .data, .data, .sentinel, .sentinel], laidTests := true, laidLooks := .later }
def ConsultsUptoCardSaid : Prop := Claim7.holds Tryz.pinned (.plain (OpenSpec.upto consultsSpec)) consultsUptoCard
end Rows
end Go.Proofs.YthdmbbfaphipkaaGreatDoor
