/-
  DERIVED. GIVEN WITH THE SEED: THE CARDS: each row of YtbiojnljihgpoaaGreatDoorRows.lean that lists a variable, with what it lists TIED to the program's text (the seventh form; the later family's looks); each row that meets fmt, with fmt's text TOLD by the authors' own Lean function (tested against real Go, not proved from fmt's source: count such statements apart). THE CARD IS WHAT COUNTS. Prove the row's statement (the work); the ties are given (YtbiojnljihgpoaaGreatDoorTie.lean); close each card by the builder's one call (the guide's Derived/Test/ToyasCard.lean, 'card_holds'). Laid BY PROGRAM, IN A SANDBOX (cutbox-door.mjs). By AI agents, Wed Nov 11 2026. No macro, syntax, notation, axiom, sorry.
-/
import Derived.Test.YtbiojnljihgpoaaGreatDoorRows
import GoSem.ClaimSeven
namespace Go.Proofs.YtbiojnljihgpoaaGreatDoor
namespace Rows

/-- THE TIED CARD OF 'promptkeep.Resumed'. -/
def resumedCard : Claim7 := { stood := { row := resumedRow, standIns := [], harness := (true, "cf26590b21117587d301b571e703dde4d31c20eb1569381296347d280ef99baf"), looks := false }, kinds := [], alts := [], laidByText := true, laidKinds := [.data, .data, .data], laidTests := true, laidLooks := .later }
def ResumedCardSaid : Prop := Claim7.holds Tryz.pinned (.plain (OpenSpec.ofChange resumedSpec)) resumedCard

/-- THE TIED CARD OF 'promptkeep.Refused'. -/
def refusedCard : Claim7 := { stood := { row := refusedRow, standIns := [], harness := (true, "cf26590b21117587d301b571e703dde4d31c20eb1569381296347d280ef99baf"), looks := false }, kinds := [], alts := [], laidByText := true, laidKinds := [.data, .data, .data], laidTests := true, laidLooks := .later }
def RefusedCardSaid : Prop := Claim7.holds Tryz.pinned (.plain (OpenSpec.ofChange refusedSpec)) refusedCard

/-- THE TIED CARD OF 'promptkeep.Guarded'. -/
def guardedCard : Claim7 := { stood := { row := guardedRow, standIns := [], harness := (true, "cf26590b21117587d301b571e703dde4d31c20eb1569381296347d280ef99baf"), looks := false }, kinds := [], alts := [], laidByText := true, laidKinds := [.data, .data, .data], laidTests := true, laidLooks := .later }
def GuardedCardSaid : Prop := Claim7.holds Tryz.pinned (.plain (OpenSpec.ofChange guardedSpec)) guardedCard

/-- THE SECOND FORM's CARD OF 'promptkeep.Resumed'. -/
def resumedUptoCard : Claim7 := { stood := { row := resumedUptoRow, standIns := [], harness := (true, "cf26590b21117587d301b571e703dde4d31c20eb1569381296347d280ef99baf"), looks := false }, kinds := [], alts := [], laidByText := true, laidKinds := [.data, .data, .data], laidTests := true, laidLooks := .later }
def ResumedUptoCardSaid : Prop := Claim7.holds Tryz.pinned (.plain (OpenSpec.upto resumedSpec)) resumedUptoCard

/-- THE SECOND FORM's CARD OF 'promptkeep.Refused'. -/
def refusedUptoCard : Claim7 := { stood := { row := refusedUptoRow, standIns := [], harness := (true, "cf26590b21117587d301b571e703dde4d31c20eb1569381296347d280ef99baf"), looks := false }, kinds := [], alts := [], laidByText := true, laidKinds := [.data, .data, .data], laidTests := true, laidLooks := .later }
def RefusedUptoCardSaid : Prop := Claim7.holds Tryz.pinned (.plain (OpenSpec.upto refusedSpec)) refusedUptoCard

/-- THE SECOND FORM's CARD OF 'promptkeep.Guarded'. -/
def guardedUptoCard : Claim7 := { stood := { row := guardedUptoRow, standIns := [], harness := (true, "cf26590b21117587d301b571e703dde4d31c20eb1569381296347d280ef99baf"), looks := false }, kinds := [], alts := [], laidByText := true, laidKinds := [.data, .data, .data], laidTests := true, laidLooks := .later }
def GuardedUptoCardSaid : Prop := Claim7.holds Tryz.pinned (.plain (OpenSpec.upto guardedSpec)) guardedUptoCard
end Rows
end Go.Proofs.YtbiojnljihgpoaaGreatDoor
