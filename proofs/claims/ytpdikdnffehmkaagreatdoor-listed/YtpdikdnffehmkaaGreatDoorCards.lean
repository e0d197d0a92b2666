/-
  DERIVED. GIVEN WITH THE SEED: THE CARDS: each row of YtpdikdnffehmkaaGreatDoorRows.lean that lists a variable, with what it lists TIED to the program's text (the seventh form; the later family's looks); each row that meets fmt, with fmt's text TOLD by the authors' own Lean function (tested against real Go, not proved from fmt's source: count such statements apart). THE CARD IS WHAT COUNTS. Prove the row's statement (the work); the ties are given (YtpdikdnffehmkaaGreatDoorTie.lean); close each card by the builder's one call (the guide's Derived/Test/ToyasCard.lean, 'card_holds'). Laid BY PROGRAM, IN A SANDBOX (cutbox-door.mjs). By AI agents, Wed Nov 11 2026. No macro, syntax, notation, axiom, sorry.
-/
import Derived.Test.YtpdikdnffehmkaaGreatDoorRows
import GoSem.ClaimSeven
namespace Go.Proofs.YtpdikdnffehmkaaGreatDoor
namespace Rows

/-- THE TIED CARD OF 'promptlaw.Consults'. -/
def consultsCard : Claim7 := { stood := { row := consultsRow, standIns := [], harness := (true, "6e4f755b5aeb5b1054ac09c3a7159326e3451f5b47bcc58003705afc58f22933"), looks := true }, kinds := [], alts := [], laidByText := true, laidKinds := [.data, .data, .data, .sentinel, .sentinel], laidTests := true, laidLooks := .later }
def ConsultsCardSaid : Prop := Claim7.holds Tryz.pinned (.plain (OpenSpec.ofChange consultsSpec)) consultsCard

/-- THE TIED CARD OF 'promptkeep.Facts'. -/
def factsCard : Claim7 := { stood := { row := factsRow, standIns := [], harness := (true, "6e4f755b5aeb5b1054ac09c3a7159326e3451f5b47bcc58003705afc58f22933"), looks := true }, kinds := [], alts := [], laidByText := true, laidKinds := [.data, .data, .data], laidTests := true, laidLooks := .later }
def FactsCardSaid : Prop := Claim7.holds Tryz.pinned (.plain (OpenSpec.ofChange factsSpec)) factsCard

/-- THE TIED CARD OF 'promptkeep.Joined'. -/
def joinedCard : Claim7 := { stood := { row := joinedRow, standIns := [], harness := (true, "6e4f755b5aeb5b1054ac09c3a7159326e3451f5b47bcc58003705afc58f22933"), looks := true }, kinds := [], alts := [], laidByText := true, laidKinds := [.data, .data, .data], laidTests := true, laidLooks := .later }
def JoinedCardSaid : Prop := Claim7.holds Tryz.pinned (.plain (OpenSpec.ofChange joinedSpec)) joinedCard

/-- THE TIED CARD OF 'promptkeep.Adds'. -/
def addsCard : Claim7 := { stood := { row := addsRow, standIns := [], harness := (true, "6e4f755b5aeb5b1054ac09c3a7159326e3451f5b47bcc58003705afc58f22933"), looks := true }, kinds := [], alts := [], laidByText := true, laidKinds := [.data, .data, .data], laidTests := true, laidLooks := .later }
def AddsCardSaid : Prop := Claim7.holds Tryz.pinned (.plain (OpenSpec.ofChange addsSpec)) addsCard

/-- THE TIED CARD OF 'promptkeep.Longer'. -/
def longerCard : Claim7 := { stood := { row := longerRow, standIns := [], harness := (true, "6e4f755b5aeb5b1054ac09c3a7159326e3451f5b47bcc58003705afc58f22933"), looks := true }, kinds := [], alts := [], laidByText := true, laidKinds := [.data, .data, .data], laidTests := true, laidLooks := .later }
def LongerCardSaid : Prop := Claim7.holds Tryz.pinned (.plain (OpenSpec.ofChange longerSpec)) longerCard

/-- THE TIED CARD OF 'promptkeep.Listed'. -/
def listedCard : Claim7 := { stood := { row := listedRow, standIns := [], harness := (true, "6e4f755b5aeb5b1054ac09c3a7159326e3451f5b47bcc58003705afc58f22933"), looks := true }, kinds := [], alts := [], laidByText := true, laidKinds := [.data, .data, .data], laidTests := true, laidLooks := .later }
def ListedCardSaid : Prop := Claim7.holds Tryz.pinned (.plain (OpenSpec.ofChange listedSpec)) listedCard

/-- THE TIED CARD OF 'promptkeep.Apart'. -/
def apartCard : Claim7 := { stood := { row := apartRow, standIns := [], harness := (true, "6e4f755b5aeb5b1054ac09c3a7159326e3451f5b47bcc58003705afc58f22933"), looks := true }, kinds := [], alts := [], laidByText := true, laidKinds := [.data, .data, .data], laidTests := true, laidLooks := .later }
def ApartCardSaid : Prop := Claim7.holds Tryz.pinned (.plain (OpenSpec.ofChange apartSpec)) apartCard

/-- THE TIED CARD OF 'promptlaw.Asks'. -/
def asksCard : Claim7 := { stood := { row := asksRow, standIns := [], harness := (true, "6e4f755b5aeb5b1054ac09c3a7159326e3451f5b47bcc58003705afc58f22933"), looks := true }, kinds := [], alts := [], laidByText := true, laidKinds := [.data, .data, .data, .sentinel, .sentinel], laidTests := true, laidLooks := .later }
def AsksCardSaid : Prop := Claim7.holds Tryz.pinned (.plain (OpenSpec.ofChange asksSpec)) asksCard

/-- THE TIED CARD OF 'promptkeep.First'. -/
def firstCard : Claim7 := { stood := { row := firstRow, standIns := [], harness := (true, "6e4f755b5aeb5b1054ac09c3a7159326e3451f5b47bcc58003705afc58f22933"), looks := true }, kinds := [], alts := [], laidByText := true, laidKinds := [.data, .data, .data], laidTests := true, laidLooks := .later }
def FirstCardSaid : Prop := Claim7.holds Tryz.pinned (.plain (OpenSpec.ofChange firstSpec)) firstCard

/-- THE TIED CARD OF 'promptkeep.Absent'. -/
def absentCard : Claim7 := { stood := { row := absentRow, standIns := [], harness := (true, "6e4f755b5aeb5b1054ac09c3a7159326e3451f5b47bcc58003705afc58f22933"), looks := true }, kinds := [], alts := [], laidByText := true, laidKinds := [.data, .data, .data], laidTests := true, laidLooks := .later }
def AbsentCardSaid : Prop := Claim7.holds Tryz.pinned (.plain (OpenSpec.ofChange absentSpec)) absentCard

/-- THE TIED CARD OF 'promptkeep.Resumed'. -/
def resumedCard : Claim7 := { stood := { row := resumedRow, standIns := [], harness := (true, "6e4f755b5aeb5b1054ac09c3a7159326e3451f5b47bcc58003705afc58f22933"), looks := true }, kinds := [], alts := [], laidByText := true, laidKinds := [.data, .data, .data], laidTests := true, laidLooks := .later }
def ResumedCardSaid : Prop := Claim7.holds Tryz.pinned (.plain (OpenSpec.ofChange resumedSpec)) resumedCard

/-- THE SECOND FORM's CARD OF 'promptlaw.Consults'. -/
def consultsUptoCard : Claim7 := { stood := { row := consultsUptoRow, standIns := [], harness := (true, "6e4f755b5aeb5b1054ac09c3a7159326e3451f5b47bcc58003705afc58f22933"), looks := true }, kinds := [], alts := [], laidByText := true, laidKinds := [.data, .data, .data, .sentinel, .sentinel], laidTests := true, laidLooks := .later }
def ConsultsUptoCardSaid : Prop := Claim7.holds Tryz.pinned (.plain (OpenSpec.upto consultsSpec)) consultsUptoCard

/-- THE SECOND FORM's CARD OF 'promptkeep.Facts'. -/
def factsUptoCard : Claim7 := { stood := { row := factsUptoRow, standIns := [], harness := (true, "6e4f755b5aeb5b1054ac09c3a7159326e3451f5b47bcc58003705afc58f22933"), looks := true }, kinds := [], alts := [], laidByText := true, laidKinds := [.data, .data, .data], laidTests := true, laidLooks := .later }
def FactsUptoCardSaid : Prop := Claim7.holds Tryz.pinned (.plain (OpenSpec.upto factsSpec)) factsUptoCard

/-- THE SECOND FORM's CARD OF 'promptkeep.Joined'. -/
def joinedUptoCard : Claim7 := { stood := { row := joinedUptoRow, standIns := [], harness := (true, "6e4f755b5aeb5b1054ac09c3a7159326e3451f5b47bcc58003705afc58f22933"), looks := true }, kinds := [], alts := [], laidByText := true, laidKinds := [.data, .data, .data], laidTests := true, laidLooks := .later }
def JoinedUptoCardSaid : Prop := Claim7.holds Tryz.pinned (.plain (OpenSpec.upto joinedSpec)) joinedUptoCard

/-- THE SECOND FORM's CARD OF 'promptkeep.Adds'. -/
def addsUptoCard : Claim7 := { stood := { row := addsUptoRow, standIns := [], harness := (true, "6e4f755b5aeb5b1054ac09c3a7159326e3451f5b47bcc58003705afc58f22933"), looks := true }, kinds := [], alts := [], laidByText := true, laidKinds := [.data, .data, .data], laidTests := true, laidLooks := .later }
def AddsUptoCardSaid : Prop := Claim7.holds Tryz.pinned (.plain (OpenSpec.upto addsSpec)) addsUptoCard

/-- THE SECOND FORM's CARD OF 'promptkeep.Longer'. -/
def longerUptoCard : Claim7 := { stood := { row := longerUptoRow, standIns := [], harness := (true, "6e4f755b5aeb5b1054ac09c3a7159326e3451f5b47bcc58003705afc58f22933"), looks := true }, kinds := [], alts := [], laidByText := true, laidKinds := [.data, .data, .data], laidTests := true, laidLooks := .later }
def LongerUptoCardSaid : Prop := Claim7.holds Tryz.pinned (.plain (OpenSpec.upto longerSpec)) longerUptoCard

/-- THE SECOND FORM's CARD OF 'promptkeep.Listed'. -/
def listedUptoCard : Claim7 := { stood := { row := listedUptoRow, standIns := [], harness := (true, "6e4f755b5aeb5b1054ac09c3a7159326e3451f5b47bcc58003705afc58f22933"), looks := true }, kinds := [], alts := [], laidByText := true, laidKinds := [.data, .data, .data], laidTests := true, laidLooks := .later }
def ListedUptoCardSaid : Prop := Claim7.holds Tryz.pinned (.plain (OpenSpec.upto listedSpec)) listedUptoCard

/-- THE SECOND FORM's CARD OF 'promptkeep.Apart'. -/
def apartUptoCard : Claim7 := { stood := { row := apartUptoRow, standIns := [], harness := (true, "6e4f755b5aeb5b1054ac09c3a7159326e3451f5b47bcc58003705afc58f22933"), looks := true }, kinds := [], alts := [], laidByText := true, laidKinds := [.data, .data, .data], laidTests := true, laidLooks := .later }
def ApartUptoCardSaid : Prop := Claim7.holds Tryz.pinned (.plain (OpenSpec.upto apartSpec)) apartUptoCard

/-- THE SECOND FORM's CARD OF 'promptlaw.Asks'. -/
def asksUptoCard : Claim7 := { stood := { row := asksUptoRow, standIns := [], harness := (true, "6e4f755b5aeb5b1054ac09c3a7159326e3451f5b47bcc58003705afc58f22933"), looks := true }, kinds := [], alts := [], laidByText := true, laidKinds := [.data, .data, .data, .sentinel, .sentinel], laidTests := true, laidLooks := .later }
def AsksUptoCardSaid : Prop := Claim7.holds Tryz.pinned (.plain (OpenSpec.upto asksSpec)) asksUptoCard

/-- THE SECOND FORM's CARD OF 'promptkeep.First'. -/
def firstUptoCard : Claim7 := { stood := { row := firstUptoRow, standIns := [], harness := (true, "6e4f755b5aeb5b1054ac09c3a7159326e3451f5b47bcc58003705afc58f22933"), looks := true }, kinds := [], alts := [], laidByText := true, laidKinds := [.data, .data, .data], laidTests := true, laidLooks := .later }
def FirstUptoCardSaid : Prop := Claim7.holds Tryz.pinned (.plain (OpenSpec.upto firstSpec)) firstUptoCard

/-- THE SECOND FORM's CARD OF 'promptkeep.Absent'. -/
def absentUptoCard : Claim7 := { stood := { row := absentUptoRow, standIns := [], harness := (true, "6e4f755b5aeb5b1054ac09c3a7159326e3451f5b47bcc58003705afc58f22933"), looks := true }, kinds := [], alts := [], laidByText := true, laidKinds := [.data, .data, .data], laidTests := true, laidLooks := .later }
def AbsentUptoCardSaid : Prop := Claim7.holds Tryz.pinned (.plain (OpenSpec.upto absentSpec)) absentUptoCard

/-- THE SECOND FORM's CARD OF 'promptkeep.Resumed'. -/
def resumedUptoCard : Claim7 := { stood := { row := resumedUptoRow, standIns := [], harness := (true, "6e4f755b5aeb5b1054ac09c3a7159326e3451f5b47bcc58003705afc58f22933"), looks := true }, kinds := [], alts := [], laidByText := true, laidKinds := [.data, .data, .data], laidTests := true, laidLooks := .later }
def ResumedUptoCardSaid : Prop := Claim7.holds Tryz.pinned (.plain (OpenSpec.upto resumedSpec)) resumedUptoCard
end Rows
end Go.Proofs.YtpdikdnffehmkaaGreatDoor
