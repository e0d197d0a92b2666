/-
  Proved: whatever two numbers it gets, promptkeep.Reckons answers true and never panics: plus and less are those of numbers; a sum that is no number that can be is told so.
  Its conditions: the given card's: the listed package-level variables hold at the call what their initialisers lay.
-/
import Derived.Test.YtpdikdnffehmkaaDoorYaw
namespace Go.Proofs.YtpdikdnffehmkaaDoor
theorem reckons_holds : Rows.ReckonsCardSaid := ReckonsC.card_of fun W p q hp hp' hq hq' hT => by
  by_cases hr : ((Rf.pickK p 1999999999 : Int) - 999999999) + ((Rf.pickK q 1999999999 : Int) - 999999999) < -999999999 ∨ 999999999 < ((Rf.pickK p 1999999999 : Int) - 999999999) + ((Rf.pickK q 1999999999 : Int) - 999999999)
  · by_cases hl : ((Rf.pickK p 1999999999 : Int) - 999999999) < ((Rf.pickK q 1999999999 : Int) - 999999999)
    · exact ReckonsW.reckons_out_lt W p q _ _ hp hp' hq hq' hT rfl rfl hr hl
    · exact ReckonsW.reckons_out_ge W p q _ _ hp hp' hq hq' hT rfl rfl hr hl
  · by_cases hl : ((Rf.pickK p 1999999999 : Int) - 999999999) < ((Rf.pickK q 1999999999 : Int) - 999999999)
    · exact ReckonsW.reckons_in_lt W p q _ _ hp hp' hq hq' hT rfl rfl hr hl
    · exact ReckonsW.reckons_in_ge W p q _ _ hp hp' hq hq' hT rfl rfl hr hl
#print axioms reckons_holds
end Go.Proofs.YtpdikdnffehmkaaDoor
