/-
  Proved: whatever limits, text, question and number it gets, promptkeep.Longer answers true and never panics: with a greater limit of steps a question has the same replies, up to the first that is Limit.
  Its conditions: the given card's: the listed package-level variables hold at the call what their initialisers lay; each text fits an address space (2^47 - 4096 bytes a string).
-/
import Derived.Test.YtpdikdnffehmkaaGreatDoorYay
namespace Go.Proofs.YtpdikdnffehmkaaGreatDoor
theorem longer_holds : Rows.LongerCardSaid := LongerC.card_of fun W p g tx qx m hp hp' hg hg' htx hqx hm hm' hT => LongerW.longer_any W p g tx qx m hp hp' hg hg' htx hqx hm hm' hT
#print axioms longer_holds
end Go.Proofs.YtpdikdnffehmkaaGreatDoor
