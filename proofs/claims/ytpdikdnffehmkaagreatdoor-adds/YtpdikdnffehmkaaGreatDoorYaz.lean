/-
  Proved: whatever two numbers it gets, promptkeep.Adds answers true and never panics: sums of numbers written s(s(z)): two numbers have one sum, and a number is a sum in just as many ways as it has parts in order.
  Its conditions: the given card's: the listed package-level variables hold at the call what their initialisers lay.
-/
import Derived.Test.YtpdikdnffehmkaaGreatDoorYay
namespace Go.Proofs.YtpdikdnffehmkaaGreatDoor
theorem adds_holds : Rows.AddsCardSaid := AddsC.card_of fun W p q hp hp' hq hq' hT => AddsW.adds_any W p q hp hp' hq hq' hT
#print axioms adds_holds
end Go.Proofs.YtpdikdnffehmkaaGreatDoor
