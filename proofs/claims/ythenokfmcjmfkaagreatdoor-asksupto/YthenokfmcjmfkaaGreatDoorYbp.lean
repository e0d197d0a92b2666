/-
 Proved: whatever script of at most 1048576 values and letters it gets, promptlaw.Asks answers true, never panics and leaves the script as it was: in any order of New, Consult, Ask, More and Stop, in several sessions and on a nil one, the program's replies are those of the document's own functions.
 Its conditions: the given card's second form: the five listed package-level variables hold at the call what their initialisers lay; what is read is of bulk at most 2^20.
-/
import Derived.Test.YthenokfmcjmfkaaGreatDoorYbo
namespace Go.Proofs.YthenokfmcjmfkaaGreatDoor
open Go.Proofs.Q
open Rf
theorem asks_holds:Rows.AsksUptoCardSaid:=aCt fun W v l b a d c=>aAo W v l b a d c
#print axioms asks_holds
end Go.Proofs.YthenokfmcjmfkaaGreatDoor
