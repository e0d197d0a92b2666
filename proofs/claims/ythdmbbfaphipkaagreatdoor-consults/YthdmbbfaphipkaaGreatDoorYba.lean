/-
  Proved: whatever script it gets, promptlaw.Consults answers true, never panics and leaves the script as it was: in any order of New, Consult and Listing, in several sessions and on a nil one, the program's replies are those of the document's own functions.
  Its conditions: the given card's: the five listed package-level variables hold at the call what their initialisers lay; the script fits an address space (2^47 - 4096 bytes a slice and a string).
-/
import Derived.Test.YthdmbbfaphipkaaGreatDoorYaz
namespace Go.Proofs.YthdmbbfaphipkaaGreatDoor
theorem consults_holds : Rows.ConsultsCardSaid := card_of fun W v l hS hok hn hT => consults_any W v l hS hok hn hT
#print axioms consults_holds
end Go.Proofs.YthdmbbfaphipkaaGreatDoor
