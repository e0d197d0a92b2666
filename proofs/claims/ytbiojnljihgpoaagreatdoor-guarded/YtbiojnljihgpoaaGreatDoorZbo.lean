/-
 Proved: whatever limit, moves, numbers and text it gets, promptkeep.Guarded answers true, never panics and leaves its arguments as they were: an image with some of 32 bits that follow one another turned, cut short, or with something behind it, is refused by Load; it itself is taken, and Save gives it back.
 Its conditions: the given card's: the listed package-level variables hold at the call what their initialisers lay; each list and each text fits an address space (2^47 - 4096 bytes a slice and a string).
-/
import Derived.Test.YtbiojnljihgpoaaGreatDoorZbn
namespace Go.Proofs.YtbiojnljihgpoaaGreatDoor
theorem guarded_holds : Rows.GuardedCardSaid := GuardedC.card_of fun W p v l n2 n3 n4 t hp hp' hM hok hl hn2 hn2' _ _ hn4 hn4' _ ht hT => by
 obtain ⟨a, c, rfl⟩ := MovesAt.slice hM
 exact guarded_any W p a _ c l n2 n3 n4 t hp hp' hM hok hl hn2 hn2' hn4 hn4' ht hT
#print axioms guarded_holds
end Go.Proofs.YtbiojnljihgpoaaGreatDoor
