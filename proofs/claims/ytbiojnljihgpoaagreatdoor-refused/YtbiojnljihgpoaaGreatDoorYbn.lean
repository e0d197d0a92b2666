/-
 Proved: whatever limit, moves, bytes and further moves it gets, promptkeep.Refused answers true, never panics and leaves its arguments as they were: bytes that Load refuses change nothing, and bytes that Load takes are given back by Save.
 Its conditions: the given card's: the listed package-level variables hold at the call what their initialisers lay; each list and each text in it fits an address space (2^47 - 4096 bytes a slice and a string).
-/
import Derived.Test.YtbiojnljihgpoaaGreatDoorYbl
import Derived.Test.YtbiojnljihgpoaaGreatDoorYbm
namespace Go.Proofs.YtbiojnljihgpoaaGreatDoor
theorem refused_holds : Rows.RefusedCardSaid := RefusedC.card_of fun W p v l s v' l' hp hp' hM hok hl hs hM' hok' hl' hT => by
 obtain ⟨a, c, rfl⟩ := MovesAt.slice hM
 obtain ⟨a', c', rfl⟩ := MovesAt.slice hM'
 exact refused_any W p a _ c l s a' _ c' l' hp hp' hM hok hl hs hM' hok' hl' hT
#print axioms refused_holds
end Go.Proofs.YtbiojnljihgpoaaGreatDoor
