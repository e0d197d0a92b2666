/-
 Proved: whatever limit and whatever four lists of moves it gets, promptkeep.Resumed answers true, never panics and leaves the lists as they were: a session that was saved, loaded into any other of the same limit, goes on just as it would have, also in the middle of a question, and again from what is saved then.
 Its conditions: the given card's: the listed package-level variables hold at the call what their initialisers lay; each list and each text in it fits an address space (2^47 - 4096 bytes a slice and a string).
-/
import Derived.Test.YtbiojnljihgpoaaGreatDoorYbm
namespace Go.Proofs.YtbiojnljihgpoaaGreatDoor
theorem resumed_holds : Rows.ResumedCardSaid := ResumedC.card_of fun W p v l vO lO vB lB vL lL hp hp' hM hok hl hMO hokO hlO hMB hokB hlB hML hokL hlL hT => by
 obtain ⟨a, c, rfl⟩ := MovesAt.slice hM
 obtain ⟨aO, cO, rfl⟩ := MovesAt.slice hMO
 obtain ⟨aB, cB, rfl⟩ := MovesAt.slice hMB
 obtain ⟨aL, cL, rfl⟩ := MovesAt.slice hML
 exact resumed_any W p a _ c l aO _ cO lO aB _ cB lB aL _ cL lL hp hp' hM hok hl hMO hokO hlO hMB hokB hlB hML hokL hlL hT
#print axioms resumed_holds
end Go.Proofs.YtbiojnljihgpoaaGreatDoor
