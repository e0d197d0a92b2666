/-
  Proved: whatever limit and whatever two lists of moves it gets, promptkeep.Listed answers true, never panics and leaves the lists as they were: what is listed, consulted line by line, gives the same listing and the same answers.
  Its conditions: the given card's: the listed package-level variables hold at the call what their initialisers lay; each list and each text in it fits an address space (2^47 - 4096 bytes a slice and a string).
-/
import Derived.Test.YtpdikdnffehmkaaGreatDoorYbw
namespace Go.Proofs.YtpdikdnffehmkaaGreatDoor
theorem listed_holds : Rows.ListedCardSaid := ListedC.card_of fun W p v l v' l' hp hp' hM hok hl hM' hok' hl' hT => by
  obtain ⟨a, c, rfl⟩ := MovesAt.slice hM
  obtain ⟨a', c', rfl⟩ := MovesAt.slice hM'
  exact ListedW.listed_any W p a _ c l a' _ c' l' hp hp' hM hok hl hM' hok' hl' hT
#print axioms listed_holds
end Go.Proofs.YtpdikdnffehmkaaGreatDoor
