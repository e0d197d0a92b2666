/-
  Proved: whatever limit and whatever two lists of moves it gets, promptkeep.Apart answers true, never panics and leaves the lists as they were: two sessions that are used by turns answer as each would alone.
  Its conditions: the given card's: the listed package-level variables hold at the call what their initialisers lay; each list and each text in it fits an address space (2^47 - 4096 bytes a slice and a string).
-/
import Derived.Test.YtpdikdnffehmkaaGreatDoorYbw
import Derived.Test.YtpdikdnffehmkaaGreatDoorYbx
namespace Go.Proofs.YtpdikdnffehmkaaGreatDoor
theorem apart_holds : Rows.ApartCardSaid := ApartC.card_of fun W p v l v' l' hp hp' hM hok hl hM' hok' hl' hT => by
  obtain ⟨a, c, rfl⟩ := MovesAt.slice hM
  obtain ⟨a', c', rfl⟩ := MovesAt.slice hM'
  exact ApartW.apart_any W p a _ c l a' _ c' l' hp hp' hM hok hl hM' hok' hl' hT
#print axioms apart_holds
end Go.Proofs.YtpdikdnffehmkaaGreatDoor
