/-
  Proved: whatever two lists of numbers it gets, promptkeep.Joined answers true, never panics and leaves the lists as they were: two goals with a variable in common: for each of the first's answers, in order, each of the second's that agrees; then No.
  Its conditions: the given card's: the listed package-level variables hold at the call what their initialisers lay; each list fits an address space (2^47 - 4096 bytes a slice).
-/
import Derived.Test.YtpdikdnffehmkaaGreatDoorYax
namespace Go.Proofs.YtpdikdnffehmkaaGreatDoor
theorem joined_holds : Rows.JoinedCardSaid := JoinedC.card_of fun W v l v' l' hI hx hl hI' hx' hl' hT => by
  obtain ⟨a, c, rfl⟩ := IntsAt.slice hI
  obtain ⟨a', c', rfl⟩ := IntsAt.slice hI'
  by_cases h1 : l.take 15 = []
  · exact JoinedW.joined_noP W a _ c l a' _ c' l' hI hx (by omega) hI' hx' (by omega) hT h1
  · by_cases h2 : l'.take 15 = []
    · exact JoinedW.joined_noQ W a _ c l a' _ c' l' hI hx (by omega) hI' hx' (by omega) hT h1 h2
    · exact JoinedW.joined_some W a _ c l a' _ c' l' hI hx (by omega) hI' hx' (by omega) hT h1 h2
#print axioms joined_holds
end Go.Proofs.YtpdikdnffehmkaaGreatDoor
