/-
  Proved: whatever two lists of numbers it gets, promptkeep.First answers true, never panics and leaves the lists as they were: behind a cut there is no other answer: not of the goals ahead of it, nor of the clauses behind; but the question's own goals go on.
  Its conditions: the given card's: the listed package-level variables hold at the call what their initialisers lay; each list fits an address space (2^47 - 4096 bytes a slice).
-/
import Derived.Test.YtpdikdnffehmkaaGreatDoorYax
namespace Go.Proofs.YtpdikdnffehmkaaGreatDoor
theorem first_holds : Rows.FirstCardSaid := FirstC.card_of fun W v l v' l' hI hx hl hI' hx' hl' hT => by
  obtain ⟨a, c, rfl⟩ := IntsAt.slice hI
  obtain ⟨a', c', rfl⟩ := IntsAt.slice hI'
  by_cases h1 : l.take 12 = []
  · exact FirstW.first_noP W a _ c l a' _ c' l' hI hx (by omega) hI' hx' (by omega) hT h1
  · by_cases h2 : l'.take 12 = []
    · exact FirstW.first_noQ W a _ c l a' _ c' l' hI hx (by omega) hI' hx' (by omega) hT h1 h2
    · exact FirstW.first_some W a _ c l a' _ c' l' hI hx (by omega) hI' hx' (by omega) hT h1 h2
#print axioms first_holds
end Go.Proofs.YtpdikdnffehmkaaGreatDoor
