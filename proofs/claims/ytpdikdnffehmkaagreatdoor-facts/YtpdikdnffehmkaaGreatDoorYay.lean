/-
  Proved: whatever list of numbers it gets, promptkeep.Facts answers true, never panics and leaves the list as it was: what is asked of facts comes in their order, each as often as it stands there; then No, then Idle.
  Its conditions: the given card's: the listed package-level variables hold at the call what their initialisers lay; the list fits an address space (2^47 - 4096 bytes a slice).
-/
import Derived.Test.YtpdikdnffehmkaaGreatDoorYax
namespace Go.Proofs.YtpdikdnffehmkaaGreatDoor
theorem facts_holds : Rows.FactsCardSaid := FactsC.card_of fun W v l hI hx hl hT => by
  obtain ⟨a, c, rfl⟩ := IntsAt.slice hI
  by_cases hne : 1 ≤ l.length
  · exact facts_some W a _ c l hI hx (by omega) hT hne
  · have h0 : l = [] := List.eq_nil_of_length_eq_zero (by omega)
    subst h0
    exact facts_none W a c hT
#print axioms facts_holds
end Go.Proofs.YtpdikdnffehmkaaGreatDoor
