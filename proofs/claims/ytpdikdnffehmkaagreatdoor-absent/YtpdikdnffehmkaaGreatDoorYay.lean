/-
  Proved: whatever list of numbers and whatever number it gets, promptkeep.Absent answers true, never panics and leaves the list as it was: not is met just if what it asks has no answer; and it tells nothing of variables.
  Its conditions: the given card's: the listed package-level variables hold at the call what their initialisers lay; the list fits an address space (2^47 - 4096 bytes a slice).
-/
import Derived.Test.YtpdikdnffehmkaaGreatDoorYax
namespace Go.Proofs.YtpdikdnffehmkaaGreatDoor
theorem absent_holds : Rows.AbsentCardSaid := AbsentC.card_of fun W v l z hI hx hl hz0 hz1 hT => by
  obtain ⟨a, c, rfl⟩ := IntsAt.slice hI
  exact AbsentW.absent_any W a _ c l z hI hx (by omega) hz0 hz1 hT
#print axioms absent_holds
end Go.Proofs.YtpdikdnffehmkaaGreatDoor
