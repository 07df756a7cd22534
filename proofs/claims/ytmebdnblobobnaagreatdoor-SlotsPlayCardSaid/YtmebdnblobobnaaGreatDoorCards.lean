/-
  DERIVED. GIVEN WITH THE SEED: THE CARDS: each row of YtmebdnblobobnaaGreatDoorRows.lean that lists a variable, with what it lists TIED to the program's text (the seventh form; the later family's looks); each row that meets fmt, with fmt's text TOLD by the authors' own Lean function (tested against real Go, not proved from fmt's source: count such statements apart). THE CARD IS WHAT COUNTS. Prove the row's statement (the work); the ties are given (YtmebdnblobobnaaGreatDoorTie.lean); close each card by the builder's one call (the guide's Derived/Test/ToyasCard.lean, 'card_holds'). Laid BY PROGRAM, IN A SANDBOX (cutbox-door.mjs). By AI agents, Wed Nov 11 2026. No macro, syntax, notation, axiom, sorry.
-/
import Derived.Test.YtmebdnblobobnaaGreatDoorRows
import GoSem.ClaimSeven
namespace Go.Proofs.YtmebdnblobobnaaGreatDoor
namespace Rows

/-- THE TIED CARD OF 'solenoidlaw6.SlotsPlay'. -/
def slotsPlayCard : Claim7 := { stood := { row := slotsPlayRow, standIns := [], harness := (true, "a964ba508572dc24eee56ec06e69762f743169660e24d1421dbd7b2e6c2a809f"), looks := false }, kinds := [], alts := [], laidByText := true, laidKinds := [.data, .data], laidTests := true, laidLooks := .later }
def SlotsPlayCardSaid : Prop := Claim7.holds Tryz.pinned (.plain (OpenSpec.ofChange slotsPlaySpec)) slotsPlayCard

/-- THE TIED CARD OF 'solenoidlaw6.SlotsTorn'. -/
def slotsTornCard : Claim7 := { stood := { row := slotsTornRow, standIns := [], harness := (true, "a964ba508572dc24eee56ec06e69762f743169660e24d1421dbd7b2e6c2a809f"), looks := false }, kinds := [], alts := [], laidByText := true, laidKinds := [.data, .data], laidTests := true, laidLooks := .later }
def SlotsTornCardSaid : Prop := Claim7.holds Tryz.pinned (.plain (OpenSpec.ofChange slotsTornSpec)) slotsTornCard

/-- THE SECOND FORM's CARD OF 'solenoidlaw6.SlotsPlay'. -/
def slotsPlayUptoCard : Claim7 := { stood := { row := slotsPlayUptoRow, standIns := [], harness := (true, "a964ba508572dc24eee56ec06e69762f743169660e24d1421dbd7b2e6c2a809f"), looks := false }, kinds := [], alts := [], laidByText := true, laidKinds := [.data, .data], laidTests := true, laidLooks := .later }
def SlotsPlayUptoCardSaid : Prop := Claim7.holds Tryz.pinned (.plain (OpenSpec.upto slotsPlaySpec)) slotsPlayUptoCard

/-- THE SECOND FORM's CARD OF 'solenoidlaw6.SlotsTorn'. -/
def slotsTornUptoCard : Claim7 := { stood := { row := slotsTornUptoRow, standIns := [], harness := (true, "a964ba508572dc24eee56ec06e69762f743169660e24d1421dbd7b2e6c2a809f"), looks := false }, kinds := [], alts := [], laidByText := true, laidKinds := [.data, .data], laidTests := true, laidLooks := .later }
def SlotsTornUptoCardSaid : Prop := Claim7.holds Tryz.pinned (.plain (OpenSpec.upto slotsTornSpec)) slotsTornUptoCard
end Rows
end Go.Proofs.YtmebdnblobobnaaGreatDoor
