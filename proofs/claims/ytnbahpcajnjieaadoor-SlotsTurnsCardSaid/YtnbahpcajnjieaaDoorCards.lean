/-
  DERIVED. GIVEN WITH THE SEED: THE CARDS: each row of YtnbahpcajnjieaaDoorRows.lean that lists a variable, with what it lists TIED to the program's text (the seventh form; the later family's looks); each row that meets fmt, with fmt's text TOLD by the authors' own Lean function (tested against real Go, not proved from fmt's source: count such statements apart). THE CARD IS WHAT COUNTS. Prove the row's statement (the work); the ties are given (YtnbahpcajnjieaaDoorTie.lean); close each card by the builder's one call (the guide's Derived/Test/ToyasCard.lean, 'card_holds'). Laid BY PROGRAM, IN A SANDBOX (cutbox-door.mjs). By AI agents, Wed Nov 11 2026. No macro, syntax, notation, axiom, sorry.
-/
import Derived.Test.YtnbahpcajnjieaaDoorRows
import GoSem.ClaimSeven
namespace Go.Proofs.YtnbahpcajnjieaaDoor
namespace Rows

/-- THE TIED CARD OF 'solenoidlaw6.SlotsLast'. -/
def slotsLastCard : Claim7 := { stood := { row := slotsLastRow, standIns := [], harness := (true, "0ddfd476a80eac169482636868adcdf385b66d4ed954c092c9cf955c96f83963"), looks := false }, kinds := [], alts := [], laidByText := true, laidKinds := [.data, .data], laidTests := true, laidLooks := .later }
def SlotsLastCardSaid : Prop := Claim7.holds Tryd.pinned (.plain (OpenSpec.ofChange slotsLastSpec)) slotsLastCard

/-- THE TIED CARD OF 'solenoidlaw6.SlotsRows'. -/
def slotsRowsCard : Claim7 := { stood := { row := slotsRowsRow, standIns := [], harness := (true, "0ddfd476a80eac169482636868adcdf385b66d4ed954c092c9cf955c96f83963"), looks := false }, kinds := [], alts := [], laidByText := true, laidKinds := [.data, .data], laidTests := true, laidLooks := .later }
def SlotsRowsCardSaid : Prop := Claim7.holds Tryd.pinned (.plain (OpenSpec.ofChange slotsRowsSpec)) slotsRowsCard

/-- THE TIED CARD OF 'solenoidlaw6.SlotsStore'. -/
def slotsStoreCard : Claim7 := { stood := { row := slotsStoreRow, standIns := [], harness := (true, "0ddfd476a80eac169482636868adcdf385b66d4ed954c092c9cf955c96f83963"), looks := false }, kinds := [], alts := [], laidByText := true, laidKinds := [.data, .data], laidTests := true, laidLooks := .later }
def SlotsStoreCardSaid : Prop := Claim7.holds Tryd.pinned (.plain (OpenSpec.ofChange slotsStoreSpec)) slotsStoreCard

/-- THE TIED CARD OF 'solenoidlaw6.SlotsWrong'. -/
def slotsWrongCard : Claim7 := { stood := { row := slotsWrongRow, standIns := [], harness := (true, "0ddfd476a80eac169482636868adcdf385b66d4ed954c092c9cf955c96f83963"), looks := false }, kinds := [], alts := [], laidByText := true, laidKinds := [.data, .data], laidTests := true, laidLooks := .later }
def SlotsWrongCardSaid : Prop := Claim7.holds Tryd.pinned (.plain (OpenSpec.ofChange slotsWrongSpec)) slotsWrongCard

/-- THE TIED CARD OF 'solenoidlaw6.SlotsTurns'. -/
def slotsTurnsCard : Claim7 := { stood := { row := slotsTurnsRow, standIns := [], harness := (true, "0ddfd476a80eac169482636868adcdf385b66d4ed954c092c9cf955c96f83963"), looks := false }, kinds := [], alts := [], laidByText := true, laidKinds := [.data, .data], laidTests := true, laidLooks := .later }
def SlotsTurnsCardSaid : Prop := Claim7.holds Tryd.pinned (.plain (OpenSpec.ofChange slotsTurnsSpec)) slotsTurnsCard

/-- THE SECOND FORM's CARD OF 'solenoidlaw6.SlotsLast'. -/
def slotsLastUptoCard : Claim7 := { stood := { row := slotsLastUptoRow, standIns := [], harness := (true, "0ddfd476a80eac169482636868adcdf385b66d4ed954c092c9cf955c96f83963"), looks := false }, kinds := [], alts := [], laidByText := true, laidKinds := [.data, .data], laidTests := true, laidLooks := .later }
def SlotsLastUptoCardSaid : Prop := Claim7.holds Tryd.pinned (.plain (OpenSpec.upto slotsLastSpec)) slotsLastUptoCard

/-- THE SECOND FORM's CARD OF 'solenoidlaw6.SlotsRows'. -/
def slotsRowsUptoCard : Claim7 := { stood := { row := slotsRowsUptoRow, standIns := [], harness := (true, "0ddfd476a80eac169482636868adcdf385b66d4ed954c092c9cf955c96f83963"), looks := false }, kinds := [], alts := [], laidByText := true, laidKinds := [.data, .data], laidTests := true, laidLooks := .later }
def SlotsRowsUptoCardSaid : Prop := Claim7.holds Tryd.pinned (.plain (OpenSpec.upto slotsRowsSpec)) slotsRowsUptoCard

/-- THE SECOND FORM's CARD OF 'solenoidlaw6.SlotsStore'. -/
def slotsStoreUptoCard : Claim7 := { stood := { row := slotsStoreUptoRow, standIns := [], harness := (true, "0ddfd476a80eac169482636868adcdf385b66d4ed954c092c9cf955c96f83963"), looks := false }, kinds := [], alts := [], laidByText := true, laidKinds := [.data, .data], laidTests := true, laidLooks := .later }
def SlotsStoreUptoCardSaid : Prop := Claim7.holds Tryd.pinned (.plain (OpenSpec.upto slotsStoreSpec)) slotsStoreUptoCard

/-- THE SECOND FORM's CARD OF 'solenoidlaw6.SlotsWrong'. -/
def slotsWrongUptoCard : Claim7 := { stood := { row := slotsWrongUptoRow, standIns := [], harness := (true, "0ddfd476a80eac169482636868adcdf385b66d4ed954c092c9cf955c96f83963"), looks := false }, kinds := [], alts := [], laidByText := true, laidKinds := [.data, .data], laidTests := true, laidLooks := .later }
def SlotsWrongUptoCardSaid : Prop := Claim7.holds Tryd.pinned (.plain (OpenSpec.upto slotsWrongSpec)) slotsWrongUptoCard

/-- THE SECOND FORM's CARD OF 'solenoidlaw6.SlotsTurns'. -/
def slotsTurnsUptoCard : Claim7 := { stood := { row := slotsTurnsUptoRow, standIns := [], harness := (true, "0ddfd476a80eac169482636868adcdf385b66d4ed954c092c9cf955c96f83963"), looks := false }, kinds := [], alts := [], laidByText := true, laidKinds := [.data, .data], laidTests := true, laidLooks := .later }
def SlotsTurnsUptoCardSaid : Prop := Claim7.holds Tryd.pinned (.plain (OpenSpec.upto slotsTurnsSpec)) slotsTurnsUptoCard
end Rows
end Go.Proofs.YtnbahpcajnjieaaDoor
