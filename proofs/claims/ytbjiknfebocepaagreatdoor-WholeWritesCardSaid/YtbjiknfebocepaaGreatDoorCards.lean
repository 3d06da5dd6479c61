/-
  DERIVED. GIVEN WITH THE SEED: THE CARDS: each row of YtbjiknfebocepaaGreatDoorRows.lean that lists a variable, with what it lists TIED to the program's text (the seventh form; the later family's looks); each row that meets fmt, with fmt's text TOLD by the authors' own Lean function (tested against real Go, not proved from fmt's source: count such statements apart). THE CARD IS WHAT COUNTS. Prove the row's statement (the work); the ties are given (YtbjiknfebocepaaGreatDoorTie.lean); close each card by the builder's one call (the guide's Derived/Test/ToyasCard.lean, 'card_holds'). Laid BY PROGRAM, IN A SANDBOX (cutbox-door.mjs). By AI agents, Wed Nov 11 2026. No macro, syntax, notation, axiom, sorry.
-/
import Derived.Test.YtbjiknfebocepaaGreatDoorRows
import GoSem.ClaimSeven
namespace Go.Proofs.YtbjiknfebocepaaGreatDoor
namespace Rows

/-- THE TIED CARD OF 'quittancelaw03.WholeReads'. -/
def wholeReadsCard : Claim7 := { stood := { row := wholeReadsRow, standIns := [], harness := (true, "d77b08f7215dbdaf6c56be272dc26a2dfc9709eb9d1eabcd57acf56c825c833b"), looks := false }, kinds := [], alts := [], laidByText := true, laidKinds := [.data, .data, .data], laidTests := true, laidLooks := .later }
def WholeReadsCardSaid : Prop := Claim7.holds Tryz.pinned (.plain (OpenSpec.ofChange wholeReadsSpec)) wholeReadsCard

/-- THE TIED CARD OF 'quittancelaw03.WholeWrites'. -/
def wholeWritesCard : Claim7 := { stood := { row := wholeWritesRow, standIns := [], harness := (true, "d77b08f7215dbdaf6c56be272dc26a2dfc9709eb9d1eabcd57acf56c825c833b"), looks := false }, kinds := [], alts := [], laidByText := true, laidKinds := [.data, .data, .data], laidTests := true, laidLooks := .later }
def WholeWritesCardSaid : Prop := Claim7.holds Tryz.pinned (.plain (OpenSpec.ofChange wholeWritesSpec)) wholeWritesCard

/-- THE SECOND FORM's CARD OF 'quittancelaw03.WholeReads'. -/
def wholeReadsUptoCard : Claim7 := { stood := { row := wholeReadsUptoRow, standIns := [], harness := (true, "d77b08f7215dbdaf6c56be272dc26a2dfc9709eb9d1eabcd57acf56c825c833b"), looks := false }, kinds := [], alts := [], laidByText := true, laidKinds := [.data, .data, .data], laidTests := true, laidLooks := .later }
def WholeReadsUptoCardSaid : Prop := Claim7.holds Tryz.pinned (.plain (OpenSpec.upto wholeReadsSpec)) wholeReadsUptoCard

/-- THE SECOND FORM's CARD OF 'quittancelaw03.WholeWrites'. -/
def wholeWritesUptoCard : Claim7 := { stood := { row := wholeWritesUptoRow, standIns := [], harness := (true, "d77b08f7215dbdaf6c56be272dc26a2dfc9709eb9d1eabcd57acf56c825c833b"), looks := false }, kinds := [], alts := [], laidByText := true, laidKinds := [.data, .data, .data], laidTests := true, laidLooks := .later }
def WholeWritesUptoCardSaid : Prop := Claim7.holds Tryz.pinned (.plain (OpenSpec.upto wholeWritesSpec)) wholeWritesUptoCard
end Rows
end Go.Proofs.YtbjiknfebocepaaGreatDoor
