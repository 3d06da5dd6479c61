/-
  DERIVED. GIVEN WITH THE SEED: THE CARDS: each row of YtbjiknfebocepaaDoorRows.lean that lists a variable, with what it lists TIED to the program's text (the seventh form; the later family's looks); each row that meets fmt, with fmt's text TOLD by the authors' own Lean function (tested against real Go, not proved from fmt's source: count such statements apart). THE CARD IS WHAT COUNTS. Prove the row's statement (the work); the ties are given (YtbjiknfebocepaaDoorTie.lean); close each card by the builder's one call (the guide's Derived/Test/ToyasCard.lean, 'card_holds'). Laid BY PROGRAM, IN A SANDBOX (cutbox-door.mjs). By AI agents, Wed Nov 11 2026. No macro, syntax, notation, axiom, sorry.
-/
import Derived.Test.YtbjiknfebocepaaDoorRows
import GoSem.ClaimSeven
namespace Go.Proofs.YtbjiknfebocepaaDoor
namespace Rows

/-- THE TIED CARD OF 'quittancelaw03.WholeContents'. -/
def wholeContentsCard : Claim7 := { stood := { row := wholeContentsRow, standIns := [], harness := (true, "c35c5bf0fe31043ffa6769f26dd9e957451aedf825e81c9e99f66942a9c9d7de"), looks := false }, kinds := [], alts := [], laidByText := true, laidKinds := [.data, .data, .data], laidTests := true, laidLooks := .later }
def WholeContentsCardSaid : Prop := Claim7.holds Tryd.pinned (.plain (OpenSpec.ofChange wholeContentsSpec)) wholeContentsCard

/-- THE TIED CARD OF 'quittancelaw03.WholeInts'. -/
def wholeIntsCard : Claim7 := { stood := { row := wholeIntsRow, standIns := [], harness := (true, "c35c5bf0fe31043ffa6769f26dd9e957451aedf825e81c9e99f66942a9c9d7de"), looks := false }, kinds := [], alts := [], laidByText := true, laidKinds := [.data, .data, .data], laidTests := true, laidLooks := .later }
def WholeIntsCardSaid : Prop := Claim7.holds Tryd.pinned (.plain (OpenSpec.ofChange wholeIntsSpec)) wholeIntsCard

/-- THE TIED CARD OF 'quittancelaw03.WholeSums'. -/
def wholeSumsCard : Claim7 := { stood := { row := wholeSumsRow, standIns := [], harness := (true, "c35c5bf0fe31043ffa6769f26dd9e957451aedf825e81c9e99f66942a9c9d7de"), looks := false }, kinds := [], alts := [], laidByText := true, laidKinds := [.data, .data, .data], laidTests := true, laidLooks := .later }
def WholeSumsCardSaid : Prop := Claim7.holds Tryd.pinned (.plain (OpenSpec.ofChange wholeSumsSpec)) wholeSumsCard

/-- THE TIED CARD OF 'quittancelaw03.WholeRules'. -/
def wholeRulesCard : Claim7 := { stood := { row := wholeRulesRow, standIns := [], harness := (true, "c35c5bf0fe31043ffa6769f26dd9e957451aedf825e81c9e99f66942a9c9d7de"), looks := false }, kinds := [], alts := [], laidByText := true, laidKinds := [.data, .data, .data], laidTests := true, laidLooks := .later }
def WholeRulesCardSaid : Prop := Claim7.holds Tryd.pinned (.plain (OpenSpec.ofChange wholeRulesSpec)) wholeRulesCard

/-- THE TIED CARD OF 'quittancelaw03.WholeTexts'. -/
def wholeTextsCard : Claim7 := { stood := { row := wholeTextsRow, standIns := [], harness := (true, "c35c5bf0fe31043ffa6769f26dd9e957451aedf825e81c9e99f66942a9c9d7de"), looks := false }, kinds := [], alts := [], laidByText := true, laidKinds := [.data, .data, .data], laidTests := true, laidLooks := .later }
def WholeTextsCardSaid : Prop := Claim7.holds Tryd.pinned (.plain (OpenSpec.ofChange wholeTextsSpec)) wholeTextsCard

/-- THE SECOND FORM's CARD OF 'quittancelaw03.WholeContents'. -/
def wholeContentsUptoCard : Claim7 := { stood := { row := wholeContentsUptoRow, standIns := [], harness := (true, "c35c5bf0fe31043ffa6769f26dd9e957451aedf825e81c9e99f66942a9c9d7de"), looks := false }, kinds := [], alts := [], laidByText := true, laidKinds := [.data, .data, .data], laidTests := true, laidLooks := .later }
def WholeContentsUptoCardSaid : Prop := Claim7.holds Tryd.pinned (.plain (OpenSpec.upto wholeContentsSpec)) wholeContentsUptoCard

/-- THE SECOND FORM's CARD OF 'quittancelaw03.WholeInts'. -/
def wholeIntsUptoCard : Claim7 := { stood := { row := wholeIntsUptoRow, standIns := [], harness := (true, "c35c5bf0fe31043ffa6769f26dd9e957451aedf825e81c9e99f66942a9c9d7de"), looks := false }, kinds := [], alts := [], laidByText := true, laidKinds := [.data, .data, .data], laidTests := true, laidLooks := .later }
def WholeIntsUptoCardSaid : Prop := Claim7.holds Tryd.pinned (.plain (OpenSpec.upto wholeIntsSpec)) wholeIntsUptoCard

/-- THE SECOND FORM's CARD OF 'quittancelaw03.WholeSums'. -/
def wholeSumsUptoCard : Claim7 := { stood := { row := wholeSumsUptoRow, standIns := [], harness := (true, "c35c5bf0fe31043ffa6769f26dd9e957451aedf825e81c9e99f66942a9c9d7de"), looks := false }, kinds := [], alts := [], laidByText := true, laidKinds := [.data, .data, .data], laidTests := true, laidLooks := .later }
def WholeSumsUptoCardSaid : Prop := Claim7.holds Tryd.pinned (.plain (OpenSpec.upto wholeSumsSpec)) wholeSumsUptoCard

/-- THE SECOND FORM's CARD OF 'quittancelaw03.WholeRules'. -/
def wholeRulesUptoCard : Claim7 := { stood := { row := wholeRulesUptoRow, standIns := [], harness := (true, "c35c5bf0fe31043ffa6769f26dd9e957451aedf825e81c9e99f66942a9c9d7de"), looks := false }, kinds := [], alts := [], laidByText := true, laidKinds := [.data, .data, .data], laidTests := true, laidLooks := .later }
def WholeRulesUptoCardSaid : Prop := Claim7.holds Tryd.pinned (.plain (OpenSpec.upto wholeRulesSpec)) wholeRulesUptoCard

/-- THE SECOND FORM's CARD OF 'quittancelaw03.WholeTexts'. -/
def wholeTextsUptoCard : Claim7 := { stood := { row := wholeTextsUptoRow, standIns := [], harness := (true, "c35c5bf0fe31043ffa6769f26dd9e957451aedf825e81c9e99f66942a9c9d7de"), looks := false }, kinds := [], alts := [], laidByText := true, laidKinds := [.data, .data, .data], laidTests := true, laidLooks := .later }
def WholeTextsUptoCardSaid : Prop := Claim7.holds Tryd.pinned (.plain (OpenSpec.upto wholeTextsSpec)) wholeTextsUptoCard
end Rows
end Go.Proofs.YtbjiknfebocepaaDoor
