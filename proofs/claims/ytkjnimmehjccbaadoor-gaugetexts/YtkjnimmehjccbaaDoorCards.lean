/-
  DERIVED. GIVEN WITH THE SEED: THE CARDS: each row of YtkjnimmehjccbaaDoorRows.lean that lists a variable, with what it lists TIED to the program's text (the seventh form; the later family's looks); each row that meets fmt, with fmt's text TOLD by the authors' own Lean function (tested against real Go, not proved from fmt's source: count such statements apart). THE CARD IS WHAT COUNTS. Prove the row's statement (the work); the ties are given (YtkjnimmehjccbaaDoorTie.lean); close each card by the builder's one call (the guide's Derived/Test/ToyasCard.lean, 'card_holds'). Laid BY PROGRAM, IN A SANDBOX (cutbox-door.mjs). By AI agents, Wed Nov 11 2026. No macro, syntax, notation, axiom, sorry.
-/
import Derived.Test.YtkjnimmehjccbaaDoorRows
import GoSem.ClaimSeven
namespace Go.Proofs.YtkjnimmehjccbaaDoor
namespace Rows

/-- THE TIED CARD OF 'weathervanelaw04.GaugeShares'. -/
def gaugeSharesCard : Claim7 := { stood := { row := gaugeSharesRow, standIns := [], harness := (true, "281d7ac69f51d713f2678dc58e4326bcd6e1186a1fa48f6e9cd4c2153cb28f7a"), looks := false }, kinds := [], alts := [], laidByText := true, laidKinds := [.data, .data, .data], laidTests := true, laidLooks := .later }
def GaugeSharesCardSaid : Prop := Claim7.holds Tryd.pinned (.plain (OpenSpec.ofChange gaugeSharesSpec)) gaugeSharesCard

/-- THE TIED CARD OF 'weathervanelaw04.GaugeMeans'. -/
def gaugeMeansCard : Claim7 := { stood := { row := gaugeMeansRow, standIns := [], harness := (true, "281d7ac69f51d713f2678dc58e4326bcd6e1186a1fa48f6e9cd4c2153cb28f7a"), looks := false }, kinds := [], alts := [], laidByText := true, laidKinds := [.data, .data, .data], laidTests := true, laidLooks := .later }
def GaugeMeansCardSaid : Prop := Claim7.holds Tryd.pinned (.plain (OpenSpec.ofChange gaugeMeansSpec)) gaugeMeansCard

/-- THE TIED CARD OF 'weathervanelaw04.GaugeOrders'. -/
def gaugeOrdersCard : Claim7 := { stood := { row := gaugeOrdersRow, standIns := [], harness := (true, "281d7ac69f51d713f2678dc58e4326bcd6e1186a1fa48f6e9cd4c2153cb28f7a"), looks := false }, kinds := [], alts := [], laidByText := true, laidKinds := [.data, .data, .data], laidTests := true, laidLooks := .later }
def GaugeOrdersCardSaid : Prop := Claim7.holds Tryd.pinned (.plain (OpenSpec.ofChange gaugeOrdersSpec)) gaugeOrdersCard

/-- THE TIED CARD OF 'weathervanelaw04.GaugeBest'. -/
def gaugeBestCard : Claim7 := { stood := { row := gaugeBestRow, standIns := [], harness := (true, "281d7ac69f51d713f2678dc58e4326bcd6e1186a1fa48f6e9cd4c2153cb28f7a"), looks := false }, kinds := [], alts := [], laidByText := true, laidKinds := [.data, .data, .data], laidTests := true, laidLooks := .later }
def GaugeBestCardSaid : Prop := Claim7.holds Tryd.pinned (.plain (OpenSpec.ofChange gaugeBestSpec)) gaugeBestCard

/-- THE TIED CARD OF 'weathervanelaw04.GaugeTexts'. -/
def gaugeTextsCard : Claim7 := { stood := { row := gaugeTextsRow, standIns := [], harness := (true, "281d7ac69f51d713f2678dc58e4326bcd6e1186a1fa48f6e9cd4c2153cb28f7a"), looks := false }, kinds := [], alts := [], laidByText := true, laidKinds := [.data, .data, .data], laidTests := true, laidLooks := .later }
def GaugeTextsCardSaid : Prop := Claim7.holds Tryd.pinned (.plain (OpenSpec.ofChange gaugeTextsSpec)) gaugeTextsCard

/-- THE TIED CARD OF 'weathervanelaw04.GaugeSame'. -/
def gaugeSameCard : Claim7 := { stood := { row := gaugeSameRow, standIns := [], harness := (true, "281d7ac69f51d713f2678dc58e4326bcd6e1186a1fa48f6e9cd4c2153cb28f7a"), looks := false }, kinds := [], alts := [], laidByText := true, laidKinds := [.data, .data, .data], laidTests := true, laidLooks := .later }
def GaugeSameCardSaid : Prop := Claim7.holds Tryd.pinned (.plain (OpenSpec.ofChange gaugeSameSpec)) gaugeSameCard

/-- THE TIED CARD OF 'weathervanelaw04.GaugeSigns'. -/
def gaugeSignsCard : Claim7 := { stood := { row := gaugeSignsRow, standIns := [], harness := (true, "281d7ac69f51d713f2678dc58e4326bcd6e1186a1fa48f6e9cd4c2153cb28f7a"), looks := false }, kinds := [], alts := [], laidByText := true, laidKinds := [.data, .data, .data], laidTests := true, laidLooks := .later }
def GaugeSignsCardSaid : Prop := Claim7.holds Tryd.pinned (.plain (OpenSpec.ofChange gaugeSignsSpec)) gaugeSignsCard

/-- THE SECOND FORM's CARD OF 'weathervanelaw04.GaugeShares'. -/
def gaugeSharesUptoCard : Claim7 := { stood := { row := gaugeSharesUptoRow, standIns := [], harness := (true, "281d7ac69f51d713f2678dc58e4326bcd6e1186a1fa48f6e9cd4c2153cb28f7a"), looks := false }, kinds := [], alts := [], laidByText := true, laidKinds := [.data, .data, .data], laidTests := true, laidLooks := .later }
def GaugeSharesUptoCardSaid : Prop := Claim7.holds Tryd.pinned (.plain (OpenSpec.upto gaugeSharesSpec)) gaugeSharesUptoCard

/-- THE SECOND FORM's CARD OF 'weathervanelaw04.GaugeMeans'. -/
def gaugeMeansUptoCard : Claim7 := { stood := { row := gaugeMeansUptoRow, standIns := [], harness := (true, "281d7ac69f51d713f2678dc58e4326bcd6e1186a1fa48f6e9cd4c2153cb28f7a"), looks := false }, kinds := [], alts := [], laidByText := true, laidKinds := [.data, .data, .data], laidTests := true, laidLooks := .later }
def GaugeMeansUptoCardSaid : Prop := Claim7.holds Tryd.pinned (.plain (OpenSpec.upto gaugeMeansSpec)) gaugeMeansUptoCard

/-- THE SECOND FORM's CARD OF 'weathervanelaw04.GaugeOrders'. -/
def gaugeOrdersUptoCard : Claim7 := { stood := { row := gaugeOrdersUptoRow, standIns := [], harness := (true, "281d7ac69f51d713f2678dc58e4326bcd6e1186a1fa48f6e9cd4c2153cb28f7a"), looks := false }, kinds := [], alts := [], laidByText := true, laidKinds := [.data, .data, .data], laidTests := true, laidLooks := .later }
def GaugeOrdersUptoCardSaid : Prop := Claim7.holds Tryd.pinned (.plain (OpenSpec.upto gaugeOrdersSpec)) gaugeOrdersUptoCard

/-- THE SECOND FORM's CARD OF 'weathervanelaw04.GaugeBest'. -/
def gaugeBestUptoCard : Claim7 := { stood := { row := gaugeBestUptoRow, standIns := [], harness := (true, "281d7ac69f51d713f2678dc58e4326bcd6e1186a1fa48f6e9cd4c2153cb28f7a"), looks := false }, kinds := [], alts := [], laidByText := true, laidKinds := [.data, .data, .data], laidTests := true, laidLooks := .later }
def GaugeBestUptoCardSaid : Prop := Claim7.holds Tryd.pinned (.plain (OpenSpec.upto gaugeBestSpec)) gaugeBestUptoCard

/-- THE SECOND FORM's CARD OF 'weathervanelaw04.GaugeTexts'. -/
def gaugeTextsUptoCard : Claim7 := { stood := { row := gaugeTextsUptoRow, standIns := [], harness := (true, "281d7ac69f51d713f2678dc58e4326bcd6e1186a1fa48f6e9cd4c2153cb28f7a"), looks := false }, kinds := [], alts := [], laidByText := true, laidKinds := [.data, .data, .data], laidTests := true, laidLooks := .later }
def GaugeTextsUptoCardSaid : Prop := Claim7.holds Tryd.pinned (.plain (OpenSpec.upto gaugeTextsSpec)) gaugeTextsUptoCard

/-- THE SECOND FORM's CARD OF 'weathervanelaw04.GaugeSame'. -/
def gaugeSameUptoCard : Claim7 := { stood := { row := gaugeSameUptoRow, standIns := [], harness := (true, "281d7ac69f51d713f2678dc58e4326bcd6e1186a1fa48f6e9cd4c2153cb28f7a"), looks := false }, kinds := [], alts := [], laidByText := true, laidKinds := [.data, .data, .data], laidTests := true, laidLooks := .later }
def GaugeSameUptoCardSaid : Prop := Claim7.holds Tryd.pinned (.plain (OpenSpec.upto gaugeSameSpec)) gaugeSameUptoCard

/-- THE SECOND FORM's CARD OF 'weathervanelaw04.GaugeSigns'. -/
def gaugeSignsUptoCard : Claim7 := { stood := { row := gaugeSignsUptoRow, standIns := [], harness := (true, "281d7ac69f51d713f2678dc58e4326bcd6e1186a1fa48f6e9cd4c2153cb28f7a"), looks := false }, kinds := [], alts := [], laidByText := true, laidKinds := [.data, .data, .data], laidTests := true, laidLooks := .later }
def GaugeSignsUptoCardSaid : Prop := Claim7.holds Tryd.pinned (.plain (OpenSpec.upto gaugeSignsSpec)) gaugeSignsUptoCard
end Rows
end Go.Proofs.YtkjnimmehjccbaaDoor
