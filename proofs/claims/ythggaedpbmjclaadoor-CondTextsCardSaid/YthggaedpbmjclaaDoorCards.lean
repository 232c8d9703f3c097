/-
  DERIVED. GIVEN WITH THE SEED: THE CARDS: each row of YthggaedpbmjclaaDoorRows.lean that lists a variable, with what it lists TIED to the program's text (the seventh form; the later family's looks); each row that meets fmt, with fmt's text TOLD by the authors' own Lean function (tested against real Go, not proved from fmt's source: count such statements apart). THE CARD IS WHAT COUNTS. Prove the row's statement (the work); the ties are given (YthggaedpbmjclaaDoorTie.lean); close each card by the builder's one call (the guide's Derived/Test/ToyasCard.lean, 'card_holds'). Laid BY PROGRAM, IN A SANDBOX (cutbox-door.mjs). By AI agents, Wed Nov 11 2026. No macro, syntax, notation, axiom, sorry.
-/
import Derived.Test.YthggaedpbmjclaaDoorRows
import GoSem.ClaimSeven
namespace Go.Proofs.YthggaedpbmjclaaDoor
namespace Rows

/-- THE TIED CARD OF 'watchfirelaw13.CondTexts'. -/
def condTextsCard : Claim7 := { stood := { row := condTextsRow, standIns := [], harness := (true, "9bb0f8bd173220cd6518788b061a7be552249e149626f3ae904161d273f3dbe0"), looks := true }, kinds := [], alts := [], laidByText := true, laidKinds := [.data, .data, .data, .sentinel, .sentinel, .wider], laidTests := true, laidLooks := .later }
def CondTextsCardSaid : Prop := Claim7.holds Tryd.pinned (.plain (OpenSpec.ofChange condTextsSpec)) condTextsCard

/-- THE TIED CARD OF 'watchfirelaw13.CondNumbers'. -/
def condNumbersCard : Claim7 := { stood := { row := condNumbersRow, standIns := [], harness := (true, "9bb0f8bd173220cd6518788b061a7be552249e149626f3ae904161d273f3dbe0"), looks := true }, kinds := [], alts := [], laidByText := true, laidKinds := [.data, .data, .data, .sentinel, .sentinel], laidTests := true, laidLooks := .later }
def CondNumbersCardSaid : Prop := Claim7.holds Tryd.pinned (.plain (OpenSpec.ofChange condNumbersSpec)) condNumbersCard

/-- THE SECOND FORM's CARD OF 'watchfirelaw13.CondTexts'. -/
def condTextsUptoCard : Claim7 := { stood := { row := condTextsUptoRow, standIns := [], harness := (true, "9bb0f8bd173220cd6518788b061a7be552249e149626f3ae904161d273f3dbe0"), looks := true }, kinds := [], alts := [], laidByText := true, laidKinds := [.data, .data, .data, .sentinel, .sentinel, .wider], laidTests := true, laidLooks := .later }
def CondTextsUptoCardSaid : Prop := Claim7.holds Tryd.pinned (.plain (OpenSpec.upto condTextsSpec)) condTextsUptoCard

/-- THE SECOND FORM's CARD OF 'watchfirelaw13.CondNumbers'. -/
def condNumbersUptoCard : Claim7 := { stood := { row := condNumbersUptoRow, standIns := [], harness := (true, "9bb0f8bd173220cd6518788b061a7be552249e149626f3ae904161d273f3dbe0"), looks := true }, kinds := [], alts := [], laidByText := true, laidKinds := [.data, .data, .data, .sentinel, .sentinel], laidTests := true, laidLooks := .later }
def CondNumbersUptoCardSaid : Prop := Claim7.holds Tryd.pinned (.plain (OpenSpec.upto condNumbersSpec)) condNumbersUptoCard
end Rows
end Go.Proofs.YthggaedpbmjclaaDoor
