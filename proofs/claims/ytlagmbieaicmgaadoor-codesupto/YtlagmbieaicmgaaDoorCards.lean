/-
  DERIVED. GIVEN WITH THE SEED: THE CARDS: each row of YtlagmbieaicmgaaDoorRows.lean that lists a variable, with what it lists TIED to the program's text (the seventh form; the later family's looks); each row that meets fmt, with fmt's text TOLD by the authors' own Lean function (tested against real Go, not proved from fmt's source: count such statements apart). THE CARD IS WHAT COUNTS. Prove the row's statement (the work); the ties are given (YtlagmbieaicmgaaDoorTie.lean); close each card by the builder's one call (the guide's Derived/Test/ToyasCard.lean, 'card_holds'). Laid BY PROGRAM, IN A SANDBOX (cutbox-door.mjs). By AI agents, Wed Nov 11 2026. No macro, syntax, notation, axiom, sorry.
-/
import Derived.Test.YtlagmbieaicmgaaDoorRows
import GoSem.ClaimSeven
namespace Go.Proofs.YtlagmbieaicmgaaDoor
namespace Rows

/-- THE TIED CARD OF 'pactlaw.Codes'. -/
def codesCard : Claim7 := { stood := { row := codesRow, standIns := [], harness := (true, "4f1d6c390703747551ad7183415b69e6865c9d40f627b711a5c971cf46db9c26"), looks := true }, kinds := [], alts := [], laidByText := true, laidKinds := [.data], laidTests := true, laidLooks := .later }
def CodesCardSaid : Prop := Claim7.holds Tryd.pinned (.plain (OpenSpec.ofChange codesSpec)) codesCard

/-- THE TIED CARD OF 'pactkeep.Framed'. -/
def framedCard : Claim7 := { stood := { row := framedRow, standIns := [], harness := (true, "4f1d6c390703747551ad7183415b69e6865c9d40f627b711a5c971cf46db9c26"), looks := true }, kinds := [], alts := [], laidByText := true, laidKinds := [.data], laidTests := true, laidLooks := .later }
def FramedCardSaid : Prop := Claim7.holds Tryd.pinned (.plain (OpenSpec.ofChange framedSpec)) framedCard

/-- THE SECOND FORM's CARD OF 'pactlaw.Codes'. -/
def codesUptoCard : Claim7 := { stood := { row := codesUptoRow, standIns := [], harness := (true, "4f1d6c390703747551ad7183415b69e6865c9d40f627b711a5c971cf46db9c26"), looks := true }, kinds := [], alts := [], laidByText := true, laidKinds := [.data], laidTests := true, laidLooks := .later }
def CodesUptoCardSaid : Prop := Claim7.holds Tryd.pinned (.plain (OpenSpec.upto codesSpec)) codesUptoCard

/-- THE SECOND FORM's CARD OF 'pactkeep.Framed'. -/
def framedUptoCard : Claim7 := { stood := { row := framedUptoRow, standIns := [], harness := (true, "4f1d6c390703747551ad7183415b69e6865c9d40f627b711a5c971cf46db9c26"), looks := true }, kinds := [], alts := [], laidByText := true, laidKinds := [.data], laidTests := true, laidLooks := .later }
def FramedUptoCardSaid : Prop := Claim7.holds Tryd.pinned (.plain (OpenSpec.upto framedSpec)) framedUptoCard
end Rows
end Go.Proofs.YtlagmbieaicmgaaDoor
