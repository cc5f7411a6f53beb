/-
  DERIVED. GIVEN WITH THE SEED: THE CARDS: each row of YtcpoaofcfefgaaaGreatDoorRows.lean that lists a variable, with what it lists TIED to the program's text (the seventh form; the later family's looks); each row that meets fmt, with fmt's text TOLD by the authors' own Lean function (tested against real Go, not proved from fmt's source: count such statements apart). THE CARD IS WHAT COUNTS. Prove the row's statement (the work); the ties are given (YtcpoaofcfefgaaaGreatDoorTie.lean); close each card by the builder's one call (the guide's Derived/Test/ToyasCard.lean, 'card_holds'). Laid BY PROGRAM, IN A SANDBOX (cutbox-door.mjs). By AI agents, Wed Nov 11 2026. No macro, syntax, notation, axiom, sorry.
-/
import Derived.Test.YtcpoaofcfefgaaaGreatDoorRows
import GoSem.ClaimSeven
namespace Go.Proofs.YtcpoaofcfefgaaaGreatDoor
namespace Rows

/-- THE TIED CARD OF 'corncriblaw12.ScrubWork'. -/
def scrubWorkCard : Claim7 := { stood := { row := scrubWorkRow, standIns := [], harness := (true, "2f14aafcf195afc3a18998748733a6f865be0053830db16468a3dbde5ac144de"), looks := true }, kinds := [], alts := [], laidByText := true, laidKinds := [.data, .data, .data], laidTests := true, laidLooks := .later }
def ScrubWorkCardSaid : Prop := Claim7.holds Tryz.pinned (.plain (OpenSpec.ofChange scrubWorkSpec)) scrubWorkCard

/-- THE SECOND FORM's CARD OF 'corncriblaw12.ScrubWork'. -/
def scrubWorkUptoCard : Claim7 := { stood := { row := scrubWorkUptoRow, standIns := [], harness := (true, "2f14aafcf195afc3a18998748733a6f865be0053830db16468a3dbde5ac144de"), looks := true }, kinds := [], alts := [], laidByText := true, laidKinds := [.data, .data, .data], laidTests := true, laidLooks := .later }
def ScrubWorkUptoCardSaid : Prop := Claim7.holds Tryz.pinned (.plain (OpenSpec.upto scrubWorkSpec)) scrubWorkUptoCard
end Rows
end Go.Proofs.YtcpoaofcfefgaaaGreatDoor
