/-
  DERIVED. GIVEN WITH THE SEED: THE CARDS: each row of YtllbngopfganjaaGreatDoorRows.lean that lists a variable, with what it lists TIED to the program's text (the seventh form; the later family's looks); each row that meets fmt, with fmt's text TOLD by the authors' own Lean function (tested against real Go, not proved from fmt's source: count such statements apart). THE CARD IS WHAT COUNTS. Prove the row's statement (the work); the ties are given (YtllbngopfganjaaGreatDoorTie.lean); close each card by the builder's one call (the guide's Derived/Test/ToyasCard.lean, 'card_holds'). Laid BY PROGRAM, IN A SANDBOX (cutbox-door.mjs). By AI agents, Wed Nov 11 2026. No macro, syntax, notation, axiom, sorry.
-/
import Derived.Test.YtllbngopfganjaaGreatDoorRows
import GoSem.ClaimSeven
namespace Go.Proofs.YtllbngopfganjaaGreatDoor
namespace Rows

/-- THE TIED CARD OF 'corncriblaw17.NodeOnce'. -/
def nodeOnceCard : Claim7 := { stood := { row := nodeOnceRow, standIns := [], harness := (true, "5ecffffcd9a197af4f20465e32f30305db82f88b6401fe77b17e52d43f6a9bce"), looks := true }, kinds := [], alts := [], laidByText := true, laidKinds := [.data, .data, .data, .handle], laidTests := true, laidLooks := .later }
def NodeOnceCardSaid : Prop := Claim7.holds Tryz.pinned (.plain (OpenSpec.ofChange nodeOnceSpec)) nodeOnceCard

/-- THE SECOND FORM's CARD OF 'corncriblaw17.NodeOnce'. -/
def nodeOnceUptoCard : Claim7 := { stood := { row := nodeOnceUptoRow, standIns := [], harness := (true, "5ecffffcd9a197af4f20465e32f30305db82f88b6401fe77b17e52d43f6a9bce"), looks := true }, kinds := [], alts := [], laidByText := true, laidKinds := [.data, .data, .data, .handle], laidTests := true, laidLooks := .later }
def NodeOnceUptoCardSaid : Prop := Claim7.holds Tryz.pinned (.plain (OpenSpec.upto nodeOnceSpec)) nodeOnceUptoCard
end Rows
end Go.Proofs.YtllbngopfganjaaGreatDoor
