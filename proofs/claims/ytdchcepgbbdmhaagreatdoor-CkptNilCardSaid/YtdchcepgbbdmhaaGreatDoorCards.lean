/-
  DERIVED. GIVEN WITH THE SEED: THE CARDS: each row of YtdchcepgbbdmhaaGreatDoorRows.lean that lists a variable, with what it lists TIED to the program's text (the seventh form; the later family's looks); each row that meets fmt, with fmt's text TOLD by the authors' own Lean function (tested against real Go, not proved from fmt's source: count such statements apart). THE CARD IS WHAT COUNTS. Prove the row's statement (the work); the ties are given (YtdchcepgbbdmhaaGreatDoorTie.lean); close each card by the builder's one call (the guide's Derived/Test/ToyasCard.lean, 'card_holds'). Laid BY PROGRAM, IN A SANDBOX (cutbox-door.mjs). By AI agents, Wed Nov 11 2026. No macro, syntax, notation, axiom, sorry.
-/
import Derived.Test.YtdchcepgbbdmhaaGreatDoorRows
import GoSem.ClaimSeven
namespace Go.Proofs.YtdchcepgbbdmhaaGreatDoor
namespace Rows

/-- THE TIED CARD OF 'corncriblaw10.CkptNil'. -/
def ckptNilCard : Claim7 := { stood := { row := ckptNilRow, standIns := [], harness := (true, "f0b3d7fd7a4aaff742299945f104f67d2f22729fa2e9dbb6725fb89cf6eb1f54"), looks := true }, kinds := [], alts := [], laidByText := true, laidKinds := [.data, .data, .data], laidTests := true, laidLooks := .later }
def CkptNilCardSaid : Prop := Claim7.holds Tryz.pinned (.plain (OpenSpec.ofChange ckptNilSpec)) ckptNilCard

/-- THE SECOND FORM's CARD OF 'corncriblaw10.CkptNil'. -/
def ckptNilUptoCard : Claim7 := { stood := { row := ckptNilUptoRow, standIns := [], harness := (true, "f0b3d7fd7a4aaff742299945f104f67d2f22729fa2e9dbb6725fb89cf6eb1f54"), looks := true }, kinds := [], alts := [], laidByText := true, laidKinds := [.data, .data, .data], laidTests := true, laidLooks := .later }
def CkptNilUptoCardSaid : Prop := Claim7.holds Tryz.pinned (.plain (OpenSpec.upto ckptNilSpec)) ckptNilUptoCard
end Rows
end Go.Proofs.YtdchcepgbbdmhaaGreatDoor
