/-
  No cell of these rows narrows 'for every input' (looked for: loops, veiled, ifaces, maps, wideKeys, modest, calm, conditions, laid).
  DERIVED. THE GIVEN ROWS OF THIS SEAT. 3 by the template 'for every input the law returns true; each argument reads behind the call as it read before'; 0 by the template 'total and deterministic' (their statements: YtoebjfkmhdnkfaaTotals.lean).
  GIVEN WITH THE SEED: the statements are not yours to turn. If you find one false, say at which input.
  Laid BY PROGRAM, IN A SANDBOX (cutbox-rows.mjs): the forced cells as the released guide's own fill.sh prints them over the translation c5198d090d55ef5b… (all of the seat's roots in one cut). By AI agents, Wed Nov 11 2026. No macro, syntax, notation, axiom, sorry.
-/
import Derived.Test.YtoebjfkmhdnkfaaChecked
import GoSem.Claim
import GoSem.ClaimJoined
import GoSem.ClaimMapViews
import Derived.JoinedTies
import Derived.KernelRfl
namespace Go.Proofs.Ytoebjfkmhdnkfaa
/- THE CELL 'sum', in the pinned program and in every row, IS THE sha256 OF THE DUMP (.gsa) THAT YtoebjfkmhdnkfaaProg.lean LOADS. Nothing in Lean hashes anything: it is a label: what it is worth is what the hold of that sum in a sandbox is worth. -/
noncomputable def Try.pinned : Pinned := { name := "ytoebjfkmhdnkfaa", sum := "c5198d090d55ef5b5211edcd24ddb4ec19a66ad870c2179bf8553df602a86f9c", checked := Try.checked }
namespace Rows
def none {H : Type} : Left H := { results := [], args := [] }

/-- 'corncriblaw18.LeaseTwo': WHATEVER THE INPUT: true; the input reads as it did. -/
def leaseTwoSpec : ChangeSpec := { name := "leaseTwo", fn := fun _ => fun
  | [d1, d2] => { results := [.lit (.bool true)], args := [d1, d2] }
  | _ => none }
def leaseTwoRow : OpenClaim := { program := "ytoebjfkmhdnkfaa", sum := "c5198d090d55ef5b5211edcd24ddb4ec19a66ad870c2179bf8553df602a86f9c", func := "corncrib/corncriblaw18.LeaseTwo", spec := "leaseTwo", inPlace := ["internal/reflectlite.TypeOf"], unfollowed := true, recurses := true, apart := false }
def LeaseTwoSaid : Prop := leaseTwoRow.holds Try.pinned (OpenSpec.ofChange leaseTwoSpec)

/-- ITS FALSE NEIGHBOUR: 'it returns false'. Refute it at one input. -/
def leaseTwoWrong : ChangeSpec := { name := "leaseTwo", fn := fun _ => fun
  | [d1, d2] => { results := [.lit (.bool false)], args := [d1, d2] }
  | _ => none }
def LeaseTwoWrongFalsely : Prop := leaseTwoRow.holds Try.pinned (OpenSpec.ofChange leaseTwoWrong)

/-- 'corncriblaw18.LeaseLong': WHATEVER THE INPUT: true; the input reads as it did. -/
def leaseLongSpec : ChangeSpec := { name := "leaseLong", fn := fun _ => fun
  | [d1, d2] => { results := [.lit (.bool true)], args := [d1, d2] }
  | _ => none }
def leaseLongRow : OpenClaim := { program := "ytoebjfkmhdnkfaa", sum := "c5198d090d55ef5b5211edcd24ddb4ec19a66ad870c2179bf8553df602a86f9c", func := "corncrib/corncriblaw18.LeaseLong", spec := "leaseLong", inPlace := ["internal/reflectlite.TypeOf"], unfollowed := true, recurses := true, apart := false }
def LeaseLongSaid : Prop := leaseLongRow.holds Try.pinned (OpenSpec.ofChange leaseLongSpec)

/-- ITS FALSE NEIGHBOUR: 'it returns false'. Refute it at one input. -/
def leaseLongWrong : ChangeSpec := { name := "leaseLong", fn := fun _ => fun
  | [d1, d2] => { results := [.lit (.bool false)], args := [d1, d2] }
  | _ => none }
def LeaseLongWrongFalsely : Prop := leaseLongRow.holds Try.pinned (OpenSpec.ofChange leaseLongWrong)

/-- 'corncriblaw18.LeaseTurns': WHATEVER THE INPUT: true; the input reads as it did. -/
def leaseTurnsSpec : ChangeSpec := { name := "leaseTurns", fn := fun _ => fun
  | [d1, d2] => { results := [.lit (.bool true)], args := [d1, d2] }
  | _ => none }
def leaseTurnsRow : OpenClaim := { program := "ytoebjfkmhdnkfaa", sum := "c5198d090d55ef5b5211edcd24ddb4ec19a66ad870c2179bf8553df602a86f9c", func := "corncrib/corncriblaw18.LeaseTurns", spec := "leaseTurns", inPlace := ["internal/reflectlite.TypeOf"], unfollowed := true, recurses := true, apart := false }
def LeaseTurnsSaid : Prop := leaseTurnsRow.holds Try.pinned (OpenSpec.ofChange leaseTurnsSpec)

/-- ITS FALSE NEIGHBOUR: 'it returns false'. Refute it at one input. -/
def leaseTurnsWrong : ChangeSpec := { name := "leaseTurns", fn := fun _ => fun
  | [d1, d2] => { results := [.lit (.bool false)], args := [d1, d2] }
  | _ => none }
def LeaseTurnsWrongFalsely : Prop := leaseTurnsRow.holds Try.pinned (OpenSpec.ofChange leaseTurnsWrong)

/- THE SECOND FORM. 'bulk': how many values and letters a reading holds, each counted each time it is reached (what is shared counts as often as it is met; a slice's spare places count too). A statement '..UptoSaid' is the law's where the arguments, and the package variables that the reading takes, are together of bulk at most 1048576: NARROWER than '..Said'. Prove '..Said' where nothing that the law and all that it calls make is longer than what came in: it says more and counts as full. Else prove '..UptoSaid'. A law counts once. -/
mutual
def uptoBulk {H : Type} : DataW H → Nat
  | .lit (.string bytes) => bytes.length + 1
  | .lit _ => 1
  | .nil => 1
  | .ptr d => uptoBulk d + 1
  | .slice elems spare => uptoBulkAll elems + uptoBulkAll spare + 1
  | .agg parts => uptoBulkAll parts + 1
  | .iface _ d => uptoBulk d + 1
  | .map entries => uptoBulkEntries entries + 1
  | .held _ => 1
def uptoBulkAll {H : Type} : List (DataW H) → Nat
  | [] => 0
  | d :: r => uptoBulk d + uptoBulkAll r
def uptoBulkEntries {H : Type} : List (Lit × DataW H) → Nat
  | [] => 0
  | x :: r => uptoBulkEntry x + uptoBulkEntries r
def uptoBulkEntry {H : Type} : Lit × DataW H → Nat
  | (.string bytes, d) => bytes.length + uptoBulk d + 1
  | (_, d) => uptoBulk d + 1
 end
def uptoSmall : (H : Type) → List (DataW H) → Bool := fun _ ds => decide (uptoBulkAll ds ≤ 1048576)
def OpenSpec.upto (s : _root_.Go.ChangeSpec) : _root_.Go.OpenSpec := { _root_.Go.OpenSpec.ofChange s with cond := some uptoSmall }

/-- 'corncriblaw18.LeaseTwo', WHERE WHAT IT READS IS OF BULK AT MOST 1048576: true; the input reads as it did. -/
def leaseTwoUptoRow : OpenClaim := { program := "ytoebjfkmhdnkfaa", sum := "c5198d090d55ef5b5211edcd24ddb4ec19a66ad870c2179bf8553df602a86f9c", func := "corncrib/corncriblaw18.LeaseTwo", spec := "leaseTwo", inPlace := ["internal/reflectlite.TypeOf"], unfollowed := true, recurses := true, apart := false, narrowed := true }
def LeaseTwoUptoSaid : Prop := leaseTwoUptoRow.holds Try.pinned (OpenSpec.upto leaseTwoSpec)

/-- 'corncriblaw18.LeaseLong', WHERE WHAT IT READS IS OF BULK AT MOST 1048576: true; the input reads as it did. -/
def leaseLongUptoRow : OpenClaim := { program := "ytoebjfkmhdnkfaa", sum := "c5198d090d55ef5b5211edcd24ddb4ec19a66ad870c2179bf8553df602a86f9c", func := "corncrib/corncriblaw18.LeaseLong", spec := "leaseLong", inPlace := ["internal/reflectlite.TypeOf"], unfollowed := true, recurses := true, apart := false, narrowed := true }
def LeaseLongUptoSaid : Prop := leaseLongUptoRow.holds Try.pinned (OpenSpec.upto leaseLongSpec)

/-- 'corncriblaw18.LeaseTurns', WHERE WHAT IT READS IS OF BULK AT MOST 1048576: true; the input reads as it did. -/
def leaseTurnsUptoRow : OpenClaim := { program := "ytoebjfkmhdnkfaa", sum := "c5198d090d55ef5b5211edcd24ddb4ec19a66ad870c2179bf8553df602a86f9c", func := "corncrib/corncriblaw18.LeaseTurns", spec := "leaseTurns", inPlace := ["internal/reflectlite.TypeOf"], unfollowed := true, recurses := true, apart := false, narrowed := true }
def LeaseTurnsUptoSaid : Prop := leaseTurnsUptoRow.holds Try.pinned (OpenSpec.upto leaseTurnsSpec)

end Rows
end Go.Proofs.Ytoebjfkmhdnkfaa
