/-
  No cell of these rows narrows 'for every input' (looked for: loops, veiled, ifaces, maps, wideKeys, modest, calm, conditions, laid).
  DERIVED. THE GIVEN ROWS OF THIS SEAT. 3 by the template 'for every input the law returns true; each argument reads behind the call as it read before'; 0 by the template 'total and deterministic' (their statements: YtibmajicknnbhaaTotals.lean).
  GIVEN WITH THE SEED: the statements are not yours to turn. If you find one false, say at which input.
  Laid BY PROGRAM, IN A SANDBOX (cutbox-rows.mjs): the forced cells as the released guide's own fill.sh prints them over the translation af3fa5221f636e67… (all of the seat's roots in one cut). By AI agents, Wed Nov 11 2026. No macro, syntax, notation, axiom, sorry.
-/
import Derived.Test.YtibmajicknnbhaaChecked
import GoSem.Claim
import GoSem.ClaimJoined
import GoSem.ClaimMapViews
import Derived.JoinedTies
import Derived.KernelRfl
namespace Go.Proofs.Ytibmajicknnbhaa
/- THE CELL 'sum', in the pinned program and in every row, IS THE sha256 OF THE DUMP (.gsa) THAT YtibmajicknnbhaaProg.lean LOADS. Nothing in Lean hashes anything: it is a label: what it is worth is what the hold of that sum in a sandbox is worth. -/
noncomputable def Try.pinned : Pinned := { name := "ytibmajicknnbhaa", sum := "af3fa5221f636e67cd54da20be7fbd26c94bf7011f0321591f3bbe3e336200b6", checked := Try.checked }
namespace Rows
def none {H : Type} : Left H := { results := [], args := [] }

/-- 'corncriblaw19.DirsEpochs': WHATEVER THE INPUT: true; the input reads as it did. -/
def dirsEpochsSpec : ChangeSpec := { name := "dirsEpochs", fn := fun _ => fun
  | [d] => { results := [.lit (.bool true)], args := [d] }
  | _ => none }
def dirsEpochsRow : OpenClaim := { program := "ytibmajicknnbhaa", sum := "af3fa5221f636e67cd54da20be7fbd26c94bf7011f0321591f3bbe3e336200b6", func := "corncrib/corncriblaw19.DirsEpochs", spec := "dirsEpochs", inPlace := ["internal/reflectlite.TypeOf"], unfollowed := true, recurses := true, apart := false }
def DirsEpochsSaid : Prop := dirsEpochsRow.holds Try.pinned (OpenSpec.ofChange dirsEpochsSpec)

/-- ITS FALSE NEIGHBOUR: 'it returns false'. Refute it at one input. -/
def dirsEpochsWrong : ChangeSpec := { name := "dirsEpochs", fn := fun _ => fun
  | [d] => { results := [.lit (.bool false)], args := [d] }
  | _ => none }
def DirsEpochsWrongFalsely : Prop := dirsEpochsRow.holds Try.pinned (OpenSpec.ofChange dirsEpochsWrong)

/-- 'corncriblaw19.DirsApart': WHATEVER THE INPUT: true; the input reads as it did. -/
def dirsApartSpec : ChangeSpec := { name := "dirsApart", fn := fun _ => fun
  | [d] => { results := [.lit (.bool true)], args := [d] }
  | _ => none }
def dirsApartRow : OpenClaim := { program := "ytibmajicknnbhaa", sum := "af3fa5221f636e67cd54da20be7fbd26c94bf7011f0321591f3bbe3e336200b6", func := "corncrib/corncriblaw19.DirsApart", spec := "dirsApart", inPlace := ["internal/reflectlite.TypeOf"], unfollowed := true, recurses := true, apart := false }
def DirsApartSaid : Prop := dirsApartRow.holds Try.pinned (OpenSpec.ofChange dirsApartSpec)

/-- ITS FALSE NEIGHBOUR: 'it returns false'. Refute it at one input. -/
def dirsApartWrong : ChangeSpec := { name := "dirsApart", fn := fun _ => fun
  | [d] => { results := [.lit (.bool false)], args := [d] }
  | _ => none }
def DirsApartWrongFalsely : Prop := dirsApartRow.holds Try.pinned (OpenSpec.ofChange dirsApartWrong)

/-- 'corncriblaw19.DirsParts': WHATEVER THE INPUT: true; the input reads as it did. -/
def dirsPartsSpec : ChangeSpec := { name := "dirsParts", fn := fun _ => fun
  | [d1, d2] => { results := [.lit (.bool true)], args := [d1, d2] }
  | _ => none }
def dirsPartsRow : OpenClaim := { program := "ytibmajicknnbhaa", sum := "af3fa5221f636e67cd54da20be7fbd26c94bf7011f0321591f3bbe3e336200b6", func := "corncrib/corncriblaw19.DirsParts", spec := "dirsParts", inPlace := ["internal/reflectlite.TypeOf"], unfollowed := true, recurses := true, apart := false }
def DirsPartsSaid : Prop := dirsPartsRow.holds Try.pinned (OpenSpec.ofChange dirsPartsSpec)

/-- ITS FALSE NEIGHBOUR: 'it returns false'. Refute it at one input. -/
def dirsPartsWrong : ChangeSpec := { name := "dirsParts", fn := fun _ => fun
  | [d1, d2] => { results := [.lit (.bool false)], args := [d1, d2] }
  | _ => none }
def DirsPartsWrongFalsely : Prop := dirsPartsRow.holds Try.pinned (OpenSpec.ofChange dirsPartsWrong)

/- THE SECOND FORM. 'bulk': how many values and letters a reading holds, each counted each time it is reached (what is shared counts as often as it is met; a slice's spare places count too). A statement '..UptoSaid' is the law's where the arguments, and the package variables that the reading takes, are together of bulk at most 1048576: NARROWER than '..Said'. Prove '..Said' where nothing that the law and all that it calls make is longer than what came in: it says more and counts as full. Else prove '..UptoSaid'. A law counts once. -/
mutual
def uptoBulk {H : Type} : DataW H → Nat
  | .lit (.string bytes) => bytes.length + 1
  | .lit _ => 1
  | .nil => 1
  | .ptr d => uptoBulk d + 1
  | .slice elems spare => uptoBulkAll elems + uptoBulkAll spare + 1
  | .agg parts => uptoBulkAll parts + 1
  | .iface _ d => uptoBulk d + 1
  | .map entries => uptoBulkEntries entries + 1
  | .held _ => 1
def uptoBulkAll {H : Type} : List (DataW H) → Nat
  | [] => 0
  | d :: r => uptoBulk d + uptoBulkAll r
def uptoBulkEntries {H : Type} : List (Lit × DataW H) → Nat
  | [] => 0
  | x :: r => uptoBulkEntry x + uptoBulkEntries r
def uptoBulkEntry {H : Type} : Lit × DataW H → Nat
  | (.string bytes, d) => bytes.length + uptoBulk d + 1
  | (_, d) => uptoBulk d + 1
 end
def uptoSmall : (H : Type) → List (DataW H) → Bool := fun _ ds => decide (uptoBulkAll ds ≤ 1048576)
def OpenSpec.upto (s : _root_.Go.ChangeSpec) : _root_.Go.OpenSpec := { _root_.Go.OpenSpec.ofChange s with cond := some uptoSmall }

/-- 'corncriblaw19.DirsEpochs', WHERE WHAT IT READS IS OF BULK AT MOST 1048576: true; the input reads as it did. -/
def dirsEpochsUptoRow : OpenClaim := { program := "ytibmajicknnbhaa", sum := "af3fa5221f636e67cd54da20be7fbd26c94bf7011f0321591f3bbe3e336200b6", func := "corncrib/corncriblaw19.DirsEpochs", spec := "dirsEpochs", inPlace := ["internal/reflectlite.TypeOf"], unfollowed := true, recurses := true, apart := false, narrowed := true }
def DirsEpochsUptoSaid : Prop := dirsEpochsUptoRow.holds Try.pinned (OpenSpec.upto dirsEpochsSpec)

/-- 'corncriblaw19.DirsApart', WHERE WHAT IT READS IS OF BULK AT MOST 1048576: true; the input reads as it did. -/
def dirsApartUptoRow : OpenClaim := { program := "ytibmajicknnbhaa", sum := "af3fa5221f636e67cd54da20be7fbd26c94bf7011f0321591f3bbe3e336200b6", func := "corncrib/corncriblaw19.DirsApart", spec := "dirsApart", inPlace := ["internal/reflectlite.TypeOf"], unfollowed := true, recurses := true, apart := false, narrowed := true }
def DirsApartUptoSaid : Prop := dirsApartUptoRow.holds Try.pinned (OpenSpec.upto dirsApartSpec)

/-- 'corncriblaw19.DirsParts', WHERE WHAT IT READS IS OF BULK AT MOST 1048576: true; the input reads as it did. -/
def dirsPartsUptoRow : OpenClaim := { program := "ytibmajicknnbhaa", sum := "af3fa5221f636e67cd54da20be7fbd26c94bf7011f0321591f3bbe3e336200b6", func := "corncrib/corncriblaw19.DirsParts", spec := "dirsParts", inPlace := ["internal/reflectlite.TypeOf"], unfollowed := true, recurses := true, apart := false, narrowed := true }
def DirsPartsUptoSaid : Prop := dirsPartsUptoRow.holds Try.pinned (OpenSpec.upto dirsPartsSpec)

end Rows
end Go.Proofs.Ytibmajicknnbhaa
