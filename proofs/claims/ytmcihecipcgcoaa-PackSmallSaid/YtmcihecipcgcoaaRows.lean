/-
  No cell of these rows narrows 'for every input' (looked for: loops, veiled, ifaces, maps, wideKeys, modest, calm, conditions, laid).
  DERIVED. THE GIVEN ROWS OF THIS SEAT. 5 by the template 'for every input the law returns true; each argument reads behind the call as it read before'; 0 by the template 'total and deterministic' (their statements: YtmcihecipcgcoaaTotals.lean).
  GIVEN WITH THE SEED: the statements are not yours to turn. If you find one false, say at which input.
  Laid BY PROGRAM, IN A SANDBOX (cutbox-rows.mjs): the forced cells as the released guide's own fill.sh prints them over the translation 3fc2fbbcf7d01345… (all of the seat's roots in one cut). By AI agents, Wed Nov 11 2026. No macro, syntax, notation, axiom, sorry.
-/
import Derived.Test.YtmcihecipcgcoaaChecked
import GoSem.Claim
import GoSem.ClaimJoined
import GoSem.ClaimMapViews
import Derived.JoinedTies
import Derived.KernelRfl
namespace Go.Proofs.Ytmcihecipcgcoaa
/- THE CELL 'sum', in the pinned program and in every row, IS THE sha256 OF THE DUMP (.gsa) THAT YtmcihecipcgcoaaProg.lean LOADS. Nothing in Lean hashes anything: it is a label: what it is worth is what the hold of that sum in a sandbox is worth. -/
noncomputable def Try.pinned : Pinned := { name := "ytmcihecipcgcoaa", sum := "3fc2fbbcf7d01345f8eb5b9417fe92ccb31fa6c5a73dd33d6cc0aa23c272e84c", checked := Try.checked }
namespace Rows
def none {H : Type} : Left H := { results := [], args := [] }

/-- 'corncriblaw01.PackPuts': WHATEVER THE INPUT: true; the input reads as it did. -/
def packPutsSpec : ChangeSpec := { name := "packPuts", fn := fun _ => fun
  | [d1, d2, d3, d4] => { results := [.lit (.bool true)], args := [d1, d2, d3, d4] }
  | _ => none }
def packPutsRow : OpenClaim := { program := "ytmcihecipcgcoaa", sum := "3fc2fbbcf7d01345f8eb5b9417fe92ccb31fa6c5a73dd33d6cc0aa23c272e84c", func := "corncrib/corncriblaw01.PackPuts", spec := "packPuts", inPlace := ["internal/reflectlite.TypeOf"], unfollowed := true, recurses := true, apart := false }
def PackPutsSaid : Prop := packPutsRow.holds Try.pinned (OpenSpec.ofChange packPutsSpec)

/-- ITS FALSE NEIGHBOUR: 'it returns false'. Refute it at one input. -/
def packPutsWrong : ChangeSpec := { name := "packPuts", fn := fun _ => fun
  | [d1, d2, d3, d4] => { results := [.lit (.bool false)], args := [d1, d2, d3, d4] }
  | _ => none }
def PackPutsWrongFalsely : Prop := packPutsRow.holds Try.pinned (OpenSpec.ofChange packPutsWrong)

/-- 'corncriblaw01.PackPads': WHATEVER THE INPUT: true; the input reads as it did. -/
def packPadsSpec : ChangeSpec := { name := "packPads", fn := fun _ => fun
  | [d1, d2] => { results := [.lit (.bool true)], args := [d1, d2] }
  | _ => none }
def packPadsRow : OpenClaim := { program := "ytmcihecipcgcoaa", sum := "3fc2fbbcf7d01345f8eb5b9417fe92ccb31fa6c5a73dd33d6cc0aa23c272e84c", func := "corncrib/corncriblaw01.PackPads", spec := "packPads", inPlace := ["internal/reflectlite.TypeOf"], unfollowed := true, recurses := true, apart := false }
def PackPadsSaid : Prop := packPadsRow.holds Try.pinned (OpenSpec.ofChange packPadsSpec)

/-- ITS FALSE NEIGHBOUR: 'it returns false'. Refute it at one input. -/
def packPadsWrong : ChangeSpec := { name := "packPads", fn := fun _ => fun
  | [d1, d2] => { results := [.lit (.bool false)], args := [d1, d2] }
  | _ => none }
def PackPadsWrongFalsely : Prop := packPadsRow.holds Try.pinned (OpenSpec.ofChange packPadsWrong)

/-- 'corncriblaw01.PackBack': WHATEVER THE INPUT: true; the input reads as it did. -/
def packBackSpec : ChangeSpec := { name := "packBack", fn := fun _ => fun
  | [d1, d2, d3, d4, d5] => { results := [.lit (.bool true)], args := [d1, d2, d3, d4, d5] }
  | _ => none }
def packBackRow : OpenClaim := { program := "ytmcihecipcgcoaa", sum := "3fc2fbbcf7d01345f8eb5b9417fe92ccb31fa6c5a73dd33d6cc0aa23c272e84c", func := "corncrib/corncriblaw01.PackBack", spec := "packBack", inPlace := ["internal/reflectlite.TypeOf"], unfollowed := true, recurses := true, apart := false }
def PackBackSaid : Prop := packBackRow.holds Try.pinned (OpenSpec.ofChange packBackSpec)

/-- ITS FALSE NEIGHBOUR: 'it returns false'. Refute it at one input. -/
def packBackWrong : ChangeSpec := { name := "packBack", fn := fun _ => fun
  | [d1, d2, d3, d4, d5] => { results := [.lit (.bool false)], args := [d1, d2, d3, d4, d5] }
  | _ => none }
def PackBackWrongFalsely : Prop := packBackRow.holds Try.pinned (OpenSpec.ofChange packBackWrong)

/-- 'corncriblaw01.PackCat': WHATEVER THE INPUT: true; the input reads as it did. -/
def packCatSpec : ChangeSpec := { name := "packCat", fn := fun _ => fun
  | [d] => { results := [.lit (.bool true)], args := [d] }
  | _ => none }
def packCatRow : OpenClaim := { program := "ytmcihecipcgcoaa", sum := "3fc2fbbcf7d01345f8eb5b9417fe92ccb31fa6c5a73dd33d6cc0aa23c272e84c", func := "corncrib/corncriblaw01.PackCat", spec := "packCat", inPlace := ["internal/reflectlite.TypeOf"], unfollowed := true, recurses := true, apart := false }
def PackCatSaid : Prop := packCatRow.holds Try.pinned (OpenSpec.ofChange packCatSpec)

/-- ITS FALSE NEIGHBOUR: 'it returns false'. Refute it at one input. -/
def packCatWrong : ChangeSpec := { name := "packCat", fn := fun _ => fun
  | [d] => { results := [.lit (.bool false)], args := [d] }
  | _ => none }
def PackCatWrongFalsely : Prop := packCatRow.holds Try.pinned (OpenSpec.ofChange packCatWrong)

/-- 'corncriblaw01.PackSmall': WHATEVER THE INPUT: true; the input reads as it did. -/
def packSmallSpec : ChangeSpec := { name := "packSmall", fn := fun _ => fun
  | [d1, d2, d3] => { results := [.lit (.bool true)], args := [d1, d2, d3] }
  | _ => none }
def packSmallRow : OpenClaim := { program := "ytmcihecipcgcoaa", sum := "3fc2fbbcf7d01345f8eb5b9417fe92ccb31fa6c5a73dd33d6cc0aa23c272e84c", func := "corncrib/corncriblaw01.PackSmall", spec := "packSmall", inPlace := ["internal/reflectlite.TypeOf"], unfollowed := true, recurses := true, apart := false }
def PackSmallSaid : Prop := packSmallRow.holds Try.pinned (OpenSpec.ofChange packSmallSpec)

/-- ITS FALSE NEIGHBOUR: 'it returns false'. Refute it at one input. -/
def packSmallWrong : ChangeSpec := { name := "packSmall", fn := fun _ => fun
  | [d1, d2, d3] => { results := [.lit (.bool false)], args := [d1, d2, d3] }
  | _ => none }
def PackSmallWrongFalsely : Prop := packSmallRow.holds Try.pinned (OpenSpec.ofChange packSmallWrong)

/- THE SECOND FORM. 'bulk': how many values and letters a reading holds, each counted each time it is reached (what is shared counts as often as it is met; a slice's spare places count too). A statement '..UptoSaid' is the law's where the arguments, and the package variables that the reading takes, are together of bulk at most 1048576: NARROWER than '..Said'. Prove '..Said' where nothing that the law and all that it calls make is longer than what came in: it says more and counts as full. Else prove '..UptoSaid'. A law counts once. -/
mutual
def uptoBulk {H : Type} : DataW H → Nat
  | .lit (.string bytes) => bytes.length + 1
  | .lit _ => 1
  | .nil => 1
  | .ptr d => uptoBulk d + 1
  | .slice elems spare => uptoBulkAll elems + uptoBulkAll spare + 1
  | .agg parts => uptoBulkAll parts + 1
  | .iface _ d => uptoBulk d + 1
  | .map entries => uptoBulkEntries entries + 1
  | .held _ => 1
def uptoBulkAll {H : Type} : List (DataW H) → Nat
  | [] => 0
  | d :: r => uptoBulk d + uptoBulkAll r
def uptoBulkEntries {H : Type} : List (Lit × DataW H) → Nat
  | [] => 0
  | x :: r => uptoBulkEntry x + uptoBulkEntries r
def uptoBulkEntry {H : Type} : Lit × DataW H → Nat
  | (.string bytes, d) => bytes.length + uptoBulk d + 1
  | (_, d) => uptoBulk d + 1
 end
def uptoSmall : (H : Type) → List (DataW H) → Bool := fun _ ds => decide (uptoBulkAll ds ≤ 1048576)
def OpenSpec.upto (s : _root_.Go.ChangeSpec) : _root_.Go.OpenSpec := { _root_.Go.OpenSpec.ofChange s with cond := some uptoSmall }

/-- 'corncriblaw01.PackPuts', WHERE WHAT IT READS IS OF BULK AT MOST 1048576: true; the input reads as it did. -/
def packPutsUptoRow : OpenClaim := { program := "ytmcihecipcgcoaa", sum := "3fc2fbbcf7d01345f8eb5b9417fe92ccb31fa6c5a73dd33d6cc0aa23c272e84c", func := "corncrib/corncriblaw01.PackPuts", spec := "packPuts", inPlace := ["internal/reflectlite.TypeOf"], unfollowed := true, recurses := true, apart := false, narrowed := true }
def PackPutsUptoSaid : Prop := packPutsUptoRow.holds Try.pinned (OpenSpec.upto packPutsSpec)

/-- 'corncriblaw01.PackPads', WHERE WHAT IT READS IS OF BULK AT MOST 1048576: true; the input reads as it did. -/
def packPadsUptoRow : OpenClaim := { program := "ytmcihecipcgcoaa", sum := "3fc2fbbcf7d01345f8eb5b9417fe92ccb31fa6c5a73dd33d6cc0aa23c272e84c", func := "corncrib/corncriblaw01.PackPads", spec := "packPads", inPlace := ["internal/reflectlite.TypeOf"], unfollowed := true, recurses := true, apart := false, narrowed := true }
def PackPadsUptoSaid : Prop := packPadsUptoRow.holds Try.pinned (OpenSpec.upto packPadsSpec)

/-- 'corncriblaw01.PackBack', WHERE WHAT IT READS IS OF BULK AT MOST 1048576: true; the input reads as it did. -/
def packBackUptoRow : OpenClaim := { program := "ytmcihecipcgcoaa", sum := "3fc2fbbcf7d01345f8eb5b9417fe92ccb31fa6c5a73dd33d6cc0aa23c272e84c", func := "corncrib/corncriblaw01.PackBack", spec := "packBack", inPlace := ["internal/reflectlite.TypeOf"], unfollowed := true, recurses := true, apart := false, narrowed := true }
def PackBackUptoSaid : Prop := packBackUptoRow.holds Try.pinned (OpenSpec.upto packBackSpec)

/-- 'corncriblaw01.PackCat', WHERE WHAT IT READS IS OF BULK AT MOST 1048576: true; the input reads as it did. -/
def packCatUptoRow : OpenClaim := { program := "ytmcihecipcgcoaa", sum := "3fc2fbbcf7d01345f8eb5b9417fe92ccb31fa6c5a73dd33d6cc0aa23c272e84c", func := "corncrib/corncriblaw01.PackCat", spec := "packCat", inPlace := ["internal/reflectlite.TypeOf"], unfollowed := true, recurses := true, apart := false, narrowed := true }
def PackCatUptoSaid : Prop := packCatUptoRow.holds Try.pinned (OpenSpec.upto packCatSpec)

/-- 'corncriblaw01.PackSmall', WHERE WHAT IT READS IS OF BULK AT MOST 1048576: true; the input reads as it did. -/
def packSmallUptoRow : OpenClaim := { program := "ytmcihecipcgcoaa", sum := "3fc2fbbcf7d01345f8eb5b9417fe92ccb31fa6c5a73dd33d6cc0aa23c272e84c", func := "corncrib/corncriblaw01.PackSmall", spec := "packSmall", inPlace := ["internal/reflectlite.TypeOf"], unfollowed := true, recurses := true, apart := false, narrowed := true }
def PackSmallUptoSaid : Prop := packSmallUptoRow.holds Try.pinned (OpenSpec.upto packSmallSpec)

end Rows
end Go.Proofs.Ytmcihecipcgcoaa
