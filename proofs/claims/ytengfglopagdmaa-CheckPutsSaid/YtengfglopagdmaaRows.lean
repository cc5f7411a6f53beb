/-
  No cell of these rows narrows 'for every input' (looked for: loops, veiled, ifaces, maps, wideKeys, modest, calm, conditions, laid).
  DERIVED. THE GIVEN ROWS OF THIS SEAT. 2 by the template 'for every input the law returns true; each argument reads behind the call as it read before'; 0 by the template 'total and deterministic' (their statements: YtengfglopagdmaaTotals.lean).
  GIVEN WITH THE SEED: the statements are not yours to turn. If you find one false, say at which input.
  Laid BY PROGRAM, IN A SANDBOX (cutbox-rows.mjs): the forced cells as the released guide's own fill.sh prints them over the translation a6b646e9c3218e09… (all of the seat's roots in one cut). By AI agents, Wed Nov 11 2026. No macro, syntax, notation, axiom, sorry.
-/
import Derived.Test.YtengfglopagdmaaChecked
import GoSem.Claim
import GoSem.ClaimJoined
import GoSem.ClaimMapViews
import Derived.JoinedTies
import Derived.KernelRfl
namespace Go.Proofs.Ytengfglopagdmaa
/- THE CELL 'sum', in the pinned program and in every row, IS THE sha256 OF THE DUMP (.gsa) THAT YtengfglopagdmaaProg.lean LOADS. Nothing in Lean hashes anything: it is a label: what it is worth is what the hold of that sum in a sandbox is worth. -/
noncomputable def Try.pinned : Pinned := { name := "ytengfglopagdmaa", sum := "a6b646e9c3218e09480f7699d88b79b67af5f03e18131a51bd59273759a6b098", checked := Try.checked }
namespace Rows
def none {H : Type} : Left H := { results := [], args := [] }

/-- 'corncriblaw05.CheckPuts': WHATEVER THE INPUT: true; the input reads as it did. -/
def checkPutsSpec : ChangeSpec := { name := "checkPuts", fn := fun _ => fun
  | [d] => { results := [.lit (.bool true)], args := [d] }
  | _ => none }
def checkPutsRow : OpenClaim := { program := "ytengfglopagdmaa", sum := "a6b646e9c3218e09480f7699d88b79b67af5f03e18131a51bd59273759a6b098", func := "corncrib/corncriblaw05.CheckPuts", spec := "checkPuts", inPlace := ["internal/reflectlite.TypeOf"], unfollowed := true, recurses := true, apart := false }
def CheckPutsSaid : Prop := checkPutsRow.holds Try.pinned (OpenSpec.ofChange checkPutsSpec)

/-- ITS FALSE NEIGHBOUR: 'it returns false'. Refute it at one input. -/
def checkPutsWrong : ChangeSpec := { name := "checkPuts", fn := fun _ => fun
  | [d] => { results := [.lit (.bool false)], args := [d] }
  | _ => none }
def CheckPutsWrongFalsely : Prop := checkPutsRow.holds Try.pinned (OpenSpec.ofChange checkPutsWrong)

/-- 'corncriblaw05.CheckGets': WHATEVER THE INPUT: true; the input reads as it did. -/
def checkGetsSpec : ChangeSpec := { name := "checkGets", fn := fun _ => fun
  | [d] => { results := [.lit (.bool true)], args := [d] }
  | _ => none }
def checkGetsRow : OpenClaim := { program := "ytengfglopagdmaa", sum := "a6b646e9c3218e09480f7699d88b79b67af5f03e18131a51bd59273759a6b098", func := "corncrib/corncriblaw05.CheckGets", spec := "checkGets", inPlace := ["internal/reflectlite.TypeOf"], unfollowed := true, recurses := true, apart := false }
def CheckGetsSaid : Prop := checkGetsRow.holds Try.pinned (OpenSpec.ofChange checkGetsSpec)

/-- ITS FALSE NEIGHBOUR: 'it returns false'. Refute it at one input. -/
def checkGetsWrong : ChangeSpec := { name := "checkGets", fn := fun _ => fun
  | [d] => { results := [.lit (.bool false)], args := [d] }
  | _ => none }
def CheckGetsWrongFalsely : Prop := checkGetsRow.holds Try.pinned (OpenSpec.ofChange checkGetsWrong)

/- THE SECOND FORM. 'bulk': how many values and letters a reading holds, each counted each time it is reached (what is shared counts as often as it is met; a slice's spare places count too). A statement '..UptoSaid' is the law's where the arguments, and the package variables that the reading takes, are together of bulk at most 1048576: NARROWER than '..Said'. Prove '..Said' where nothing that the law and all that it calls make is longer than what came in: it says more and counts as full. Else prove '..UptoSaid'. A law counts once. -/
mutual
def uptoBulk {H : Type} : DataW H → Nat
  | .lit (.string bytes) => bytes.length + 1
  | .lit _ => 1
  | .nil => 1
  | .ptr d => uptoBulk d + 1
  | .slice elems spare => uptoBulkAll elems + uptoBulkAll spare + 1
  | .agg parts => uptoBulkAll parts + 1
  | .iface _ d => uptoBulk d + 1
  | .map entries => uptoBulkEntries entries + 1
  | .held _ => 1
def uptoBulkAll {H : Type} : List (DataW H) → Nat
  | [] => 0
  | d :: r => uptoBulk d + uptoBulkAll r
def uptoBulkEntries {H : Type} : List (Lit × DataW H) → Nat
  | [] => 0
  | x :: r => uptoBulkEntry x + uptoBulkEntries r
def uptoBulkEntry {H : Type} : Lit × DataW H → Nat
  | (.string bytes, d) => bytes.length + uptoBulk d + 1
  | (_, d) => uptoBulk d + 1
 end
def uptoSmall : (H : Type) → List (DataW H) → Bool := fun _ ds => decide (uptoBulkAll ds ≤ 1048576)
def OpenSpec.upto (s : _root_.Go.ChangeSpec) : _root_.Go.OpenSpec := { _root_.Go.OpenSpec.ofChange s with cond := some uptoSmall }

/-- 'corncriblaw05.CheckPuts', WHERE WHAT IT READS IS OF BULK AT MOST 1048576: true; the input reads as it did. -/
def checkPutsUptoRow : OpenClaim := { program := "ytengfglopagdmaa", sum := "a6b646e9c3218e09480f7699d88b79b67af5f03e18131a51bd59273759a6b098", func := "corncrib/corncriblaw05.CheckPuts", spec := "checkPuts", inPlace := ["internal/reflectlite.TypeOf"], unfollowed := true, recurses := true, apart := false, narrowed := true }
def CheckPutsUptoSaid : Prop := checkPutsUptoRow.holds Try.pinned (OpenSpec.upto checkPutsSpec)

/-- 'corncriblaw05.CheckGets', WHERE WHAT IT READS IS OF BULK AT MOST 1048576: true; the input reads as it did. -/
def checkGetsUptoRow : OpenClaim := { program := "ytengfglopagdmaa", sum := "a6b646e9c3218e09480f7699d88b79b67af5f03e18131a51bd59273759a6b098", func := "corncrib/corncriblaw05.CheckGets", spec := "checkGets", inPlace := ["internal/reflectlite.TypeOf"], unfollowed := true, recurses := true, apart := false, narrowed := true }
def CheckGetsUptoSaid : Prop := checkGetsUptoRow.holds Try.pinned (OpenSpec.upto checkGetsSpec)

end Rows
end Go.Proofs.Ytengfglopagdmaa
