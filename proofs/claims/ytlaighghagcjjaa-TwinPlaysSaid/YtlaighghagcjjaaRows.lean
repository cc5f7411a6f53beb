/-
  No cell of these rows narrows 'for every input' (looked for: loops, veiled, ifaces, maps, wideKeys, modest, calm, conditions, laid).
  DERIVED. THE GIVEN ROWS OF THIS SEAT. 4 by the template 'for every input the law returns true; each argument reads behind the call as it read before'; 0 by the template 'total and deterministic' (their statements: YtlaighghagcjjaaTotals.lean).
  GIVEN WITH THE SEED: the statements are not yours to turn. If you find one false, say at which input.
  Laid BY PROGRAM, IN A SANDBOX (cutbox-rows.mjs): the forced cells as the released guide's own fill.sh prints them over the translation e6bce7a455b331df… (all of the seat's roots in one cut). By AI agents, Wed Nov 11 2026. No macro, syntax, notation, axiom, sorry.
-/
import Derived.Test.YtlaighghagcjjaaChecked
import GoSem.Claim
import GoSem.ClaimJoined
import GoSem.ClaimMapViews
import Derived.JoinedTies
import Derived.KernelRfl
namespace Go.Proofs.Ytlaighghagcjjaa
/- THE CELL 'sum', in the pinned program and in every row, IS THE sha256 OF THE DUMP (.gsa) THAT YtlaighghagcjjaaProg.lean LOADS. Nothing in Lean hashes anything: it is a label: what it is worth is what the hold of that sum in a sandbox is worth. -/
noncomputable def Try.pinned : Pinned := { name := "ytlaighghagcjjaa", sum := "e6bce7a455b331dfd97ef511c75e9400ec2ac4ff188d5406f8f559f22196eb3b", checked := Try.checked }
namespace Rows
def none {H : Type} : Left H := { results := [], args := [] }

/-- 'corncriblaw20.TwinPlays': WHATEVER THE INPUT: true; the input reads as it did. -/
def twinPlaysSpec : ChangeSpec := { name := "twinPlays", fn := fun _ => fun
  | [d] => { results := [.lit (.bool true)], args := [d] }
  | _ => none }
def twinPlaysRow : OpenClaim := { program := "ytlaighghagcjjaa", sum := "e6bce7a455b331dfd97ef511c75e9400ec2ac4ff188d5406f8f559f22196eb3b", func := "corncrib/corncriblaw20.TwinPlays", spec := "twinPlays", inPlace := ["internal/reflectlite.TypeOf"], unfollowed := true, recurses := true, apart := false }
def TwinPlaysSaid : Prop := twinPlaysRow.holds Try.pinned (OpenSpec.ofChange twinPlaysSpec)

/-- ITS FALSE NEIGHBOUR: 'it returns false'. Refute it at one input. -/
def twinPlaysWrong : ChangeSpec := { name := "twinPlays", fn := fun _ => fun
  | [d] => { results := [.lit (.bool false)], args := [d] }
  | _ => none }
def TwinPlaysWrongFalsely : Prop := twinPlaysRow.holds Try.pinned (OpenSpec.ofChange twinPlaysWrong)

/-- 'corncriblaw20.TwinKeeps': WHATEVER THE INPUT: true; the input reads as it did. -/
def twinKeepsSpec : ChangeSpec := { name := "twinKeeps", fn := fun _ => fun
  | [d] => { results := [.lit (.bool true)], args := [d] }
  | _ => none }
def twinKeepsRow : OpenClaim := { program := "ytlaighghagcjjaa", sum := "e6bce7a455b331dfd97ef511c75e9400ec2ac4ff188d5406f8f559f22196eb3b", func := "corncrib/corncriblaw20.TwinKeeps", spec := "twinKeeps", inPlace := ["internal/reflectlite.TypeOf"], unfollowed := true, recurses := true, apart := false }
def TwinKeepsSaid : Prop := twinKeepsRow.holds Try.pinned (OpenSpec.ofChange twinKeepsSpec)

/-- ITS FALSE NEIGHBOUR: 'it returns false'. Refute it at one input. -/
def twinKeepsWrong : ChangeSpec := { name := "twinKeeps", fn := fun _ => fun
  | [d] => { results := [.lit (.bool false)], args := [d] }
  | _ => none }
def TwinKeepsWrongFalsely : Prop := twinKeepsRow.holds Try.pinned (OpenSpec.ofChange twinKeepsWrong)

/-- 'corncriblaw20.TwinShips': WHATEVER THE INPUT: true; the input reads as it did. -/
def twinShipsSpec : ChangeSpec := { name := "twinShips", fn := fun _ => fun
  | [d] => { results := [.lit (.bool true)], args := [d] }
  | _ => none }
def twinShipsRow : OpenClaim := { program := "ytlaighghagcjjaa", sum := "e6bce7a455b331dfd97ef511c75e9400ec2ac4ff188d5406f8f559f22196eb3b", func := "corncrib/corncriblaw20.TwinShips", spec := "twinShips", inPlace := ["internal/reflectlite.TypeOf"], unfollowed := true, recurses := true, apart := false }
def TwinShipsSaid : Prop := twinShipsRow.holds Try.pinned (OpenSpec.ofChange twinShipsSpec)

/-- ITS FALSE NEIGHBOUR: 'it returns false'. Refute it at one input. -/
def twinShipsWrong : ChangeSpec := { name := "twinShips", fn := fun _ => fun
  | [d] => { results := [.lit (.bool false)], args := [d] }
  | _ => none }
def TwinShipsWrongFalsely : Prop := twinShipsRow.holds Try.pinned (OpenSpec.ofChange twinShipsWrong)

/-- 'corncriblaw20.TwinAlone': WHATEVER THE INPUT: true; the input reads as it did. -/
def twinAloneSpec : ChangeSpec := { name := "twinAlone", fn := fun _ => fun
  | [d1, d2] => { results := [.lit (.bool true)], args := [d1, d2] }
  | _ => none }
def twinAloneRow : OpenClaim := { program := "ytlaighghagcjjaa", sum := "e6bce7a455b331dfd97ef511c75e9400ec2ac4ff188d5406f8f559f22196eb3b", func := "corncrib/corncriblaw20.TwinAlone", spec := "twinAlone", inPlace := ["internal/reflectlite.TypeOf"], unfollowed := true, recurses := true, apart := false }
def TwinAloneSaid : Prop := twinAloneRow.holds Try.pinned (OpenSpec.ofChange twinAloneSpec)

/-- ITS FALSE NEIGHBOUR: 'it returns false'. Refute it at one input. -/
def twinAloneWrong : ChangeSpec := { name := "twinAlone", fn := fun _ => fun
  | [d1, d2] => { results := [.lit (.bool false)], args := [d1, d2] }
  | _ => none }
def TwinAloneWrongFalsely : Prop := twinAloneRow.holds Try.pinned (OpenSpec.ofChange twinAloneWrong)

/- THE SECOND FORM. 'bulk': how many values and letters a reading holds, each counted each time it is reached (what is shared counts as often as it is met; a slice's spare places count too). A statement '..UptoSaid' is the law's where the arguments, and the package variables that the reading takes, are together of bulk at most 1048576: NARROWER than '..Said'. Prove '..Said' where nothing that the law and all that it calls make is longer than what came in: it says more and counts as full. Else prove '..UptoSaid'. A law counts once. -/
mutual
def uptoBulk {H : Type} : DataW H → Nat
  | .lit (.string bytes) => bytes.length + 1
  | .lit _ => 1
  | .nil => 1
  | .ptr d => uptoBulk d + 1
  | .slice elems spare => uptoBulkAll elems + uptoBulkAll spare + 1
  | .agg parts => uptoBulkAll parts + 1
  | .iface _ d => uptoBulk d + 1
  | .map entries => uptoBulkEntries entries + 1
  | .held _ => 1
def uptoBulkAll {H : Type} : List (DataW H) → Nat
  | [] => 0
  | d :: r => uptoBulk d + uptoBulkAll r
def uptoBulkEntries {H : Type} : List (Lit × DataW H) → Nat
  | [] => 0
  | x :: r => uptoBulkEntry x + uptoBulkEntries r
def uptoBulkEntry {H : Type} : Lit × DataW H → Nat
  | (.string bytes, d) => bytes.length + uptoBulk d + 1
  | (_, d) => uptoBulk d + 1
 end
def uptoSmall : (H : Type) → List (DataW H) → Bool := fun _ ds => decide (uptoBulkAll ds ≤ 1048576)
def OpenSpec.upto (s : _root_.Go.ChangeSpec) : _root_.Go.OpenSpec := { _root_.Go.OpenSpec.ofChange s with cond := some uptoSmall }

/-- 'corncriblaw20.TwinPlays', WHERE WHAT IT READS IS OF BULK AT MOST 1048576: true; the input reads as it did. -/
def twinPlaysUptoRow : OpenClaim := { program := "ytlaighghagcjjaa", sum := "e6bce7a455b331dfd97ef511c75e9400ec2ac4ff188d5406f8f559f22196eb3b", func := "corncrib/corncriblaw20.TwinPlays", spec := "twinPlays", inPlace := ["internal/reflectlite.TypeOf"], unfollowed := true, recurses := true, apart := false, narrowed := true }
def TwinPlaysUptoSaid : Prop := twinPlaysUptoRow.holds Try.pinned (OpenSpec.upto twinPlaysSpec)

/-- 'corncriblaw20.TwinKeeps', WHERE WHAT IT READS IS OF BULK AT MOST 1048576: true; the input reads as it did. -/
def twinKeepsUptoRow : OpenClaim := { program := "ytlaighghagcjjaa", sum := "e6bce7a455b331dfd97ef511c75e9400ec2ac4ff188d5406f8f559f22196eb3b", func := "corncrib/corncriblaw20.TwinKeeps", spec := "twinKeeps", inPlace := ["internal/reflectlite.TypeOf"], unfollowed := true, recurses := true, apart := false, narrowed := true }
def TwinKeepsUptoSaid : Prop := twinKeepsUptoRow.holds Try.pinned (OpenSpec.upto twinKeepsSpec)

/-- 'corncriblaw20.TwinShips', WHERE WHAT IT READS IS OF BULK AT MOST 1048576: true; the input reads as it did. -/
def twinShipsUptoRow : OpenClaim := { program := "ytlaighghagcjjaa", sum := "e6bce7a455b331dfd97ef511c75e9400ec2ac4ff188d5406f8f559f22196eb3b", func := "corncrib/corncriblaw20.TwinShips", spec := "twinShips", inPlace := ["internal/reflectlite.TypeOf"], unfollowed := true, recurses := true, apart := false, narrowed := true }
def TwinShipsUptoSaid : Prop := twinShipsUptoRow.holds Try.pinned (OpenSpec.upto twinShipsSpec)

/-- 'corncriblaw20.TwinAlone', WHERE WHAT IT READS IS OF BULK AT MOST 1048576: true; the input reads as it did. -/
def twinAloneUptoRow : OpenClaim := { program := "ytlaighghagcjjaa", sum := "e6bce7a455b331dfd97ef511c75e9400ec2ac4ff188d5406f8f559f22196eb3b", func := "corncrib/corncriblaw20.TwinAlone", spec := "twinAlone", inPlace := ["internal/reflectlite.TypeOf"], unfollowed := true, recurses := true, apart := false, narrowed := true }
def TwinAloneUptoSaid : Prop := twinAloneUptoRow.holds Try.pinned (OpenSpec.upto twinAloneSpec)

end Rows
end Go.Proofs.Ytlaighghagcjjaa
