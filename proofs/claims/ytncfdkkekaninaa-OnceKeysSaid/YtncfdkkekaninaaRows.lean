/-
  No cell of these rows narrows 'for every input' (looked for: loops, veiled, ifaces, maps, wideKeys, modest, calm, conditions, laid).
  DERIVED. THE GIVEN ROWS OF THIS SEAT. 4 by the template 'for every input the law returns true; each argument reads behind the call as it read before'; 0 by the template 'total and deterministic' (their statements: YtncfdkkekaninaaTotals.lean).
  GIVEN WITH THE SEED: the statements are not yours to turn. If you find one false, say at which input.
  Laid BY PROGRAM, IN A SANDBOX (cutbox-rows.mjs): the forced cells as the released guide's own fill.sh prints them over the translation 14a2d15301b16c19… (all of the seat's roots in one cut). By AI agents, Wed Nov 11 2026. No macro, syntax, notation, axiom, sorry.
-/
import Derived.Test.YtncfdkkekaninaaChecked
import GoSem.Claim
import GoSem.ClaimJoined
import GoSem.ClaimMapViews
import Derived.JoinedTies
import Derived.KernelRfl
namespace Go.Proofs.Ytncfdkkekaninaa
/- THE CELL 'sum', in the pinned program and in every row, IS THE sha256 OF THE DUMP (.gsa) THAT YtncfdkkekaninaaProg.lean LOADS. Nothing in Lean hashes anything: it is a label: what it is worth is what the hold of that sum in a sandbox is worth. -/
noncomputable def Try.pinned : Pinned := { name := "ytncfdkkekaninaa", sum := "14a2d15301b16c1922d3ef8bf1b7ef5f2af98c3bbf13103e8cc7373fdc620259", checked := Try.checked }
namespace Rows
def none {H : Type} : Left H := { results := [], args := [] }

/-- 'corncriblaw16.OncePlays': WHATEVER THE INPUT: true; the input reads as it did. -/
def oncePlaysSpec : ChangeSpec := { name := "oncePlays", fn := fun _ => fun
  | [d1, d2, d3, d4, d5] => { results := [.lit (.bool true)], args := [d1, d2, d3, d4, d5] }
  | _ => none }
def oncePlaysRow : OpenClaim := { program := "ytncfdkkekaninaa", sum := "14a2d15301b16c1922d3ef8bf1b7ef5f2af98c3bbf13103e8cc7373fdc620259", func := "corncrib/corncriblaw16.OncePlays", spec := "oncePlays", inPlace := ["internal/reflectlite.TypeOf"], unfollowed := true, recurses := true, plainKeys := false, apart := false }
def OncePlaysSaid : Prop := oncePlaysRow.holds Try.pinned (OpenSpec.ofChange oncePlaysSpec)

/-- ITS FALSE NEIGHBOUR: 'it returns false'. Refute it at one input. -/
def oncePlaysWrong : ChangeSpec := { name := "oncePlays", fn := fun _ => fun
  | [d1, d2, d3, d4, d5] => { results := [.lit (.bool false)], args := [d1, d2, d3, d4, d5] }
  | _ => none }
def OncePlaysWrongFalsely : Prop := oncePlaysRow.holds Try.pinned (OpenSpec.ofChange oncePlaysWrong)

/-- 'corncriblaw16.OnceOwn': WHATEVER THE INPUT: true; the input reads as it did. -/
def onceOwnSpec : ChangeSpec := { name := "onceOwn", fn := fun _ => fun
  | [d] => { results := [.lit (.bool true)], args := [d] }
  | _ => none }
def onceOwnRow : OpenClaim := { program := "ytncfdkkekaninaa", sum := "14a2d15301b16c1922d3ef8bf1b7ef5f2af98c3bbf13103e8cc7373fdc620259", func := "corncrib/corncriblaw16.OnceOwn", spec := "onceOwn", inPlace := ["internal/reflectlite.TypeOf"], unfollowed := true, recurses := true, plainKeys := false, apart := false }
def OnceOwnSaid : Prop := onceOwnRow.holds Try.pinned (OpenSpec.ofChange onceOwnSpec)

/-- ITS FALSE NEIGHBOUR: 'it returns false'. Refute it at one input. -/
def onceOwnWrong : ChangeSpec := { name := "onceOwn", fn := fun _ => fun
  | [d] => { results := [.lit (.bool false)], args := [d] }
  | _ => none }
def OnceOwnWrongFalsely : Prop := onceOwnRow.holds Try.pinned (OpenSpec.ofChange onceOwnWrong)

/-- 'corncriblaw16.OnceKeys': WHATEVER THE INPUT: true; the input reads as it did. -/
def onceKeysSpec : ChangeSpec := { name := "onceKeys", fn := fun _ => fun
  | [d1, d2] => { results := [.lit (.bool true)], args := [d1, d2] }
  | _ => none }
def onceKeysRow : OpenClaim := { program := "ytncfdkkekaninaa", sum := "14a2d15301b16c1922d3ef8bf1b7ef5f2af98c3bbf13103e8cc7373fdc620259", func := "corncrib/corncriblaw16.OnceKeys", spec := "onceKeys", inPlace := ["internal/reflectlite.TypeOf"], unfollowed := true, recurses := true, plainKeys := false, apart := false }
def OnceKeysSaid : Prop := onceKeysRow.holds Try.pinned (OpenSpec.ofChange onceKeysSpec)

/-- ITS FALSE NEIGHBOUR: 'it returns false'. Refute it at one input. -/
def onceKeysWrong : ChangeSpec := { name := "onceKeys", fn := fun _ => fun
  | [d1, d2] => { results := [.lit (.bool false)], args := [d1, d2] }
  | _ => none }
def OnceKeysWrongFalsely : Prop := onceKeysRow.holds Try.pinned (OpenSpec.ofChange onceKeysWrong)

/-- 'corncriblaw16.OnceClears': WHATEVER THE INPUT: true; the input reads as it did. -/
def onceClearsSpec : ChangeSpec := { name := "onceClears", fn := fun _ => fun
  | [d] => { results := [.lit (.bool true)], args := [d] }
  | _ => none }
def onceClearsRow : OpenClaim := { program := "ytncfdkkekaninaa", sum := "14a2d15301b16c1922d3ef8bf1b7ef5f2af98c3bbf13103e8cc7373fdc620259", func := "corncrib/corncriblaw16.OnceClears", spec := "onceClears", inPlace := ["internal/reflectlite.TypeOf"], unfollowed := true, recurses := true, plainKeys := false, apart := false }
def OnceClearsSaid : Prop := onceClearsRow.holds Try.pinned (OpenSpec.ofChange onceClearsSpec)

/-- ITS FALSE NEIGHBOUR: 'it returns false'. Refute it at one input. -/
def onceClearsWrong : ChangeSpec := { name := "onceClears", fn := fun _ => fun
  | [d] => { results := [.lit (.bool false)], args := [d] }
  | _ => none }
def OnceClearsWrongFalsely : Prop := onceClearsRow.holds Try.pinned (OpenSpec.ofChange onceClearsWrong)

/- THE SECOND FORM. 'bulk': how many values and letters a reading holds, each counted each time it is reached (what is shared counts as often as it is met; a slice's spare places count too). A statement '..UptoSaid' is the law's where the arguments, and the package variables that the reading takes, are together of bulk at most 1048576: NARROWER than '..Said'. Prove '..Said' where nothing that the law and all that it calls make is longer than what came in: it says more and counts as full. Else prove '..UptoSaid'. A law counts once. -/
mutual
def uptoBulk {H : Type} : DataW H → Nat
  | .lit (.string bytes) => bytes.length + 1
  | .lit _ => 1
  | .nil => 1
  | .ptr d => uptoBulk d + 1
  | .slice elems spare => uptoBulkAll elems + uptoBulkAll spare + 1
  | .agg parts => uptoBulkAll parts + 1
  | .iface _ d => uptoBulk d + 1
  | .map entries => uptoBulkEntries entries + 1
  | .held _ => 1
def uptoBulkAll {H : Type} : List (DataW H) → Nat
  | [] => 0
  | d :: r => uptoBulk d + uptoBulkAll r
def uptoBulkEntries {H : Type} : List (Lit × DataW H) → Nat
  | [] => 0
  | x :: r => uptoBulkEntry x + uptoBulkEntries r
def uptoBulkEntry {H : Type} : Lit × DataW H → Nat
  | (.string bytes, d) => bytes.length + uptoBulk d + 1
  | (_, d) => uptoBulk d + 1
 end
def uptoSmall : (H : Type) → List (DataW H) → Bool := fun _ ds => decide (uptoBulkAll ds ≤ 1048576)
def OpenSpec.upto (s : _root_.Go.ChangeSpec) : _root_.Go.OpenSpec := { _root_.Go.OpenSpec.ofChange s with cond := some uptoSmall }

/-- 'corncriblaw16.OncePlays', WHERE WHAT IT READS IS OF BULK AT MOST 1048576: true; the input reads as it did. -/
def oncePlaysUptoRow : OpenClaim := { program := "ytncfdkkekaninaa", sum := "14a2d15301b16c1922d3ef8bf1b7ef5f2af98c3bbf13103e8cc7373fdc620259", func := "corncrib/corncriblaw16.OncePlays", spec := "oncePlays", inPlace := ["internal/reflectlite.TypeOf"], unfollowed := true, recurses := true, plainKeys := false, apart := false, narrowed := true }
def OncePlaysUptoSaid : Prop := oncePlaysUptoRow.holds Try.pinned (OpenSpec.upto oncePlaysSpec)

/-- 'corncriblaw16.OnceOwn', WHERE WHAT IT READS IS OF BULK AT MOST 1048576: true; the input reads as it did. -/
def onceOwnUptoRow : OpenClaim := { program := "ytncfdkkekaninaa", sum := "14a2d15301b16c1922d3ef8bf1b7ef5f2af98c3bbf13103e8cc7373fdc620259", func := "corncrib/corncriblaw16.OnceOwn", spec := "onceOwn", inPlace := ["internal/reflectlite.TypeOf"], unfollowed := true, recurses := true, plainKeys := false, apart := false, narrowed := true }
def OnceOwnUptoSaid : Prop := onceOwnUptoRow.holds Try.pinned (OpenSpec.upto onceOwnSpec)

/-- 'corncriblaw16.OnceKeys', WHERE WHAT IT READS IS OF BULK AT MOST 1048576: true; the input reads as it did. -/
def onceKeysUptoRow : OpenClaim := { program := "ytncfdkkekaninaa", sum := "14a2d15301b16c1922d3ef8bf1b7ef5f2af98c3bbf13103e8cc7373fdc620259", func := "corncrib/corncriblaw16.OnceKeys", spec := "onceKeys", inPlace := ["internal/reflectlite.TypeOf"], unfollowed := true, recurses := true, plainKeys := false, apart := false, narrowed := true }
def OnceKeysUptoSaid : Prop := onceKeysUptoRow.holds Try.pinned (OpenSpec.upto onceKeysSpec)

/-- 'corncriblaw16.OnceClears', WHERE WHAT IT READS IS OF BULK AT MOST 1048576: true; the input reads as it did. -/
def onceClearsUptoRow : OpenClaim := { program := "ytncfdkkekaninaa", sum := "14a2d15301b16c1922d3ef8bf1b7ef5f2af98c3bbf13103e8cc7373fdc620259", func := "corncrib/corncriblaw16.OnceClears", spec := "onceClears", inPlace := ["internal/reflectlite.TypeOf"], unfollowed := true, recurses := true, plainKeys := false, apart := false, narrowed := true }
def OnceClearsUptoSaid : Prop := onceClearsUptoRow.holds Try.pinned (OpenSpec.upto onceClearsSpec)

end Rows
end Go.Proofs.Ytncfdkkekaninaa
