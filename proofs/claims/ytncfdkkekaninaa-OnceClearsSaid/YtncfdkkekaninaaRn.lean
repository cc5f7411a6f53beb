/- The document's net (layer 15) by contracts: Apart, without. -/
import Derived.Test.YtncfdkkekaninaaChecked
import Derived.Test.YtncfdkkekaninaaNetp
import Derived.Test.YtncfdkkekaninaaBlk
import Derived.WalkKit
import Derived.ProofKit
import Derived.Lib.Hide
set_option linter.unusedVariables false
set_option linter.unusedSimpArgs false
namespace Go.Proofs.Ytncfdkkekaninaa
open Go.RowKit Go.Cor

/-- A pair's cells, a message's cells. -/
def pcl (p : Int × Int) : List Value := [.int .i64 p.1, .int .i64 p.2]
theorem pcl_len (p : Int × Int) : (pcl p).length = 2 := rfl
def mcl (x : Msg × Value) : List Value := [.int .i64 x.1.fr, .int .i64 x.1.to, .int .i64 x.1.kd, .int .i64 x.1.vo, .int .i64 x.1.li, .int .u64 (x.1.id : Int), .int .i64 x.1.co, .bool x.1.has, .int .u64 (x.1.n.key : Int), .int .u32 (x.1.n.cookie : Int), .bool x.1.n.gone, x.2]
theorem mcl_len (x : Msg × Value) : (mcl x).length = 12 := rfl
/-- A slice of messages, a slice of pairs. -/
def IsM (w : World) (v : Value) (l : List (Msg × Value)) : Prop := IsX w 12 v l.length (row mcl l) ∧ ∀ x ∈ l, IsB w x.2 x.1.n.data ∧ x.2.oneCell' = true
def IsC (w : World) (v : Value) (c : List (Int × Int)) : Prop := IsX w 2 v c.length (row pcl c)
theorem row2_at (c : List (Int × Int)) {i : Nat} {x : Int × Int} (hx : c[i]? = some x) (j : Nat) (hj : j < 2) : (row pcl c)[i * 2 + j]? = (pcl x)[j]? := row_get pcl_len hx j hj
theorem Try.sizeMsg : (Try.prog.info? 36).map (·.size) = some 12 := by kernel_rfl
theorem Try.infoMsg14 : (Try.prog.info? 36).map (fun i => (i.zero, i.size, i.bytes)) = some (some (.agg #[.int .i64 0, .int .i64 0, .int .i64 0, .int .i64 0, .int .i64 0, .int .u64 0, .int .i64 0, .bool false, .int .u64 0, .int .u32 0, .bool false, .slice none 0 0]), 12, 104) := by kernel_rfl
theorem IsM.one {w : World} {v : Value} {l : List (Msg × Value)} (h : IsM w v l) : ∀ u ∈ row mcl l, u.oneCell' = true := row_mem fun x hx u hu => by
  simp only [mcl, List.mem_cons, List.not_mem_nil, or_false] at hu
  rcases hu with rfl | rfl | rfl | rfl | rfl | rfl | rfl | rfl | rfl | rfl | rfl | rfl
  all_goals first | rfl | exact (h.2 x hx).2
theorem IsM.mono {w w' : World} {v : Value} {l : List (Msg × Value)} {B : Nat} (h : IsM w v l) (hb : Below B w w') (hB : w.heap.size ≤ B) : IsM w' v l := ⟨h.1.mono hb hB, fun x hx => ⟨(h.2 x hx).1.mono hb hB, (h.2 x hx).2⟩⟩
end Go.Proofs.Ytncfdkkekaninaa
