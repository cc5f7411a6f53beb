/- Bytes, Kept, Row, Ixp, Crc, Ndl, Vst, Mis. -/
import Derived.WalkKit
import Derived.Laws.CopyOwn
import Derived.Laws.OwnMore
import Derived.Laws.MakeOwn
import Derived.Below
import Derived.Lib.Hide
import Derived.BigFrame
import Derived.Laws.Bits64
import Derived.Laws.BitsAllLaws
import Derived.Maps.AppendAt
import Derived.Lib.AppendZerosOnto
import Derived.ArgAppend

section
namespace Go.Cor
open Go.RowKit

/-- A byte as a value. -/
abbrev bv (x : UInt8) : Value := .int .u8 (x.toNat : Int)
def bvs (l : List UInt8) : List Value := l.map bv
theorem bvs_append (l r : List UInt8) : bvs (l ++ r) = bvs l ++ bvs r := by simp [bvs]
theorem bvs_nil : bvs [] = [] := rfl
theorem bvs_cons (x : UInt8) (r : List UInt8) : bvs (x :: r) = bv x :: bvs r := rfl
@[simp] theorem length_bvs (l : List UInt8) : (bvs l).length = l.length := by simp [bvs]

/-- v is a slice of bytes that reads as l. -/
def IsB (w : World) (v : Value) (l : List UInt8) : Prop :=
  ∃ a cap, v = .slice a l.length cap ∧ l.length ≤ cap ∧ cap ≤ maxLen ∧
    (a = none → cap = 0) ∧ (l.length = 0 ∨ ∃ b off, a = some ⟨b, off, none⟩ ∧ ∀ i, i < l.length → w.cell? ⟨b, off + i, none⟩ = some (bv (l.getD i 0)))

theorem cell_lt {w : World} {p : Addr} {v : Value} (h : w.cell? p = some v) : p.block < w.heap.size := by
  by_cases hb : p.block < w.heap.size
  · exact hb
  · simp [World.cell?, Array.getElem?_eq_none (Nat.le_of_not_lt hb)] at h

theorem IsB.mono {w w' : World} {v : Value} {l : List UInt8} {B : Nat} (h : IsB w v l) (hb : Below B w w') (hB : w.heap.size ≤ B) : IsB w' v l := by
  obtain ⟨a, cap, rfl, h1, h2, h0, h3⟩ := h
  refine ⟨a, cap, rfl, h1, h2, h0, ?_⟩
  rcases h3 with h3 | ⟨b, off, rfl, hc⟩
  · exact .inl h3
  · refine .inr ⟨b, off, rfl, fun i hi => ?_⟩
    have := hc i hi
    rw [hb.cell (by have := cell_lt this; simp at this; simp; omega)]
    exact this

/-- The slice named, at its length. -/
theorem IsB.at_len {w : World} {v : Value} {l : List UInt8} {n : Nat} (h : IsB w v l) (hn : l.length = n) : ∃ x cap, v = .slice x n cap ∧ n ≤ cap ∧ cap ≤ maxLen := by
  obtain ⟨x, cap, rfl, h1, h2, _, _⟩ := h
  subst hn
  exact ⟨x, cap, rfl, h1, h2⟩
theorem IsB.nil (w : World) : IsB w (.slice none 0 0) [] := ⟨none, 0, rfl, Nat.le_refl _, Nat.zero_le _, fun _ => rfl, .inl rfl⟩

theorem bvs_get {l : List UInt8} {i : Nat} (h : i < l.length) : (bvs l)[i]? = some (bv (l.getD i 0)) := by
  simp [bvs, List.getElem?_map, List.getElem?_eq_getElem h, List.getD_eq_getElem?_getD]

theorem bvs_one (l : List UInt8) : ∀ v ∈ bvs l, v.oneCell' = true := by
  intro v hv
  obtain ⟨x, _, rfl⟩ := List.mem_map.1 hv
  rfl

/-- What a call made itself reads. -/
theorem IsB.own {w : World} {base : Nat} {e : TypeId} {v : Value} {l : List UInt8} {n : Nat} (h : w.ownsRow base e 1 v n (bvs l)) (hn : n = l.length) : IsB w v l := by
  subst hn
  rcases h.2 with ⟨rfl, h0⟩ | ⟨g, cap, cur, rfl, _, hg, hc, hm, hs, ht⟩
  · have : l = [] := List.eq_nil_of_length_eq_zero h0
    subst this
    exact IsB.nil w
  · refine ⟨_, cap, rfl, hc, hm, by simp, .inr ⟨g, 0, rfl, fun i hi => ?_⟩⟩
    have h2 := h.cells (g := g) rfl i (bv (l.getD i 0)) (bvs_get hi)
    have hadd : (⟨g, 0, none⟩ : Addr).add i = ⟨g, 0 + i, none⟩ := by unfold Addr.add; split <;> simp_all
    rw [hadd] at h2
    exact h2

theorem add_lit (b off i : Nat) : (⟨b, off, none⟩ : Addr).add i = ⟨b, off + i, none⟩ := by unfold Addr.add; split <;> simp_all

/-- A piece of a slice. -/
theorem IsB.sub {w : World} {x : Option Addr} {n cap j k : Nat} {l : List UInt8} (h : IsB w (.slice x n cap) l) (hjk : j + k ≤ l.length) :
    IsB w (.slice (x.map fun a => a.add j) k (cap - j)) ((l.drop j).take k) := by
  obtain ⟨a, c, e, h1, h2, h0, h3⟩ := h
  cases e
  have hlen : ((l.drop j).take k).length = k := by simp; omega
  refine ⟨_, _, by rw [hlen], by rw [hlen]; omega, by omega, fun hx => ?_, ?_⟩
  · have : x = none := by simpa using hx
    rw [h0 this]
    omega
  · rw [hlen]
    rcases h3 with h3 | ⟨b, off, rfl, hc⟩
    · exact .inl (by omega)
    · refine .inr ⟨b, off + j, by simp [add_lit], fun i hi => ?_⟩
      rw [show off + j + i = off + (j + i) from by omega, hc (j + i) (by omega)]
      congr 2
      simp only [List.getD_eq_getElem?_getD, List.getElem?_take, if_pos hi, List.getElem?_drop]

theorem IsB.take {w : World} {x : Option Addr} {n cap j : Nat} {l : List UInt8} (h : IsB w (.slice x n cap) l) (hj : j ≤ l.length) : IsB w (.slice x j cap) (l.take j) := by
  obtain ⟨a, c, e, h1, h2, h0, h3⟩ := h
  cases e
  have hlen : (l.take j).length = j := by simp; omega
  refine ⟨_, _, by rw [hlen], by rw [hlen]; omega, by omega, h0, ?_⟩
  rw [hlen]
  rcases h3 with h3 | ⟨b, off, rfl, hc⟩
  · exact .inl (by omega)
  · refine .inr ⟨b, off, rfl, fun i hi => ?_⟩
    rw [hc i (by omega)]
    congr 2
    simp only [List.getD_eq_getElem?_getD, List.getElem?_take, if_pos hi]

theorem IsB.drop {w : World} {x : Option Addr} {n cap j : Nat} {l : List UInt8} (h : IsB w (.slice x n cap) l) (hj : j ≤ l.length) :
    IsB w (.slice (x.map fun a => a.add j) (l.length - j) (cap - j)) (l.drop j) := by
  have := h.sub (j := j) (k := l.length - j) (by omega)
  rw [List.take_of_length_le (by simp)] at this
  exact this

/-- A list of bytes that was written out. -/
theorem IsB.lit (w : World) (l : List UInt8) (U : TypeId) (h : l.length ≤ maxLen) : IsB (w.alloc (.cells (bvs l).toArray U)) (.slice (some ⟨w.heap.size, 0, none⟩) l.length l.length) l := by
  have := World.ownsRow_lit (base := w.heap.size) (e := U) (size := 1) w (bvs l).toArray l.length (Nat.le_refl _) h (by simp)
  exact IsB.own (l := l) (by simpa using this) rfl

theorem ownsRow_below {w w' : World} {base : Nat} {e : TypeId} {size : Nat} {v : Value} {n : Nat} {xs : List Value} {B : Nat} (h : w.ownsRow base e size v n xs) (hb : Below B w w') (hB : w.heap.size ≤ B) : w'.ownsRow base e size v n xs := by
  refine ⟨h.1, ?_⟩
  rcases h.2 with h2 | ⟨g, cap, cur, h1, h2, h3, h4⟩
  · exact .inl h2
  · refine .inr ⟨g, cap, cur, h1, h2, ?_, h4⟩
    have : g < w.heap.size := (Array.getElem?_eq_some_iff.1 h3).1
    rw [hb.block g (by omega)]
    exact h3

theorem ownsRow_base {w : World} {base base' : Nat} {e : TypeId} {size : Nat} {v : Value} {n : Nat} {xs : List Value} (h : w.ownsRow base e size v n xs) (hB : base' ≤ base) : w.ownsRow base' e size v n xs := by
  refine ⟨h.1, ?_⟩
  rcases h.2 with h2 | ⟨g, cap, cur, h1, h2, h3⟩
  · exact .inl h2
  · exact .inr ⟨g, cap, cur, h1, by omega, h3⟩

/-- Bytes behind a row of the call's own, whatever slice they come from. -/
theorem run_append_B {P : Program} (w : World) (base : Nat) (T U ty : TypeId) (i : TypeInfo) (ht : P.underlying T = some (.slice U)) (hi : P.info? U = some i) (hz : i.zero = some (.int .u8 0)) (hsize : i.size = 1) (hby : i.bytes = 1)
    (v : Value) (xs : List UInt8) (n : Nat) (hn : n = xs.length) (hown : w.ownsRow base U 1 v n (bvs xs)) (sv : Value) (ys : List UInt8) (hs : IsB w sv ys) (hlen : xs.length + ys.length ≤ 1099511627776) (hbase : base ≤ w.heap.size) :
    ∃ v' w', (Builtin.append_ #[T, T] ty #[v, sv]).run P w = .ok v' w' ∧ w'.ownsRow base U 1 v' (xs ++ ys).length (bvs (xs ++ ys)) ∧ w.grownBy w' v.ownBlock := by
  subst hn
  obtain ⟨a, cap, rfl, hlc, hcm, hnc, hcell⟩ := hs
  by_cases ha : a = none
  · subst ha
    obtain rfl := hnc rfl
    obtain rfl : ys = [] := List.eq_nil_of_length_eq_zero (by omega)
    exact ⟨v, w, run_append_owned_none (P := P) w base T ty U i 1 ht hi v _ _ hown, by simpa using hown, ⟨rfl, rfl, rfl, Nat.le_refl _, fun _ _ _ => rfl⟩⟩
  · obtain ⟨ad, rfl⟩ := Option.ne_none_iff_exists'.1 ha
    obtain ⟨v', w', h1, h2, h3, _⟩ := run_append_own (P := P) w base T ty U i (.int .u8 0) 1 1 ht hi hz hsize hby rfl (by decide) v xs.length (bvs xs) hown ad ys.length cap (bvs ys) (by simp)
      (fun j u hj => by
        have hjl : j < ys.length := by
          have := (List.getElem?_eq_some_iff.1 hj).1
          simpa using this
        rcases hcell with h0 | ⟨b, off, e, hc⟩
        · omega
        cases e
        rw [bvs_get hjl] at hj
        cases hj
        have hadd : (⟨b, off, none⟩ : Addr).add j = ⟨b, off + j, none⟩ := by unfold Addr.add; split <;> simp_all
        rw [hadd]
        exact hc j hjl) (bvs_one ys) (by unfold maxLen; omega) (by omega) hbase
    exact ⟨v', w', h1, by rw [bvs_append, List.length_append]; exact h2, h3⟩

theorem wpList_append_B {P : Program} {w : World} {ops : Array Oper} {rest : List Oper} {o : Oper} {a : Act} {Q : Exit → Act → World → Prop} (hw : Region.wanted o (yielded ops a.tmps) = true) (s x : Operand) (T : TypeId)
    (ho : o.op = .call { callee := .builtin .append, args := #[s, x], argTypes := #[T, T] })
    (base : Nat) (U : TypeId) (i : TypeInfo) (ht : P.underlying T = some (.slice U)) (hi : P.info? U = some i) (hz : i.zero = some (.int .u8 0)) (hsize : i.size = 1) (hby : i.bytes = 1)
    (v : Value) (xs : List UInt8) (n : Nat) (hs : a.eval s = v) (hown : w.ownsRow base U 1 v n (bvs xs)) (hn : n = xs.length) (sv : Value) (ys : List UInt8) (hx : a.eval x = sv) (hv : IsB w sv ys) (hlen : xs.length + ys.length ≤ 1099511627776) (hbase : base ≤ w.heap.size)
    (h : ∀ v' w', w'.ownsRow base U 1 v' (xs ++ ys).length (bvs (xs ++ ys)) → Below base w w' → wpList P ops Q rest (a.put o.dst v') w') : wpList P ops Q (o :: rest) a w := by
  refine BigFrame.wpList_want hw fun K hK => ?_
  obtain ⟨v', w', hr, h2, h3⟩ := run_append_B (P := P) w base T U o.type i ht hi hz hsize hby v xs n hn hown sv ys hv hlen hbase
  unfold Oper.wp execOp
  simp only [ho, resolve, invoke, builtin, Sem.run_bind, Sem.run_pure, Result.andThen_ok, List.map_toArray, List.map_cons, List.map_nil, hs, hx, hr]
  exact hK _ _ (h v' w' h2 ((Below.refl _ _).grown h3 hbase fun j hj => (hown.lt j hj).1))

/-- The lowest k bytes of n, the lowest first. -/
def le : Nat → Nat → List UInt8
  | _, 0 => []
  | n, k + 1 => UInt8.ofNat n :: le (n / 256) k

/-- The number of bytes, the lowest first. -/
def num : List UInt8 → Nat
  | [] => 0
  | x :: r => x.toNat + 256 * num r

theorem length_le (n k : Nat) : (le n k).length = k := by
  induction k generalizing n with
  | zero => rfl
  | succ k ih => simp [le, ih]

theorem le_snoc (n k : Nat) : le n (k + 1) = le n k ++ [UInt8.ofNat (n / 256 ^ k)] := by
  induction k generalizing n with
  | zero => simp [le]
  | succ k ih =>
    rw [le, ih, le, List.cons_append]
    congr 3
    rw [Nat.div_div_eq_div_mul, Nat.pow_succ, Nat.mul_comm]

theorem num_le (n k : Nat) : num (le n k) = n % 256 ^ k := by
  induction k generalizing n with
  | zero => simp [le, num, Nat.mod_one]
  | succ k ih =>
    simp only [le, num, ih, UInt8.toNat_ofNat']
    rw [show 256 ^ (k + 1) = 256 * 256 ^ k from by rw [Nat.pow_succ, Nat.mul_comm], Nat.mod_mul]

theorem num_lt (l : List UInt8) : num l < 256 ^ l.length := by
  induction l with
  | nil => simp [num]
  | cons x r ih =>
    simp only [num, List.length_cons, Nat.pow_succ]
    have := x.toNat_lt
    omega

theorem num_append (l r : List UInt8) : num (l ++ r) = num l + 256 ^ l.length * num r := by
  induction l with
  | nil => simp [num]
  | cons x l ih =>
    simp only [List.cons_append, num, ih, List.length_cons, Nat.pow_succ]
    rw [Nat.mul_add, Nat.mul_comm (256 ^ l.length) 256, Nat.mul_assoc, Nat.add_assoc]

theorem num_take_step (l : List UInt8) (i k : Nat) (h : i < l.length) :
    num ((l.drop i).take (k + 1)) = (l[i]?.getD 0).toNat + 256 * num ((l.drop (i + 1)).take k) := by
  rw [List.drop_eq_getElem_cons h, List.take_succ_cons, List.getElem?_eq_getElem h]
  rfl

theorem shl8_or (m x : Nat) (hm : m < 72057594037927936) (hx : x < 256) : bits .or .u64 ((m : Int) * 256) (x : Int) = ((x + 256 * m : Nat) : Int) := by
  have e1 : (m : Int) * 256 = ((m * 256 : Nat) : Int) := by omega
  rw [e1, u64_or_nat _ _ (by omega) (by omega), nat_join 8 (m * 256) x (by omega) (by omega)]
  congr 1
  omega

theorem num_take_lt (l : List UInt8) (k : Nat) (h : k ≤ 7) : num (l.take k) < 72057594037927936 := by
  have h1 := num_lt (l.take k)
  have h2 : (l.take k).length ≤ 7 := by simp; omega
  have h3 : 256 ^ (l.take k).length ≤ 256 ^ 7 := Nat.pow_le_pow_right (by decide) h2
  have h4 : (256 : Nat) ^ 7 = 72057594037927936 := by decide
  omega

theorem copy_made {P : Program} (w : World) (T elem ty : TypeId) (hu : P.underlying T = some (.slice elem)) (hs1 : (P.info? elem).map (·.size) = some 1) (v : Value) (l : List UInt8) (hv : IsB w v l) (s : Nat) (hm : l.length + s ≤ maxLen) :
    ∃ w2, (Builtin.copy_ #[T, T] ty #[.slice (some ⟨w.heap.size, 0, none⟩) l.length (l.length + s), v]).run P (w.alloc (.cells (madeCells #[.int .u8 0] (l.length + s)) elem)) = .ok (goInt l.length) w2 ∧
      w2.ownsRow w.heap.size elem 1 (.slice (some ⟨w.heap.size, 0, none⟩) l.length (l.length + s)) l.length (bvs l) ∧ Below w.heap.size w w2 := by
  obtain ⟨a, cap, rfl, hlc, hcm, _, hcell⟩ := hv
  have hb1 : Below w.heap.size w (w.alloc (.cells (madeCells #[.int .u8 0] (l.length + s)) elem)) := (Below.refl _ _).alloc (Nat.le_refl _) _
  by_cases h0 : l.length = 0
  · obtain rfl : l = [] := List.eq_nil_of_length_eq_zero h0
    refine ⟨_, run_copy_none (P := P) _ T T ty elem _ a 0 _ 0 cap hu hs1 (by simp), ?_, hb1⟩
    exact ⟨rfl, .inr ⟨_, _, _, rfl, Nat.le_refl _, heap_alloc_new w _, Nat.zero_le _, hm, by simp [size_madeCells], by simp [bvs_nil]⟩⟩
  · rcases hcell with h0' | ⟨b, off, rfl, hc⟩
    · omega
    · have hr := run_copy_row (P := P) (w.alloc (.cells (madeCells #[.int .u8 0] (l.length + s)) elem)) T T ty elem w.heap.size 0 l.length (l.length + s) ⟨b, off, none⟩ l.length cap (madeCells #[.int .u8 0] (l.length + s)) elem (bvs l) hu hs1 (heap_alloc_new w _) (by simp)
        (fun j u hj => by
          have hjl : j < l.length := by
            have := (List.getElem?_eq_some_iff.1 hj).1
            simpa using this
          rw [bvs_get hjl] at hj
          cases hj
          have hadd : (⟨b, off, none⟩ : Addr).add j = ⟨b, off + j, none⟩ := by unfold Addr.add; split <;> simp_all
          rw [hadd, World.cell?_alloc_past _ _ _ (cell_lt (hc j hjl))]
          exact hc j hjl) (by simp [size_madeCells]) (bvs_one l)
      refine ⟨_, by simpa using hr, ?_, below_setRow hb1 (Nat.le_refl _) _⟩
      refine ⟨by simp, .inr ⟨w.heap.size, l.length + s, (bvs l ++ (madeCells #[.int .u8 0] (l.length + s)).toList.drop l.length).toArray, rfl, Nat.le_refl _, ?_, by omega, hm, ?_, ?_⟩⟩
      · exact setRow_heap _ _ _ _ _ _ (heap_alloc_new w _)
      · simp [size_madeCells]
      · simp

end Go.Cor
end

section
namespace Go.Cor
open Go.RowKit

/-- Of the blocks that there were, none but those of S has turned. -/
structure Kept (S : Nat → Prop) (w w' : World) : Prop where
  os : w'.os = w.os
  tape : w'.tape = w.tape
  output : w'.output = w.output
  size : w.heap.size ≤ w'.heap.size
  block : ∀ k, k < w.heap.size → ¬ S k → w'.heap[k]? = w.heap[k]?

theorem Kept.refl (S : Nat → Prop) (w : World) : Kept S w w := ⟨rfl, rfl, rfl, Nat.le_refl _, fun _ _ _ => rfl⟩
/-- One call behind the other: what the second one may write is the first one's, or was made by it. -/
theorem Kept.trans {S T : Nat → Prop} {a b c : World} (h : Kept S a b) (k : Kept T b c) (hT : ∀ j, T j → j < a.heap.size → S j) : Kept S a c :=
  ⟨k.os.trans h.os, k.tape.trans h.tape, k.output.trans h.output, Nat.le_trans h.size k.size,
    fun i hi hs => (k.block i (Nat.lt_of_lt_of_le hi h.size) (fun ht => hs (hT i ht hi))).trans (h.block i hi hs)⟩
theorem Kept.mono {S T : Nat → Prop} {w w' : World} (h : Kept S w w') (hT : ∀ k, k < w.heap.size → S k → T k) : Kept T w w' :=
  ⟨h.os, h.tape, h.output, h.size, fun k hk hn => h.block k hk (fun hs => hn (hT k hk hs))⟩
theorem Kept.of_below {S : Nat → Prop} {w w' : World} {B : Nat} (h : Below B w w') (hB : w.heap.size ≤ B) : Kept S w w' :=
  ⟨h.os, h.tape, h.output, h.size, fun k hk _ => h.block k (by omega)⟩
theorem Kept.below {S : Nat → Prop} {w w' : World} {B : Nat} (h : Kept S w w') (hB : B ≤ w.heap.size) (hS : ∀ k, k < B → ¬ S k) : Below B w w' :=
  ⟨h.os, h.tape, h.output, h.size, fun k hk => h.block k (by omega) (hS k hk)⟩
theorem Kept.cell {S : Nat → Prop} {w w' : World} (h : Kept S w w') {p : Addr} {v : Value} (hp : w.cell? p = some v) (hs : ¬ S p.block) : w'.cell? p = some v :=
  (World.cell?_of_block (w := w) (h.block p.block (cell_lt hp) hs)).trans hp
theorem Kept.frozen {S : Nat → Prop} {w w' : World} (h : Kept S w w') {p : Addr} (hp : p.block < w.heap.size) (hs : ¬ S p.block) : w'.frozen? p = w.frozen? p :=
  World.frozen?_of_block (w := w) (h.block p.block hp hs)
theorem Kept.alloc {S : Nat → Prop} {a w : World} (h : Kept S a w) (o : Obj) : Kept S a (w.alloc o) :=
  h.trans (T := fun _ => False) ⟨rfl, rfl, rfl, by simp, fun k hk _ => Below.heap_alloc _ _ _ hk⟩ (fun _ h => h.elim)
theorem Kept.drew {S : Nat → Prop} {a w : World} (h : Kept S a w) : Kept S a w.drew := ⟨h.os, h.tape, h.output, h.size, h.block⟩
theorem Kept.setCell {S : Nat → Prop} {a w : World} (h : Kept S a w) {p : Addr} (hp : S p.block ∨ a.heap.size ≤ p.block) (u : Value) : Kept S a (w.setCell p u) :=
  h.trans (T := fun k => k = p.block) ⟨rfl, rfl, rfl, by simp [World.setCell], fun k _ hk => Below.heap_setCell _ _ _ _ hk⟩ (fun j e hj => by
    subst e
    rcases hp with hp | hp
    · exact hp
    · omega)
theorem Kept.grown {S : Nat → Prop} {a w w' : World} {row : Option Nat} (h : Kept S a w) (hg : w.grownBy w' row) (hr : ∀ k, row = some k → S k ∨ a.heap.size ≤ k) : Kept S a w' :=
  h.trans (T := fun k => row = some k) ⟨hg.os, hg.tape, hg.output, hg.size, fun k hk hn => hg.block k hk (fun e => hn e.symm)⟩ (fun j e hj => by
    rcases hr j e with h | h
    · exact h
    · omega)

/-- Where bytes lie: in no block, if there are none. -/
def liesB (v : Value) (l : List UInt8) (k : Nat) : Prop := l.length ≠ 0 ∧ v.ownBlock = some k
theorem IsB.lies_lt {w : World} {v : Value} {l : List UInt8} (h : IsB w v l) {k : Nat} (hk : liesB v l k) : k < w.heap.size := by
  obtain ⟨a, cap, rfl, h1, h2, h0, h3⟩ := h
  obtain ⟨hl, hk⟩ := hk
  rcases h3 with h3 | ⟨b, off, rfl, hc⟩
  · exact absurd h3 hl
  · have e : b = k := by simpa [Value.ownBlock] using hk
    subst e
    exact cell_lt (hc 0 (by omega))
theorem IsB.kept {S : Nat → Prop} {w w' : World} {v : Value} {l : List UInt8} (h : IsB w v l) (hk : Kept S w w') (hs : ∀ k, liesB v l k → ¬ S k) : IsB w' v l := by
  obtain ⟨a, cap, rfl, h1, h2, h0, h3⟩ := h
  refine ⟨a, cap, rfl, h1, h2, h0, ?_⟩
  rcases h3 with h3 | ⟨b, off, rfl, hc⟩
  · exact .inl h3
  · refine .inr ⟨b, off, rfl, fun i hi => ?_⟩
    exact hk.cell (hc i hi) (hs b ⟨by omega, rfl⟩)
theorem ownsRow_kept {S : Nat → Prop} {w w' : World} {base : Nat} {e : TypeId} {size : Nat} {v : Value} {n : Nat} {xs : List Value} (h : w.ownsRow base e size v n xs) (hk : Kept S w w') (hs : ∀ k, v.ownBlock = some k → ¬ S k) : w'.ownsRow base e size v n xs := by
  refine ⟨h.1, ?_⟩
  rcases h.2 with h2 | ⟨g, cap, cur, rfl, h2, hg, h3⟩
  · exact .inl h2
  · have hlt : g < w.heap.size := (h.lt g rfl).2
    exact .inr ⟨g, cap, cur, rfl, h2, (hk.block g hlt (hs g rfl)).trans hg, h3⟩

end Go.Cor
end

section
namespace Go.Cor
open Go.RowKit

/-- A list of elements as cells. -/
def row {α : Type} (enc : α → List Value) (l : List α) : List Value := l.flatMap enc
theorem row_cons {α : Type} (enc : α → List Value) (x : α) (l : List α) : row enc (x :: l) = enc x ++ row enc l := rfl
theorem row_append {α : Type} (enc : α → List Value) (a b : List α) : row enc (a ++ b) = row enc a ++ row enc b := by simp [row]
theorem row_one {α : Type} (enc : α → List Value) (x : α) : row enc [x] = enc x := by simp [row]
theorem length_row {α : Type} {enc : α → List Value} {size : Nat} (h : ∀ x, (enc x).length = size) (l : List α) : (row enc l).length = l.length * size := by
  induction l with
  | nil => simp [row]
  | cons x r ih => rw [row_cons, List.length_append, ih, h, List.length_cons, Nat.add_mul, Nat.one_mul, Nat.add_comm]
theorem row_get {α : Type} {enc : α → List Value} {size : Nat} (h : ∀ x, (enc x).length = size) {l : List α} {i : Nat} {x : α} (hx : l[i]? = some x) (j : Nat) (hj : j < size) : (row enc l)[i * size + j]? = (enc x)[j]? := by
  induction l generalizing i with
  | nil => simp at hx
  | cons y r ih =>
    cases i with
    | zero =>
      simp only [List.getElem?_cons_zero, Option.some.injEq] at hx
      subst hx
      rw [Nat.zero_mul, Nat.zero_add, row_cons, List.getElem?_append_left (by rw [h]; exact hj)]
    | succ i =>
      rw [List.getElem?_cons_succ] at hx
      have e : (i + 1) * size + j = size + (i * size + j) := by rw [Nat.add_mul, Nat.one_mul]; omega
      rw [row_cons, e, List.getElem?_append_right (by rw [h]; exact Nat.le_add_right _ _), h, Nat.add_sub_cancel_left]
      exact ih hx
theorem row_take {α : Type} {enc : α → List Value} {size : Nat} (h : ∀ x, (enc x).length = size) (l : List α) (i : Nat) : (row enc l).take (i * size) = row enc (l.take i) := by
  induction l generalizing i with
  | nil => simp [row]
  | cons y r ih =>
    cases i with
    | zero => simp [row]
    | succ i =>
      have e : (i + 1) * size = (enc y).length + i * size := by rw [h, Nat.add_mul, Nat.one_mul, Nat.add_comm]
      rw [row_cons, List.take_succ_cons, row_cons, e, List.take_length_add_append, ih]
theorem row_drop {α : Type} {enc : α → List Value} {size : Nat} (h : ∀ x, (enc x).length = size) (l : List α) (i : Nat) : (row enc l).drop (i * size) = row enc (l.drop i) := by
  induction l generalizing i with
  | nil => simp [row]
  | cons y r ih =>
    cases i with
    | zero => simp [row]
    | succ i =>
      have e : (i + 1) * size = (enc y).length + i * size := by rw [h, Nat.add_mul, Nat.one_mul, Nat.add_comm]
      rw [row_cons, List.drop_succ_cons, e, List.drop_length_add_append, ih]
theorem row_mem {α : Type} {enc : α → List Value} {l : List α} (h : ∀ x ∈ l, ∀ v ∈ enc x, v.oneCell' = true) : ∀ v ∈ row enc l, v.oneCell' = true := by
  intro v hv
  obtain ⟨x, hx, hv⟩ := List.mem_flatMap.1 hv
  exact h x hx v hv

/-- v is a slice of n elements of so many cells each, which are cs. -/
def IsX (w : World) (size : Nat) (v : Value) (n : Nat) (cs : List Value) : Prop :=
  ∃ a cap, v = .slice a n cap ∧ n ≤ cap ∧ cap ≤ maxLen ∧ cs.length = n * size ∧ (a = none → cap = 0) ∧ (n = 0 ∨ ∃ b off, a = some ⟨b, off, none⟩ ∧ ∀ j, j < n * size → w.cell? ⟨b, off + j, none⟩ = cs[j]?)

theorem IsX.nil (w : World) (size : Nat) : IsX w size (.slice none 0 0) 0 [] := ⟨none, 0, rfl, Nat.le_refl _, Nat.zero_le _, by simp, fun _ => rfl, .inl rfl⟩
theorem IsX.slice {w : World} {size : Nat} {v : Value} {n : Nat} {cs : List Value} (h : IsX w size v n cs) : ∃ x c, v = .slice x n c ∧ n ≤ c ∧ c ≤ maxLen := by
  obtain ⟨a, cap, rfl, h1, h2, _⟩ := h
  exact ⟨a, cap, rfl, h1, h2⟩
/-- Where its cells lie: nowhere, if there are none. -/
def liesX (v : Value) (n : Nat) (k : Nat) : Prop := n ≠ 0 ∧ v.ownBlock = some k
theorem IsX.lies_lt {w : World} {size : Nat} {v : Value} {n : Nat} {cs : List Value} (h : IsX w size v n cs) (hs : 0 < size) {k : Nat} (hk : liesX v n k) : k < w.heap.size := by
  obtain ⟨a, cap, rfl, h1, h2, hl, h0, h3⟩ := h
  obtain ⟨hn, hk⟩ := hk
  rcases h3 with h3 | ⟨b, off, rfl, hc⟩
  · exact absurd h3 hn
  · have e : b = k := by simpa [Value.ownBlock] using hk
    subst e
    have hp : 0 < n * size := Nat.mul_pos (Nat.pos_of_ne_zero hn) hs
    have := hc 0 hp
    rw [List.getElem?_eq_getElem (by omega)] at this
    exact cell_lt this
theorem IsX.kept {S : Nat → Prop} {w w' : World} {size : Nat} {v : Value} {n : Nat} {cs : List Value} (h : IsX w size v n cs) (hk : Kept S w w') (hs : ∀ k, liesX v n k → ¬ S k) : IsX w' size v n cs := by
  obtain ⟨a, cap, rfl, h1, h2, hl, h0, h3⟩ := h
  refine ⟨a, cap, rfl, h1, h2, hl, h0, ?_⟩
  rcases h3 with h3 | ⟨b, off, rfl, hc⟩
  · exact .inl h3
  · by_cases hn : n = 0
    · exact .inl hn
    refine .inr ⟨b, off, rfl, fun j hj => ?_⟩
    have e := List.getElem?_eq_getElem (l := cs) (i := j) (by omega)
    rw [e]
    exact hk.cell ((hc j hj).trans e) (hs b ⟨hn, rfl⟩)
theorem IsX.mono {w w' : World} {size : Nat} {v : Value} {n : Nat} {cs : List Value} {B : Nat} (h : IsX w size v n cs) (hb : Below B w w') (hB : w.heap.size ≤ B) : IsX w' size v n cs :=
  h.kept (S := fun _ => False) (Kept.of_below hb hB) (fun _ _ h => h)
theorem IsX.own {w : World} {base : Nat} {e : TypeId} {size : Nat} {v : Value} {n : Nat} {cs : List Value} (h : w.ownsRow base e size v n cs) : IsX w size v n cs := by
  have hl := h.1
  rcases h.2 with ⟨rfl, h0⟩ | ⟨g, cap, cur, rfl, _, hg, hc, hm, hs, ht⟩
  · subst h0
    exact ⟨none, 0, rfl, Nat.le_refl _, Nat.zero_le _, hl, fun _ => rfl, .inl rfl⟩
  · refine ⟨_, cap, rfl, hc, hm, hl, by simp, .inr ⟨g, 0, rfl, fun j hj => ?_⟩⟩
    rw [Nat.zero_add]
    exact h.cellAt j hj
theorem IsX.take {w : World} {size : Nat} {x : Option Addr} {n cap j : Nat} {cs : List Value} (h : IsX w size (.slice x n cap) n cs) (hj : j ≤ n) : IsX w size (.slice x j cap) j (cs.take (j * size)) := by
  obtain ⟨a, c, e, h1, h2, hl, h0, h3⟩ := h
  cases e
  have hle : j * size ≤ n * size := Nat.mul_le_mul_right _ hj
  refine ⟨_, _, rfl, by omega, h2, by rw [List.length_take]; omega, h0, ?_⟩
  rcases h3 with h3 | ⟨b, off, rfl, hc⟩
  · exact .inl (by omega)
  · refine .inr ⟨b, off, rfl, fun i hi => ?_⟩
    rw [hc i (by omega), List.getElem?_take, if_pos hi]
theorem IsX.piece {w : World} {size : Nat} {x : Option Addr} {n cap lo hi : Nat} {cs : List Value} (h : IsX w size (.slice x n cap) n cs) (h1 : lo ≤ hi) (h2 : hi ≤ n) : IsX w size (sliced x lo hi cap size) (hi - lo) ((cs.drop (lo * size)).take ((hi - lo) * size)) := by
  obtain ⟨a, c, e, k1, k2, hl, k0, k3⟩ := h
  cases e
  have hm : lo * size + (hi - lo) * size ≤ n * size := by
    rw [← Nat.add_mul]
    exact Nat.mul_le_mul_right _ (by omega)
  unfold sliced
  refine ⟨_, _, rfl, by omega, by omega, by rw [List.length_take, List.length_drop]; omega, fun hx => ?_, ?_⟩
  · split at hx
    · omega
    · have : x = none := by simpa using hx
      rw [k0 this]
      omega
  · by_cases h0 : hi - lo = 0
    · exact .inl h0
    · rcases k3 with k3 | ⟨b, off, rfl, hc⟩
      · omega
      · rw [if_neg (by omega)]
        refine .inr ⟨b, off + lo * size, by simp [add_lit], fun i hi' => ?_⟩
        rw [show off + lo * size + i = off + (lo * size + i) from by omega, hc (lo * size + i) (by omega), List.getElem?_take, if_pos hi', List.getElem?_drop]
theorem len_X {P : Program} {w : World} {size : Nat} {v : Value} {n : Nat} {cs : List Value} (hv : IsX w size v n cs) (T ty U : TypeId) (ht : P.underlying T = some (.slice U)) (W : World) : (Builtin.len_ #[T] ty #[v]).run P W = .ok (.int .i64 (n : Int)) W := by
  obtain ⟨a, cap, rfl, _⟩ := hv
  have ht' : P.underlying T = some (.slice (P.elem T)) := by simp [Program.elem, ht]
  exact run_len_slice (P := P) W T ty a n cap ht'
/-- An index, and the cells of the element there. -/
theorem indexAt_X {P : Program} {w : World} {size : Nat} {v : Value} {n : Nat} {cs : List Value} (hv : IsX w size v n cs) (T U : TypeId) (ht : P.underlying T = some (.slice U)) (hs : (P.info? U).map (·.size) = some size) (i : Nat) (hi : i < n) :
    ∃ b o, (∀ W, (Instr.indexAt T v (.int .i64 (i : Int))).run P W = .ok (.pointer (some ⟨b, o, none⟩)) W) ∧ v.ownBlock = some b ∧ ∀ j, j < size → w.cell? ⟨b, o + j, none⟩ = cs[i * size + j]? := by
  obtain ⟨j, hj1, hj2⟩ := Option.map_eq_some_iff.1 hs
  obtain ⟨a, cap, rfl, k1, k2, hl, k0, k3⟩ := hv
  rcases k3 with k3 | ⟨b, off, rfl, hc⟩
  · omega
  refine ⟨b, off + i * size, fun W => ?_, rfl, fun j hj => ?_⟩
  · have ht' : P.underlying T = some (.slice (P.elem T)) := by simp [Program.elem, ht]
    have he : P.elem T = U := by simp [Program.elem, ht]
    have hsz : ∀ W, (sizeOf U).run P W = .ok size W := fun W => by simp [sizeOf, typeInfo, hj1, hj2]
    have h0 : (0 : Int) ≤ (i : Int) := by omega
    have h1 : (i : Int) < (n : Int) := by omega
    go_simp
  · have hle : (i + 1) * size ≤ n * size := Nat.mul_le_mul_right _ (by omega)
    rw [Nat.add_mul, Nat.one_mul] at hle
    rw [show off + i * size + j = off + (i * size + j) from by omega, hc _ (by omega)]
theorem slice_l_X {P : Program} {w : World} {size : Nat} {x : Option Addr} {n cap : Nat} {cs : List Value} (hv : IsX w size (.slice x n cap) n cs) (T U : TypeId) (ht : P.underlying T = some (.slice U)) (hs : (P.info? U).map (·.size) = some size) (lo : Nat) (h2 : lo ≤ n) :
    ∀ W, (Instr.slice T (.slice x n cap) (some (.int .i64 (lo : Int))) none none).run P W = .ok (sliced x lo n cap size) W := by
  obtain ⟨i, hi1, hi2⟩ := Option.map_eq_some_iff.1 hs
  obtain ⟨a, c, e, k1, k2, hl, k0, k3⟩ := hv
  cases e
  have ht' : P.underlying T = some (.slice (P.elem T)) := by simp [Program.elem, ht]
  have he : P.elem T = U := by simp [Program.elem, ht]
  have hsz : ∀ W, (sizeOf U).run P W = .ok size W := fun W => by simp [sizeOf, typeInfo, hi1, hi2]
  intro W
  rw [run_slice_l W T _ _ _ ht' .i64 _ (by omega) (by omega), he, hsz]
  simp [Result.andThen]
/-- s[:h], h up to the capacity. -/
theorem slice_h_X {P : Program} (size : Nat) (x : Option Addr) (n cap : Nat) (T U : TypeId) (ht : P.underlying T = some (.slice U)) (hs : (P.info? U).map (·.size) = some size) (hi : Nat) (h2 : hi ≤ cap) :
    ∀ W, (Instr.slice T (.slice x n cap) none (some (.int .i64 (hi : Int))) none).run P W = .ok (.slice x hi cap) W := by
  obtain ⟨i, hi1, hi2⟩ := Option.map_eq_some_iff.1 hs
  have ht' : P.underlying T = some (.slice (P.elem T)) := by simp [Program.elem, ht]
  have he : P.elem T = U := by simp [Program.elem, ht]
  have hsz : ∀ W, (sizeOf U).run P W = .ok size W := fun W => by simp [sizeOf, typeInfo, hi1, hi2]
  intro W
  rw [run_slice_h W T _ _ _ ht' .i64 _ (by omega) (by omega), he, hsz]
  by_cases hc0 : cap = 0
  · simp [Result.andThen, sliced, hc0]
  · have hadd : (x.map fun y => y.add 0) = x := by cases x <;> simp [Addr.add]
    simp [Result.andThen, sliced, hc0, hadd]

/-- s[l:h], h up to the capacity. -/
theorem slice_lh_C {P : Program} (size : Nat) (x : Option Addr) (n cap : Nat) (T U : TypeId) (ht : P.underlying T = some (.slice U)) (hs : (P.info? U).map (·.size) = some size) (lo hi : Nat) (h1 : lo ≤ hi) (h2 : hi ≤ cap) :
    ∀ W, (Instr.slice T (.slice x n cap) (some (.int .i64 (lo : Int))) (some (.int .i64 (hi : Int))) none).run P W = .ok (sliced x lo hi cap size) W := by
  obtain ⟨i, hi1, hi2⟩ := Option.map_eq_some_iff.1 hs
  have ht' : P.underlying T = some (.slice (P.elem T)) := by simp [Program.elem, ht]
  have he : P.elem T = U := by simp [Program.elem, ht]
  have hsz : ∀ W, (sizeOf U).run P W = .ok size W := fun W => by simp [sizeOf, typeInfo, hi1, hi2]
  intro W
  rw [run_slice_lh W T _ _ _ ht' .i64 .i64 _ _ (by omega) (by omega) (by omega), he, hsz]
  simp [Result.andThen]
theorem slice_l_C {P : Program} (size : Nat) (x : Option Addr) (n cap : Nat) (T U : TypeId) (ht : P.underlying T = some (.slice U)) (hs : (P.info? U).map (·.size) = some size) (lo : Nat) (h1 : lo ≤ n) :
    ∀ W, (Instr.slice T (.slice x n cap) (some (.int .i64 (lo : Int))) none none).run P W = .ok (sliced x lo n cap size) W := by
  obtain ⟨i, hi1, hi2⟩ := Option.map_eq_some_iff.1 hs
  have ht' : P.underlying T = some (.slice (P.elem T)) := by simp [Program.elem, ht]
  have he : P.elem T = U := by simp [Program.elem, ht]
  have hsz : ∀ W, (sizeOf U).run P W = .ok size W := fun W => by simp [sizeOf, typeInfo, hi1, hi2]
  intro W
  rw [run_slice_l W T _ _ _ ht' .i64 _ (by omega) (by omega), he, hsz]
  simp [Result.andThen]
/-- s[l:h:m]. -/
theorem slice_lhm_C {P : Program} (size : Nat) (x : Option Addr) (n cap : Nat) (T U : TypeId) (ht : P.underlying T = some (.slice U)) (hs : (P.info? U).map (·.size) = some size) (lo hi mx : Nat) (h1 : lo ≤ hi) (h2 : hi ≤ mx) (h3 : mx ≤ cap) :
    ∃ u, ∀ W, (Instr.slice T (.slice x n cap) (some (.int .i64 (lo : Int))) (some (.int .i64 (hi : Int))) (some (.int .i64 (mx : Int)))).run P W = .ok u W := by
  obtain ⟨i, hi1, hi2⟩ := Option.map_eq_some_iff.1 hs
  have ht' : P.underlying T = some (.slice (P.elem T)) := by simp [Program.elem, ht]
  have he : P.elem T = U := by simp [Program.elem, ht]
  have hsz : ∀ W, (sizeOf U).run P W = .ok size W := fun W => by simp [sizeOf, typeInfo, hi1, hi2]
  refine ⟨sliced x lo hi mx size, fun W => ?_⟩
  rw [run_slice_lhm W T _ _ _ ht' .i64 .i64 .i64 _ _ _ (by omega) (by omega) (by omega) (by omega), he, hsz]
  simp [Result.andThen]
theorem sliced_some (a : Addr) (lo hi cap size : Nat) : ∃ ad, sliced (some a) lo hi cap size = .slice (some ad) (hi - lo) (cap - lo) := by
  unfold sliced
  split
  · exact ⟨_, rfl⟩
  · exact ⟨_, rfl⟩
theorem sliced_at (g o lo hi cap size : Nat) (h : lo ≠ cap) : sliced (some ⟨g, o, none⟩) lo hi cap size = .slice (some ⟨g, o + lo * size, none⟩) (hi - lo) (cap - lo) := by
  unfold sliced
  rw [if_neg (by omega)]
  simp [add_lit]

theorem ownsRow_take {w : World} {base : Nat} {e : TypeId} {size : Nat} {x : Option Addr} {n cap j : Nat} {cs : List Value} (h : w.ownsRow base e size (.slice x n cap) n cs) (hj : j ≤ n) : w.ownsRow base e size (.slice x j cap) j (cs.take (j * size)) := by
  have hl := h.1
  have hle : j * size ≤ n * size := Nat.mul_le_mul_right _ hj
  refine ⟨by rw [List.length_take]; omega, ?_⟩
  rcases h.2 with ⟨hv, h0⟩ | ⟨g, cap', cur, hv, hb, hg, hc, hm, hs, ht⟩
  · cases hv
    exact .inl ⟨by rw [show j = 0 from by omega], by omega⟩
  · cases hv
    exact .inr ⟨g, cap, cur, rfl, hb, hg, by omega, hm, hs, by rw [← ht, List.take_take, Nat.min_eq_left hle]⟩
theorem ownsRow_slice {w : World} {base : Nat} {e : TypeId} {size : Nat} {v : Value} {n : Nat} {xs : List Value} (h : w.ownsRow base e size v n xs) : ∃ x c, v = .slice x n c ∧ n ≤ c ∧ c ≤ maxLen := by
  rcases h.2 with ⟨rfl, rfl⟩ | ⟨g, cap, cur, rfl, _, _, h1, h2, _⟩
  · exact ⟨_, _, rfl, Nat.le_refl _, Nat.zero_le _⟩
  · exact ⟨_, _, rfl, h1, h2⟩

/-- append of any slice of such elements to a row of the call's own. -/
theorem run_append_X {P : Program} (w : World) (base : Nat) (T U ty : TypeId) (i : TypeInfo) (z : Value) (size bytes : Nat) (ht : P.underlying T = some (.slice U)) (hi : P.info? U = some i) (hz : i.zero = some z) (hsize : i.size = size) (hby : i.bytes = bytes) (hzs : z.cells.size = size) (hsz : 0 < size)
    (v : Value) (xs : List Value) (n : Nat) (hown : w.ownsRow base U size v n xs) (sv : Value) (m : Nat) (ys : List Value) (hs : IsX w size sv m ys) (h1 : ∀ u ∈ ys, u.oneCell' = true) (h63 : n + m ≤ maxLen) (hbytes : (n + m) * bytes ≤ 140737488355328) (hbase : base ≤ w.heap.size) :
    ∃ v' w', (Builtin.append_ #[T, T] ty #[v, sv]).run P w = .ok v' w' ∧ w'.ownsRow base U size v' (n + m) (xs ++ ys) ∧ w.grownBy w' v.ownBlock ∧ (v'.ownBlock = v.ownBlock ∨ v'.ownBlock = some w.heap.size) := by
  obtain ⟨a, cap, rfl, hlc, hcm, hl, hnc, hcell⟩ := hs
  by_cases ha : a = none
  · subst ha
    obtain rfl := hnc rfl
    obtain rfl : m = 0 := by omega
    obtain rfl : ys = [] := List.eq_nil_of_length_eq_zero (by simpa using hl)
    exact ⟨v, w, run_append_owned_none (P := P) w base T ty U i size ht hi v _ _ hown, by simpa using hown, ⟨rfl, rfl, rfl, Nat.le_refl _, fun _ _ _ => rfl⟩, .inl rfl⟩
  · obtain ⟨ad, rfl⟩ := Option.ne_none_iff_exists'.1 ha
    obtain ⟨v', w', k1, k2, k3, _, k5⟩ := run_append_own_at (P := P) w base T ty U i z size bytes ht hi hz hsize hby hzs hsz v n xs hown ad m cap ys hl
      (fun j u hj => by
        have hjl : j < ys.length := (List.getElem?_eq_some_iff.1 hj).1
        rcases hcell with h0 | ⟨b, off, e, hc⟩
        · subst h0
          simp at hl
          subst hl
          simp at hjl
        · cases e
          rw [add_lit, hc j (by omega)]
          exact hj) h1 h63 hbytes hbase
    exact ⟨v', w', k1, k2, k3, k5⟩

theorem wpList_append_X {P : Program} {w : World} {ops : Array Oper} {rest : List Oper} {o : Oper} {a : Act} {Q : Exit → Act → World → Prop} (hw : Region.wanted o (yielded ops a.tmps) = true) (s x : Operand) (T T' : TypeId)
    (ho : o.op = .call { callee := .builtin .append, args := #[s, x], argTypes := #[T, T'] }) (hTT : ∀ ty v sv, (Builtin.append_ #[T, T'] ty #[v, sv]).run P w = (Builtin.append_ #[T, T] ty #[v, sv]).run P w)
    (base : Nat) (U : TypeId) (i : TypeInfo) (z : Value) (size bytes : Nat) (ht : P.underlying T = some (.slice U)) (hi : P.info? U = some i) (hz : i.zero = some z) (hsize : i.size = size) (hby : i.bytes = bytes) (hzs : z.cells.size = size) (hsz : 0 < size)
    (v : Value) (xs : List Value) (n : Nat) (hs : a.eval s = v) (hown : w.ownsRow base U size v n xs) (sv : Value) (m : Nat) (ys : List Value) (hx : a.eval x = sv) (hv : IsX w size sv m ys) (h1 : ∀ u ∈ ys, u.oneCell' = true) (h63 : n + m ≤ maxLen) (hbytes : (n + m) * bytes ≤ 140737488355328) (hbase : base ≤ w.heap.size)
    (h : ∀ v' w', w'.ownsRow base U size v' (n + m) (xs ++ ys) → w.grownBy w' v.ownBlock → (v'.ownBlock = v.ownBlock ∨ v'.ownBlock = some w.heap.size) → wpList P ops Q rest (a.put o.dst v') w') : wpList P ops Q (o :: rest) a w := by
  refine BigFrame.wpList_want hw fun K hK => ?_
  obtain ⟨v', w', hr, h2, h3, h4⟩ := run_append_X (P := P) w base T U o.type i z size bytes ht hi hz hsize hby hzs hsz v xs n hown sv m ys hv h1 h63 hbytes hbase
  rw [← hTT] at hr
  unfold Oper.wp execOp
  simp only [ho, resolve, invoke, builtin, Sem.run_bind, Sem.run_pure, Result.andThen_ok, List.map_toArray, List.map_cons, List.map_nil, hs, hx, hr]
  exact hK _ _ (h v' w' h2 h3 h4)
theorem step_append_X {P : Program} {ops : Array Oper} {o : Oper} {a : Act} {w : World} {K : Act → World → Prop} {Q : Exit → Act → World → Prop} {E : Prop}
    (hw : Region.wanted o (yielded ops a.tmps) = true) (s x : Operand) (T : TypeId)
    (ho : o.op = .call { callee := .builtin .append, args := #[s, x], argTypes := #[T, T] })
    (base : Nat) (U : TypeId) (i : TypeInfo) (z : Value) (size bytes : Nat) (ht : P.underlying T = some (.slice U)) (hi : P.info? U = some i) (hz : i.zero = some z) (hsize : i.size = size) (hby : i.bytes = bytes) (hzs : z.cells.size = size) (hsz : 0 < size)
    (v : Value) (xs : List Value) (n : Nat) (hs : a.eval s = v) (hown : w.ownsRow base U size v n xs) (sv : Value) (m : Nat) (ys : List Value) (hx : a.eval x = sv) (hv : IsX w size sv m ys) (h1 : ∀ u ∈ ys, u.oneCell' = true) (h63 : n + m ≤ maxLen) (hbytes : (n + m) * bytes ≤ 140737488355328) (hbase : base ≤ w.heap.size)
    (h : ∀ v' w', w'.ownsRow base U size v' (n + m) (xs ++ ys) → w.grownBy w' v.ownBlock → (v'.ownBlock = v.ownBlock ∨ v'.ownBlock = some w.heap.size) → K (a.put o.dst v') w') :
    if Region.wanted o (yielded ops a.tmps) = true then Oper.wp P o a w K Q else E := by
  rw [if_pos hw]
  obtain ⟨v', w', hr, h2, h3, h4⟩ := run_append_X (P := P) w base T U o.type i z size bytes ht hi hz hsize hby hzs hsz v xs n hown sv m ys hv h1 h63 hbytes hbase
  unfold Oper.wp execOp
  simp only [ho, resolve, invoke, builtin, Sem.run_bind, Sem.run_pure, Result.andThen_ok, List.map_toArray, List.map_cons, List.map_nil, hs, hx, hr]
  exact h v' w' h2 h3 h4

theorem Kept.setRow {S : Nat → Prop} {a w : World} (h : Kept S a w) {g : Nat} (hg : S g ∨ a.heap.size ≤ g) (cs : Array Value) : Kept S a (w.setRow g cs) :=
  h.trans (T := fun k => k = g) ⟨rfl, rfl, rfl, by simp [World.setRow], fun k _ hk => setRow_other w g k cs hk⟩ (fun j e hj => by
    subst e
    rcases hg with hg | hg
    · exact hg
    · omega)

/-- copy of elements of whatever size. -/
theorem run_copy_X {P : Program} (w : World) (dT sT ty U : TypeId) (size : Nat) (g o dLen dCap : Nat) (a : Addr) (sLen sCap m : Nat) (cur : Array Value) (t : TypeId) (cs : List Value)
    (hu : P.underlying dT = some (.slice U)) (hs : (P.info? U).map (·.size) = some size)
    (hg : w.heap[g]? = some (.cells cur t (0, 0))) (hm : Nat.min sLen dLen = m) (hn : cs.length = m * size)
    (hsrc : ∀ j v, cs[j]? = some v → w.cell? (a.add j) = some v) (hfit : o + cs.length ≤ cur.size) (h1 : ∀ v ∈ cs, v.oneCell' = true) :
    (Builtin.copy_ #[dT, sT] ty #[.slice (some ⟨g, o, none⟩) dLen dCap, .slice (some a) sLen sCap]).run P w =
      .ok (goInt m) (w.setRow g (cur.toList.take o ++ cs ++ cur.toList.drop (o + cs.length)).toArray) := by
  obtain ⟨i, hq, hi⟩ := Option.map_eq_some_iff.1 hs
  have hf := run_firstCells_some (P := P) w size m a sLen sCap cs hn hsrc
  have hst := run_storeCells_at P g o t cs 0 cur w hg (by simpa using hfit) h1
  simp only [Nat.add_zero] at hst
  simp [Builtin.copy_, run_underlying hu, Builtin.lenOf, sizeOf, typeInfo, hq, hi, hm, hf, hst]
theorem step_copy_run {P : Program} {ops : Array Oper} {o : Oper} {a : Act} {w : World} {K : Act → World → Prop} {Q : Exit → Act → World → Prop} {E : Prop}
    (hg : o.guard = none) (d x : Operand) (dT sT : TypeId) (hop : o.op = Op.call { callee := Callee.builtin Builtin.copy, args := #[d, x], argTypes := #[dT, sT] })
    (v u : Value) (hd : a.eval d = v) (hx : a.eval x = u) {v' : Value} {w' : World} (hr : (Builtin.copy_ #[dT, sT] o.type #[v, u]).run P w = .ok v' w') (hK : K (a.put o.dst v') w') :
    if Region.wanted o (yielded ops a.tmps) = true then Oper.wp P o a w K Q else E := by
  have hw : Region.wanted o (yielded ops a.tmps) = true := by simp [Region.wanted, hg]
  rw [if_pos hw]
  unfold Oper.wp
  simp [execOp, hop, resolve, invoke, builtin, hd, hx, hr, Result.andThen]
  exact hK
theorem wpList_copy_run {P : Program} {w : World} {ops : Array Oper} {rest : List Oper} {o : Oper} {a : Act} {Q : Exit → Act → World → Prop} (hgd : o.guard = none) (d s : Operand) (t t' : TypeId)
    (ho : o.op = .call { callee := .builtin .copy, args := #[d, s], argTypes := #[t, t'] }) (v u : Value) (hd : a.eval d = v) (hs : a.eval s = u) {v' : Value} {w' : World}
    (hr : (Builtin.copy_ #[t, t'] o.type #[v, u]).run P w = .ok v' w') (h : wpList P ops Q rest (a.put o.dst v') w') : wpList P ops Q (o :: rest) a w := by
  refine wpList_plain hgd fun K hK => ?_
  unfold Oper.wp
  simp [execOp, ho, resolve, invoke, builtin, hd, hs, hr, Result.andThen]
  exact hK _ _ h
theorem step_append_run {P : Program} {ops : Array Oper} {o : Oper} {a : Act} {w : World} {K : Act → World → Prop} {Q : Exit → Act → World → Prop} {E : Prop}
    (hg : o.guard = none) (d x : Operand) (dT sT : TypeId) (hop : o.op = Op.call { callee := Callee.builtin Builtin.append, args := #[d, x], argTypes := #[dT, sT] })
    (v u : Value) (hd : a.eval d = v) (hx : a.eval x = u) {v' : Value} {w' : World} (hr : (Builtin.append_ #[dT, sT] o.type #[v, u]).run P w = .ok v' w') (hK : K (a.put o.dst v') w') :
    if Region.wanted o (yielded ops a.tmps) = true then Oper.wp P o a w K Q else E := by
  have hw : Region.wanted o (yielded ops a.tmps) = true := by simp [Region.wanted, hg]
  rw [if_pos hw]
  unfold Oper.wp
  simp [execOp, hop, resolve, invoke, builtin, hd, hx, hr, Result.andThen]
  exact hK

/-- clear of elements of whatever size. -/
theorem run_clear_X {P : Program} (w : World) (T U ty : TypeId) (z : Value) (ht : P.underlying T = some (.slice U)) (hv : ∀ w, (zeroValue U).run P w = .ok z w) (g o n c : Nat) (hn : 0 < n) (cur : Array Value) (t : TypeId) (hg : w.heap[g]? = some (.cells cur t (0, 0)))
    (hfit : o + (Builtin.zeroCells z.cells n).toList.length ≤ cur.size) (h1 : ∀ v ∈ (Builtin.zeroCells z.cells n).toList, v.oneCell' = true) :
    (Builtin.clear_ #[T] ty #[.slice (some ⟨g, o, none⟩) n c]).run P w = .ok (.tuple #[]) (w.setRow g (cur.toList.take o ++ (Builtin.zeroCells z.cells n).toList ++ cur.toList.drop (o + (Builtin.zeroCells z.cells n).toList.length)).toArray) := by
  have hst := run_storeCells_at P g o t (Builtin.zeroCells z.cells n).toList 0 cur w hg (by simpa using hfit) h1
  simp only [Nat.add_zero] at hst
  obtain ⟨m, rfl⟩ : ∃ m, n = m + 1 := ⟨n - 1, by omega⟩
  simp [Builtin.clear_, run_underlying ht, hv] at hst ⊢
  rw [hst]
  simp

theorem ins_list {α : Type} (cur A E B : List α) (k m : Nat) (hA : cur.take k = A) (hm : E.length = m) (hk : k + m + B.length ≤ cur.length) :
    (((cur.take (k + m) ++ B ++ cur.drop (k + m + B.length)).take k ++ E ++ (cur.take (k + m) ++ B ++ cur.drop (k + m + B.length)).drop (k + m)).take (k + m + B.length)) = A ++ E ++ B ∧
    ((cur.take (k + m) ++ B ++ cur.drop (k + m + B.length)).take k ++ E ++ (cur.take (k + m) ++ B ++ cur.drop (k + m + B.length)).drop (k + m)).length = cur.length := by
  have hl : (cur.take (k + m)).length = k + m := by rw [List.length_take]; omega
  have e1 : (cur.take (k + m) ++ B ++ cur.drop (k + m + B.length)).take k = A := by
    rw [List.append_assoc, List.take_append_of_le_length (by omega), List.take_take, Nat.min_eq_left (by omega), hA]
  have e2 : (cur.take (k + m) ++ B ++ cur.drop (k + m + B.length)).drop (k + m) = B ++ cur.drop (k + m + B.length) := by
    rw [List.append_assoc]
    exact List.drop_left' hl
  have hAl : A.length = k := by rw [← hA, List.length_take]; omega
  rw [e1, e2]
  constructor
  · rw [← List.append_assoc, List.take_left' (by simp; omega)]
  · simp
    omega
theorem ins_list2 {α : Type} (cur A E B : List α) (k m : Nat) (hA : cur.take k = A) (hm : E.length = m) (hk : k + m + B.length ≤ cur.length) :
    (((cur.take k ++ E ++ cur.drop (k + m)).take (k + m) ++ B ++ (cur.take k ++ E ++ cur.drop (k + m)).drop (k + m + B.length)).take (k + m + B.length)) = A ++ E ++ B ∧
    ((cur.take k ++ E ++ cur.drop (k + m)).take (k + m) ++ B ++ (cur.take k ++ E ++ cur.drop (k + m)).drop (k + m + B.length)).length = cur.length := by
  have hAl : A.length = k := by rw [← hA, List.length_take]; omega
  rw [hA]
  have e1 : (A ++ E ++ cur.drop (k + m)).take (k + m) = A ++ E := List.take_left' (by simp; omega)
  rw [e1]
  constructor
  · rw [List.take_left' (by simp; omega)]
  · simp
    omega

end Go.Cor
end

section
namespace Go.Cor

/-- A position. -/
structure Pos where
  key : Nat
  off : Int
  len : Int
  cookie : Nat
  gone : Bool

theorem Pos.ext' {a b : Pos} (h1 : a.key = b.key) (h2 : a.off = b.off) (h3 : a.len = b.len) (h4 : a.cookie = b.cookie) (h5 : a.gone = b.gone) : a = b := by
  cases a
  cases b
  simp_all
instance instDecPos : DecidableEq Pos := fun a b => decidable_of_iff (a.key = b.key ∧ a.off = b.off ∧ a.len = b.len ∧ a.cookie = b.cookie ∧ a.gone = b.gone)
  ⟨fun h => Pos.ext' h.1 h.2.1 h.2.2.1 h.2.2.2.1 h.2.2.2.2, fun h => by subst h; exact ⟨rfl, rfl, rfl, rfl, rfl⟩⟩

/-- Its numbers fit. -/
def Pos.fits (p : Pos) : Prop := p.key < 18446744073709551616 ∧ p.cookie < 4294967296 ∧ (-9223372036854775808 ≤ p.off ∧ p.off ≤ 9223372036854775807) ∧ (-9223372036854775808 ≤ p.len ∧ p.len ≤ 9223372036854775807)
def pzero : Pos := ⟨0, 0, 0, 0, false⟩
/-- The position at a place. -/
abbrev pat (ps : List Pos) (i : Nat) : Pos := ps.getD i pzero
theorem pat_of {ps : List Pos} {i : Nat} {p : Pos} (h : ps[i]? = some p) : pat ps i = p := by simp [pat, List.getD_eq_getElem?_getD, h]
theorem get_pat {ps : List Pos} {i : Nat} (h : i < ps.length) : ps[i]? = some (pat ps i) := by simp [pat, List.getD_eq_getElem?_getD, List.getElem?_eq_getElem h]
theorem pat_mem {ps : List Pos} {i : Nat} (h : i < ps.length) : pat ps i ∈ ps := List.mem_of_getElem? (get_pat h)
theorem take_snoc {ps : List Pos} {i : Nat} (h : i < ps.length) : ps.take (i + 1) = ps.take i ++ [pat ps i] := by
  rw [List.take_add_one, get_pat h]
  rfl

/-- How many keys stand ahead of k. -/
def psn : List Pos → Nat → Nat
  | [], _ => 0
  | q :: r, k => if q.key < k then psn r k + 1 else 0
theorem psn_le (l : List Pos) (k : Nat) : psn l k ≤ l.length := by
  induction l with
  | nil => simp [psn]
  | cons q r ih =>
    simp only [psn]
    split <;> simp <;> omega
theorem psn_below {l : List Pos} {k i : Nat} {e : Pos} (h : l[i]? = some e) (hi : i < psn l k) : e.key < k := by
  induction l generalizing i with
  | nil => simp at h
  | cons q r ih =>
    simp only [psn] at hi
    split at hi
    · cases i with
      | zero =>
        simp at h
        subst h
        assumption
      | succ i => exact ih (by simpa using h) (by omega)
    · omega
/-- By rising keys, no key twice. -/
def Asc (l : List Pos) : Prop := l.Pairwise (fun p q => p.key < q.key)
theorem Asc.nil : Asc [] := List.Pairwise.nil
theorem psn_above {l : List Pos} {k i : Nat} {e : Pos} (hs : Asc l) (h : l[i]? = some e) (hi : psn l k ≤ i) : k ≤ e.key := by
  induction l generalizing i with
  | nil => simp at h
  | cons q r ih =>
    have hq := List.pairwise_cons.1 hs
    simp only [psn] at hi
    split at hi
    · cases i with
      | zero => omega
      | succ i => exact ih hq.2 (by simpa using h) (by omega)
    · cases i with
      | zero =>
        simp at h
        subst h
        omega
      | succ i =>
        have := hq.1 e (List.mem_of_getElem? (i := i) (by simpa using h))
        omega
theorem Asc.lt {l : List Pos} (hs : Asc l) {i j : Nat} {p q : Pos} (hi : l[i]? = some p) (hj : l[j]? = some q) (h : i < j) : p.key < q.key := by
  obtain ⟨hi1, rfl⟩ := List.getElem?_eq_some_iff.1 hi
  obtain ⟨hj1, rfl⟩ := List.getElem?_eq_some_iff.1 hj
  exact List.pairwise_iff_getElem.1 hs i j hi1 hj1 h
/-- The position of a key. -/
def fnd (l : List Pos) (k : Nat) : Option Pos := (l[psn l k]?).filter (fun q => q.key == k)
theorem fnd_iff {l : List Pos} (hs : Asc l) {k : Nat} {q : Pos} : fnd l k = some q ↔ q ∈ l ∧ q.key = k := by
  unfold fnd
  rw [Option.filter_eq_some_iff]
  constructor
  · rintro ⟨h1, h2⟩
    exact ⟨List.mem_of_getElem? h1, by simpa using h2⟩
  · rintro ⟨h1, h2⟩
    refine ⟨?_, by simpa using h2⟩
    obtain ⟨i, hi⟩ := List.getElem?_of_mem h1
    by_cases h3 : i < psn l k
    · have := psn_below hi h3
      omega
    by_cases h4 : i = psn l k
    · rw [← h4]
      exact hi
    · have hlt := (List.getElem?_eq_some_iff.1 hi).1
      have he : l[psn l k]? = some (pat l (psn l k)) := get_pat (by omega)
      have h5 := psn_above hs he (Nat.le_refl _)
      have h6 := hs.lt he hi (by omega)
      omega
theorem fnd_at {l : List Pos} {k : Nat} {q : Pos} (h : fnd l k = some q) : l[psn l k]? = some q ∧ q.key = k := by
  unfold fnd at h
  rw [Option.filter_eq_some_iff] at h
  exact ⟨h.1, by simpa using h.2⟩
/-- A position put. -/
def put : List Pos → Pos → List Pos
  | [], p => [p]
  | q :: r, p => if q.key < p.key then q :: put r p else if q.key = p.key then p :: r else p :: q :: r
theorem put_mem {l : List Pos} (hs : Asc l) (p q : Pos) : q ∈ put l p ↔ q = p ∨ q ∈ l ∧ q.key ≠ p.key := by
  induction l with
  | nil => simp [put]
  | cons a r ih =>
    obtain ⟨h1, h2⟩ := List.pairwise_cons.1 hs
    have ih := ih h2
    simp only [put]
    split
    · rw [List.mem_cons, ih, List.mem_cons]
      constructor
      · rintro (rfl | rfl | h)
        · exact .inr ⟨.inl rfl, by omega⟩
        · exact .inl rfl
        · exact .inr ⟨.inr h.1, h.2⟩
      · rintro (rfl | ⟨rfl | h, h'⟩)
        · exact .inr (.inl rfl)
        · exact .inl rfl
        · exact .inr (.inr ⟨h, h'⟩)
    · split
      · rw [List.mem_cons, List.mem_cons]
        constructor
        · rintro (rfl | h)
          · exact .inl rfl
          · have := h1 q h
            exact .inr ⟨.inr h, by omega⟩
        · rintro (rfl | ⟨rfl | h, h'⟩)
          · exact .inl rfl
          · omega
          · exact .inr h
      · rw [List.mem_cons]
        constructor
        · rintro (rfl | h)
          · exact .inl rfl
          · refine .inr ⟨h, ?_⟩
            rcases List.mem_cons.1 h with rfl | h
            · omega
            · have := h1 q h
              omega
        · rintro (rfl | h)
          · exact .inl rfl
          · exact .inr h.1
theorem put_asc {l : List Pos} (hs : Asc l) (p : Pos) : Asc (put l p) := by
  induction l with
  | nil => simp [put, Asc]
  | cons a r ih =>
    obtain ⟨h1, h2⟩ := List.pairwise_cons.1 hs
    simp only [put]
    split
    · refine List.pairwise_cons.2 ⟨fun q hq => ?_, ih h2⟩
      rcases (put_mem h2 p q).1 hq with rfl | h
      · assumption
      · exact h1 q h.1
    · split
      · refine List.pairwise_cons.2 ⟨fun q hq => ?_, h2⟩
        have := h1 q hq
        omega
      · refine List.pairwise_cons.2 ⟨fun q hq => ?_, hs⟩
        rcases List.mem_cons.1 hq with rfl | h
        · omega
        · have := h1 q h
          omega
theorem put_there {l : List Pos} {p q : Pos} (h : fnd l p.key = some q) : put l p = l.set (psn l p.key) p := by
  induction l with
  | nil => simp [fnd] at h
  | cons a r ih =>
    simp only [put, psn]
    split
    · rename_i hlt
      rw [List.set_cons_succ, ih]
      simpa [fnd, psn, hlt] using h
    · rename_i hlt
      have : a.key = p.key := by
        have := fnd_at h
        simp only [psn, if_neg hlt, List.getElem?_cons_zero, Option.some.injEq] at this
        rw [this.1]
        exact this.2
      rw [if_pos this, List.set_cons_zero]
theorem put_new {l : List Pos} {p : Pos} (h : fnd l p.key = none) : put l p = l.take (psn l p.key) ++ p :: l.drop (psn l p.key) := by
  induction l with
  | nil => rfl
  | cons a r ih =>
    simp only [put, psn]
    split
    · rename_i hlt
      rw [List.take_succ_cons, List.drop_succ_cons, List.cons_append, ih]
      simpa [fnd, psn, hlt] using h
    · rename_i hlt
      have : a.key ≠ p.key := by
        intro e
        simp [fnd, psn, hlt, e] at h
      rw [if_neg this]
      rfl
theorem length_put_new {l : List Pos} {p : Pos} (h : fnd l p.key = none) : (put l p).length = l.length + 1 := by
  rw [put_new h]
  have := psn_le l p.key
  simp
  omega
theorem length_put_there {l : List Pos} {p q : Pos} (h : fnd l p.key = some q) : (put l p).length = l.length := by
  rw [put_there h, List.length_set]
theorem length_put_le (l : List Pos) (p : Pos) : (put l p).length ≤ l.length + 1 := by
  cases h : fnd l p.key with
  | none => rw [length_put_new h]; exact Nat.le_refl _
  | some q => rw [length_put_there h]; omega
theorem fnd_put {l : List Pos} (hs : Asc l) (p : Pos) (k : Nat) : fnd (put l p) k = if k = p.key then some p else fnd l k := by
  apply Option.ext
  intro q
  rw [fnd_iff (put_asc hs p), put_mem hs]
  split
  · rename_i h
    rw [Option.some.injEq]
    constructor
    · rintro ⟨rfl | h2, h3⟩
      · rfl
      · omega
    · rintro rfl
      exact ⟨.inl rfl, h.symm⟩
  · rename_i h
    rw [fnd_iff hs]
    constructor
    · rintro ⟨rfl | h2, h3⟩
      · omega
      · exact ⟨h2.1, h3⟩
    · rintro ⟨h1, h2⟩
      exact ⟨.inr ⟨h1, by omega⟩, h2⟩
/-- Many positions put, one behind the other. -/
def puts (s l : List Pos) : List Pos := l.foldl put s
theorem puts_cons (s : List Pos) (p : Pos) (l : List Pos) : puts s (p :: l) = puts (put s p) l := rfl
theorem puts_append (s a b : List Pos) : puts s (a ++ b) = puts (puts s a) b := List.foldl_append
theorem puts_snoc (s l : List Pos) (p : Pos) : puts s (l ++ [p]) = put (puts s l) p := by rw [puts_append]; rfl
theorem puts_asc {s : List Pos} (hs : Asc s) (l : List Pos) : Asc (puts s l) := by
  induction l generalizing s with
  | nil => exact hs
  | cons p l ih => exact ih (put_asc hs p)
theorem length_puts (s l : List Pos) : (puts s l).length ≤ s.length + l.length := by
  induction l generalizing s with
  | nil => exact Nat.le_refl _
  | cons p l ih =>
    have h1 := ih (put s p)
    have h2 := length_put_le s p
    rw [puts_cons, List.length_cons]
    omega
theorem puts_mem {s : List Pos} (hs : Asc s) {l : List Pos} {q : Pos} (h : q ∈ puts s l) : q ∈ s ∨ q ∈ l := by
  induction l generalizing s with
  | nil => exact .inl h
  | cons p l ih =>
    rcases ih (put_asc hs p) h with h | h
    · rcases (put_mem hs p q).1 h with rfl | h
      · exact .inr (List.mem_cons_self ..)
      · exact .inl h.1
    · exact .inr (List.mem_cons_of_mem _ h)
/-- The last one of a key. -/
def lastOf (l : List Pos) (k : Nat) : Option Pos := l.reverse.find? (fun q => q.key == k)
theorem fnd_puts {s : List Pos} (hs : Asc s) (l : List Pos) (k : Nat) : fnd (puts s l) k = (lastOf l k).or (fnd s k) := by
  induction l generalizing s with
  | nil => rfl
  | cons p l ih =>
    rw [puts_cons, ih (put_asc hs p), fnd_put hs]
    unfold lastOf
    rw [List.reverse_cons, List.find?_append, Option.or_assoc]
    congr 1
    by_cases h : k = p.key
    · subst h
      simp
    · have : (p.key == k) = false := by simpa using fun e => h e.symm
      simp [this, h]
theorem fnd_nil (k : Nat) : fnd [] k = none := rfl
theorem fnd_puts0 (l : List Pos) (k : Nat) : fnd (puts [] l) k = lastOf l k := by rw [fnd_puts Asc.nil, fnd_nil, Option.or_none]
theorem psn_zero {l : List Pos} : psn l 0 = 0 := by
  cases l with
  | nil => rfl
  | cons q r => simp [psn]
end Go.Cor
end

section
namespace Go.Cor

/-- A step with a bit. -/
def cstep (r b : Nat) : Nat := if r % 2 = b then r / 2 else (r / 2) ^^^ 2197175160
/-- n steps with the lowest n bits of x. -/
def csteps : Nat → Nat → Nat → Nat
  | 0, r, _ => r
  | n + 1, r, x => csteps n (cstep r (x % 2)) (x / 2)
/-- All bytes. -/
def creg (r : Nat) (l : List UInt8) : Nat := l.foldl (fun r x => csteps 8 r x.toNat) r
/-- More of a sum. -/
def cmore (s : Nat) (l : List UInt8) : Nat := 4294967295 - creg (4294967295 - s) l
/-- The sum. -/
def crc (l : List UInt8) : Nat := cmore 0 l

theorem creg_append (r : Nat) (l m : List UInt8) : creg r (l ++ m) = creg (creg r l) m := by simp [creg]

theorem cstep_lt {r : Nat} (b : Nat) (h : r < 4294967296) : cstep r b < 4294967296 := by
  unfold cstep
  split
  · omega
  · exact Nat.xor_lt_two_pow (n := 32) (by omega) (by decide)
theorem csteps_lt (n : Nat) {r : Nat} (x : Nat) (h : r < 4294967296) : csteps n r x < 4294967296 := by
  induction n generalizing r x with
  | zero => exact h
  | succ n ih => exact ih _ (cstep_lt _ h)
theorem creg_lt {r : Nat} (l : List UInt8) (h : r < 4294967296) : creg r l < 4294967296 := by
  induction l generalizing r with
  | nil => exact h
  | cons x l ih => exact ih (csteps_lt _ _ h)
theorem cmore_lt (s : Nat) (l : List UInt8) : cmore s l < 4294967296 := by unfold cmore; omega
theorem crc_lt (l : List UInt8) : crc l < 4294967296 := cmore_lt 0 l

theorem cmore_more (s : Nat) (l m : List UInt8) : cmore (cmore s l) m = cmore s (l ++ m) := by
  have h := creg_lt (r := 4294967295 - s) l (by omega)
  unfold cmore
  rw [creg_append, show 4294967295 - (4294967295 - creg (4294967295 - s) l) = creg (4294967295 - s) l from by omega]
theorem crc_append (l m : List UInt8) : crc (l ++ m) = cmore (crc l) m := (cmore_more 0 l m).symm

theorem csteps_succ (n r x : Nat) : csteps (n + 1) r x = cstep (csteps n r x) (x / 2 ^ n % 2) := by
  induction n generalizing r x with
  | zero => simp [csteps]
  | succ n ih =>
    rw [csteps, ih, csteps, Nat.div_div_eq_div_mul, Nat.pow_succ, Nat.mul_comm 2]

/-- A step loses nothing. -/
theorem xor_mod2 (a b : Nat) : (a ^^^ b) % 2 = (a + b) % 2 := by
  have h := Nat.xor_mod_two_pow (a := a) (b := b) (n := 1)
  rw [show (2 : Nat) ^ 1 = 2 from rfl] at h
  rw [h]
  rcases Nat.mod_two_eq_zero_or_one a with ha | ha <;> rcases Nat.mod_two_eq_zero_or_one b with hb | hb <;> rw [ha, hb]
  all_goals
    simp
    omega
end Go.Cor
end

section
namespace Go.Cor

/-- A needle. -/
structure Ndl where
  key : Nat
  cookie : Nat
  gone : Bool
  data : List UInt8

theorem Ndl.ext' {a b : Ndl} (h1 : a.key = b.key) (h2 : a.cookie = b.cookie) (h3 : a.gone = b.gone) (h4 : a.data = b.data) : a = b := by
  cases a
  cases b
  simp_all

/-- Its numbers fit. -/
def Ndl.fits (n : Ndl) : Prop := n.key < 18446744073709551616 ∧ n.cookie < 4294967296
def flagN (g : Bool) : Nat := if g = true then 1 else 0
def zerosN (k : Nat) : List UInt8 := List.replicate k 0
def padn (n : Nat) : Nat := (8 - n % 8) % 8
/-- What its sum is of, but the data. -/
def front (n : Ndl) : List UInt8 := le 1313162572 4 ++ le (flagN n.gone) 4 ++ le n.key 8 ++ le n.cookie 4 ++ le n.data.length 4
def nsum (n : Ndl) : Nat := crc (front n ++ n.data)
/-- Its head. -/
def nhead (n : Ndl) : List UInt8 := front n ++ le (nsum n) 4 ++ zerosN 4
/-- Its bytes. -/
def nbytes (n : Ndl) : List UInt8 := nhead n ++ n.data ++ zerosN (padn n.data.length)
/-- Why it may not be. -/
def ncheck (n : Ndl) : Nat := if 4096 < n.data.length then 2 else if n.gone = true ∧ 0 < n.data.length then 1 else 0

theorem ncheck_le (n : Ndl) : ncheck n ≤ 2 := by
  unfold ncheck
  split
  · omega
  · split <;> omega
theorem ncheck_ok {n : Ndl} (h : ncheck n = 0) : n.data.length ≤ 4096 ∧ (n.gone = true → n.data.length = 0) := by
  unfold ncheck at h
  split at h
  · omega
  · split at h
    · omega
    · rename_i h1 h2
      exact ⟨by omega, fun hg => by
        have : ¬ 0 < n.data.length := fun hl => h2 ⟨hg, hl⟩
        omega⟩

theorem padn_lt (n : Nat) : padn n < 8 := by unfold padn; omega
theorem length_front (n : Ndl) : (front n).length = 24 := by simp [front, length_le]
theorem length_zerosN (k : Nat) : (zerosN k).length = k := by simp [zerosN]
theorem length_nhead (n : Ndl) : (nhead n).length = 32 := by simp [nhead, length_front, length_le, length_zerosN]
theorem length_nbytes (n : Ndl) : (nbytes n).length = 32 + n.data.length + padn n.data.length := by simp [nbytes, length_nhead, length_zerosN]; omega

/-- A number that stands in bytes. -/
def fld (l : List UInt8) (a k : Nat) : Nat := num ((l.drop a).take k)
theorem fld_lt (l : List UInt8) (a k : Nat) : fld l a k < 256 ^ k := by
  have h := num_lt ((l.drop a).take k)
  have h2 : ((l.drop a).take k).length ≤ k := by simp; omega
  exact Nat.lt_of_lt_of_le h (Nat.pow_le_pow_right (by decide) h2)
theorem fld4_lt (l : List UInt8) (a : Nat) : fld l a 4 < 4294967296 := fld_lt l a 4
theorem fld_take (l : List UInt8) {a k j : Nat} (h : a + k ≤ j) : fld (l.take j) a k = fld l a k := by
  unfold fld
  rw [List.drop_take, List.take_take, Nat.min_eq_left (by omega)]
theorem fld_append (p l q : List UInt8) {a k : Nat} (hp : p.length = a) (hl : l.length = k) : fld (p ++ l ++ q) a k = num l := by
  unfold fld
  rw [List.append_assoc, List.drop_left' hp, List.take_left' hl]

/-- Is the head one that may be? -/
def formedB (l : List UInt8) : Bool := decide (fld l 0 4 = 1313162572 ∧ fld l 4 4 ≤ 1 ∧ fld l 28 4 = 0 ∧ fld l 20 4 ≤ 4096 ∧ (fld l 4 4 = 1 → fld l 20 4 = 0))
/-- How many bytes of data. -/
def dlen (l : List UInt8) : Nat := fld l 20 4
def total (l : List UInt8) : Nat := 32 + dlen l + padn (dlen l)
def dataOf (l : List UInt8) : List UInt8 := (l.drop 32).take (dlen l)
def padOf (l : List UInt8) : List UInt8 := (l.drop (32 + dlen l)).take (padn (dlen l))
def sumOkN (l : List UInt8) : Bool := decide (crc (l.take 24 ++ dataOf l) = fld l 24 4)
def zeroB (l : List UInt8) : Bool := decide (∀ x ∈ l, x = 0)
/-- Why bytes begin with no needle. -/
def getCode (l : List UInt8) : Nat :=
  if l.length < 32 then 3 else if formedB l = false then 4 else if l.length < total l then 3 else if sumOkN l = false then 5 else if zeroB (padOf l) = false then 4 else 0
/-- The needle with which they begin. -/
def getN (l : List UInt8) : Ndl := ⟨fld l 8 8, fld l 16 4, decide (fld l 4 4 = 1), dataOf l⟩

theorem formed_len {l : List UInt8} (h : formedB l = true) : dlen l ≤ 4096 := (of_decide_eq_true h).2.2.2.1
theorem zero_num (l : List UInt8) : num l = 0 ↔ ∀ x ∈ l, x = 0 := by
  induction l with
  | nil => simp [num]
  | cons x l ih =>
    simp only [num, List.mem_cons, forall_eq_or_imp, ← ih]
    constructor
    · intro h
      exact ⟨UInt8.toNat_inj.1 (by simp; omega), by omega⟩
    · rintro ⟨rfl, h⟩
      simp [h]
theorem zeroB_zeros (k : Nat) : zeroB (zerosN k) = true := decide_eq_true fun x hx => by
  have := List.mem_replicate.1 hx
  exact this.2
theorem zeroB_num (l : List UInt8) : zeroB l = decide (num l = 0) := by
  unfold zeroB
  exact decide_eq_decide.2 (zero_num l).symm
theorem getN_gone (l : List UInt8) : (getN l).gone = decide (fld l 4 4 = 1) := rfl
/-- What the head of a needle tells, wherever it stands ahead. -/
theorem head_flds {n : Ndl} {l : List UInt8} (hn : n.fits) (hd : n.data.length ≤ 4096) (h : l.take 32 = nhead n) :
    fld l 0 4 = 1313162572 ∧ fld l 4 4 = flagN n.gone ∧ fld l 8 8 = n.key ∧ fld l 16 4 = n.cookie ∧ fld l 20 4 = n.data.length ∧ fld l 24 4 = nsum n ∧ fld l 28 4 = 0 ∧ l.take 24 = front n := by
  have hf : flagN n.gone < 256 ^ 4 := by unfold flagN; split <;> decide
  have hc : nsum n < 256 ^ 4 := crc_lt (front n ++ n.data)
  have L : (le 1313162572 4).length = 4 ∧ (le (flagN n.gone) 4).length = 4 ∧ (le n.key 8).length = 8 ∧ (le n.cookie 4).length = 4 ∧ (le n.data.length 4).length = 4 := by simp [length_le]
  obtain ⟨L0, L1, L2, L3, L4⟩ := L
  have N0 : num (le 1313162572 4) = 1313162572 := by rw [num_le]
  have N1 : num (le (flagN n.gone) 4) = flagN n.gone := by rw [num_le, Nat.mod_eq_of_lt hf]
  have N2 : num (le n.key 8) = n.key := by rw [num_le, Nat.mod_eq_of_lt hn.1]
  have N3 : num (le n.cookie 4) = n.cookie := by rw [num_le, Nat.mod_eq_of_lt hn.2]
  have N4 : num (le n.data.length 4) = n.data.length := by rw [num_le, Nat.mod_eq_of_lt (by omega)]
  have N5 : num (le (nsum n) 4) = nsum n := by rw [num_le, Nat.mod_eq_of_lt hc]
  have N6 : num (zerosN 4) = 0 := (zero_num _).2 (of_decide_eq_true (zeroB_zeros 4))
  have F : ∀ a k, a + k ≤ 32 → fld l a k = fld (nhead n) a k := fun a k ha => by rw [← h, fld_take l ha]
  rw [F 0 4 (by omega), F 4 4 (by omega), F 8 8 (by omega), F 16 4 (by omega), F 20 4 (by omega), F 24 4 (by omega), F 28 4 (by omega)]
  have e24 : l.take 24 = (l.take 32).take 24 := by rw [List.take_take, Nat.min_eq_left (by omega)]
  rw [e24, h]
  refine ⟨?_, ?_, ?_, ?_, ?_, ?_, ?_, ?_⟩
  · rw [← N0]
    have := fld_append [] (le 1313162572 4) (le (flagN n.gone) 4 ++ le n.key 8 ++ le n.cookie 4 ++ le n.data.length 4 ++ le (nsum n) 4 ++ zerosN 4) (a := 0) rfl L0
    simpa [nhead, front, List.append_assoc, N0] using this
  · have := fld_append (le 1313162572 4) (le (flagN n.gone) 4) (le n.key 8 ++ le n.cookie 4 ++ le n.data.length 4 ++ le (nsum n) 4 ++ zerosN 4) L0 L1
    simpa [nhead, front, List.append_assoc, N1] using this
  · have := fld_append (le 1313162572 4 ++ le (flagN n.gone) 4) (le n.key 8) (le n.cookie 4 ++ le n.data.length 4 ++ le (nsum n) 4 ++ zerosN 4) (a := 8) (by simp [length_le]) L2
    simpa [nhead, front, List.append_assoc, N2] using this
  · have := fld_append (le 1313162572 4 ++ le (flagN n.gone) 4 ++ le n.key 8) (le n.cookie 4) (le n.data.length 4 ++ le (nsum n) 4 ++ zerosN 4) (a := 16) (by simp [length_le]) L3
    simpa [nhead, front, List.append_assoc, N3] using this
  · have := fld_append (le 1313162572 4 ++ le (flagN n.gone) 4 ++ le n.key 8 ++ le n.cookie 4) (le n.data.length 4) (le (nsum n) 4 ++ zerosN 4) (a := 20) (by simp [length_le]) L4
    simpa [nhead, front, List.append_assoc, N4] using this
  · have := fld_append (front n) (le (nsum n) 4) (zerosN 4) (a := 24) (length_front n) (length_le _ _)
    simpa [nhead, List.append_assoc, N5] using this
  · have := fld_append (front n ++ le (nsum n) 4) (zerosN 4) [] (a := 28) (by simp [length_front, length_le]) (length_zerosN 4)
    simpa [nhead, List.append_assoc, N6] using this
  · rw [nhead, List.append_assoc]
    exact List.take_left' (length_front n)

theorem head_formed {n : Ndl} {l : List UInt8} (hn : n.fits) (hc : ncheck n = 0) (h : l.take 32 = nhead n) : formedB l = true ∧ dlen l = n.data.length := by
  obtain ⟨hd, hg⟩ := ncheck_ok hc
  obtain ⟨f0, f1, f2, f3, f4, f5, f6, f7⟩ := head_flds hn hd h
  refine ⟨decide_eq_true ?_, f4⟩
  rw [f0, f1, f4, f6]
  refine ⟨rfl, ?_, rfl, hd, fun hf => ?_⟩
  · unfold flagN
    split <;> omega
  · apply hg
    unfold flagN at hf
    split at hf
    · assumption
    · omega

theorem take32 (n : Ndl) (rest : List UInt8) : (nbytes n ++ rest).take 32 = nhead n := by
  rw [nbytes, List.append_assoc, List.append_assoc]
  exact List.take_left' (length_nhead n)

/-- What is put is got, whatever stands behind. -/
theorem get_put {n : Ndl} (hn : n.fits) (hc : ncheck n = 0) (rest : List UInt8) :
    getCode (nbytes n ++ rest) = 0 ∧ getN (nbytes n ++ rest) = n ∧ total (nbytes n ++ rest) = (nbytes n).length := by
  obtain ⟨hd, hg⟩ := ncheck_ok hc
  have h := take32 n rest
  obtain ⟨f0, f1, f2, f3, f4, f5, f6, f7⟩ := head_flds hn hd h
  obtain ⟨hform, hdl⟩ := head_formed hn hc h
  have ht : total (nbytes n ++ rest) = (nbytes n).length := by unfold total; rw [hdl, length_nbytes]
  have e1 : nbytes n ++ rest = nhead n ++ (n.data ++ (zerosN (padn n.data.length) ++ rest)) := by simp [nbytes, List.append_assoc]
  have hda : dataOf (nbytes n ++ rest) = n.data := by
    unfold dataOf
    rw [hdl, e1, List.drop_left' (length_nhead n), List.take_left' rfl]
  have hpa : padOf (nbytes n ++ rest) = zerosN (padn n.data.length) := by
    unfold padOf
    rw [hdl, e1, ← List.append_assoc, List.drop_left' (by rw [List.length_append, length_nhead]), List.take_left' (length_zerosN _)]
  have hs : sumOkN (nbytes n ++ rest) = true := decide_eq_true (by rw [f7, hda, f5]; rfl)
  have hz : zeroB (padOf (nbytes n ++ rest)) = true := by rw [hpa]; exact zeroB_zeros _
  have hl := length_nbytes n
  have hll : (nbytes n ++ rest).length = (nbytes n).length + rest.length := List.length_append
  have hgone : (getN (nbytes n ++ rest)).gone = n.gone := by
    rw [getN_gone, f1]
    unfold flagN
    cases n.gone <;> simp
  refine ⟨?_, Ndl.ext' f2 f3 hgone hda, ht⟩
  · unfold getCode
    rw [if_neg (by omega), if_neg (by rw [hform]; simp), if_neg (by omega), if_neg (by rw [hs]; simp), if_neg (by rw [hz]; simp)]

end Go.Cor
end

section
namespace Go.Cor

theorem snoc_ind {α : Type} {P : List α → Prop} (h0 : P []) (h1 : ∀ l a, P l → P (l ++ [a])) : ∀ l, P l := by
  intro l
  have h : P l.reverse.reverse := by
    generalize l.reverse = m
    induction m with
    | nil => exact h0
    | cons a m ih => rw [List.reverse_cons]; exact h1 _ _ ih
  rwa [List.reverse_reverse] at h

/-- How many bytes a needle has. -/
def nlen (n : Ndl) : Nat := 32 + n.data.length + padn n.data.length
theorem nlen_eq (n : Ndl) : (nbytes n).length = nlen n := length_nbytes n
def nsB : List Ndl → List UInt8
  | [] => []
  | n :: r => nbytes n ++ nsB r
def tot : List Ndl → Nat
  | [] => 0
  | n :: r => nlen n + tot r
theorem length_nsB (ns : List Ndl) : (nsB ns).length = tot ns := by
  induction ns with
  | nil => rfl
  | cons n r ih => simp only [nsB, tot, List.length_append, ih, nlen_eq]
theorem nsB_append (a b : List Ndl) : nsB (a ++ b) = nsB a ++ nsB b := by
  induction a with
  | nil => rfl
  | cons n r ih => simp only [List.cons_append, nsB, ih, List.append_assoc]
theorem tot_append (a b : List Ndl) : tot (a ++ b) = tot a + tot b := by
  induction a with
  | nil => simp [tot]
  | cons n r ih => simp only [List.cons_append, tot, ih]; omega
theorem nsB_snoc (a : List Ndl) (n : Ndl) : nsB (a ++ [n]) = nsB a ++ nbytes n := by rw [nsB_append]; simp [nsB]
theorem tot_snoc (a : List Ndl) (n : Ndl) : tot (a ++ [n]) = tot a + nlen n := by rw [tot_append]; simp [tot]
def posN (n : Ndl) (off : Nat) : Pos := ⟨n.key, (off : Int), (n.data.length : Int), n.cookie, n.gone⟩
/-- Where needles stand, one behind the other. -/
def poss : Nat → List Ndl → List Pos
  | _, [] => []
  | o, n :: r => posN n o :: poss (o + nlen n) r
theorem poss_append (o : Nat) (a b : List Ndl) : poss o (a ++ b) = poss o a ++ poss (o + tot a) b := by
  induction a generalizing o with
  | nil => simp [poss, tot]
  | cons n r ih => simp only [List.cons_append, poss, tot, ih, Nat.add_assoc]
theorem poss_snoc (o : Nat) (a : List Ndl) (n : Ndl) : poss o (a ++ [n]) = poss o a ++ [posN n (o + tot a)] := by rw [poss_append]; rfl
theorem length_poss (o : Nat) (ns : List Ndl) : (poss o ns).length = ns.length := by
  induction ns generalizing o with
  | nil => rfl
  | cons n r ih => simp only [poss, List.length_cons, ih]
theorem poss_mem {o : Nat} {ns : List Ndl} {p : Pos} (h : p ∈ poss o ns) : ∃ a n b, ns = a ++ n :: b ∧ p = posN n (o + tot a) := by
  induction ns generalizing o with
  | nil => cases h
  | cons n r ih =>
    rcases List.mem_cons.1 h with rfl | h
    · exact ⟨[], n, r, rfl, rfl⟩
    · obtain ⟨a, m, b, rfl, rfl⟩ := ih h
      exact ⟨n :: a, m, b, rfl, by simp only [tot, Nat.add_assoc]⟩
/-- A key's newest needle. -/
def newest (ns : List Ndl) (k : Nat) : Option Ndl := ns.reverse.find? (fun n => n.key == k)
theorem newest_snoc (ns : List Ndl) (m : Ndl) (k : Nat) : newest (ns ++ [m]) k = if m.key = k then some m else newest ns k := by
  unfold newest
  rw [List.reverse_append, List.reverse_singleton, List.singleton_append, List.find?_cons]
  by_cases h : m.key = k
  · rw [if_pos h, beq_iff_eq.2 h]
  · rw [if_neg h, beq_eq_false_iff_ne.2 h]
theorem lastOf_snoc (l : List Pos) (p : Pos) (k : Nat) : lastOf (l ++ [p]) k = if p.key = k then some p else lastOf l k := by
  unfold lastOf
  rw [List.reverse_append, List.reverse_singleton, List.singleton_append, List.find?_cons]
  by_cases h : p.key = k
  · rw [if_pos h, beq_iff_eq.2 h]
  · rw [if_neg h, beq_eq_false_iff_ne.2 h]
theorem newest_mem {ns : List Ndl} {k : Nat} {n : Ndl} (h : newest ns k = some n) : n ∈ ns ∧ n.key = k := by
  unfold newest at h
  exact ⟨List.mem_reverse.1 (List.mem_of_find?_eq_some h), by simpa using List.find?_some h⟩
theorem last_none (o k : Nat) : ∀ ns : List Ndl, newest ns k = none → lastOf (poss o ns) k = none := by
  refine snoc_ind (fun _ => rfl) fun ns m ih h => ?_
  rw [newest_snoc] at h
  rw [poss_snoc, lastOf_snoc]
  by_cases e : m.key = k
  · rw [if_pos e] at h; cases h
  · rw [if_neg e] at h
    rw [if_neg (show ¬ (posN m (o + tot ns)).key = k from e)]
    exact ih h
theorem last_some (o k : Nat) : ∀ ns : List Ndl, ∀ n, newest ns k = some n → ∃ a b, ns = a ++ n :: b ∧ lastOf (poss o ns) k = some (posN n (o + tot a)) := by
  refine snoc_ind (fun n h => by cases h) fun ns m ih n h => ?_
  rw [newest_snoc] at h
  rw [poss_snoc, lastOf_snoc]
  by_cases e : m.key = k
  · rw [if_pos e] at h
    cases h
    rw [if_pos (show (posN m (o + tot ns)).key = k from e)]
    exact ⟨ns, [], rfl, rfl⟩
  · rw [if_neg e] at h
    rw [if_neg (show ¬ (posN m (o + tot ns)).key = k from e)]
    obtain ⟨a, b, rfl, h2⟩ := ih n h
    exact ⟨a, b ++ [m], by simp, h2⟩

/-- A volume: its numbers, and all needles of its file. -/
structure Vst where
  num : Nat
  gen : Nat
  most : Nat
  epoch : Nat
  shut : Bool
  ns : List Ndl
def Vst.size (s : Vst) : Nat := 16 + tot s.ns
def Vst.idx (s : Vst) : List Pos := puts [] (poss 16 s.ns)
def Vst.wrote (s : Vst) (n : Ndl) : Vst := { s with ns := s.ns ++ [n] }
theorem Vst.idx_asc (s : Vst) : Asc s.idx := puts_asc Asc.nil _
theorem Vst.idx_len (s : Vst) : s.idx.length ≤ s.ns.length := by
  have := length_puts [] (poss 16 s.ns)
  rw [length_poss] at this
  simpa [Vst.idx] using this
theorem Vst.idx_wrote (s : Vst) (n : Ndl) : (s.wrote n).idx = put s.idx (posN n s.size) := by
  unfold Vst.idx Vst.wrote Vst.size
  rw [poss_snoc, puts_snoc]
theorem Vst.size_wrote (s : Vst) (n : Ndl) : (s.wrote n).size = s.size + nlen n := by
  unfold Vst.size Vst.wrote
  rw [tot_snoc]
  omega
theorem Vst.fnd (s : Vst) (k : Nat) : Go.Cor.fnd s.idx k = lastOf (poss 16 s.ns) k := fnd_puts0 _ _
theorem Vst.fnd_none {s : Vst} {k : Nat} (h : newest s.ns k = none) : Go.Cor.fnd s.idx k = none := by rw [s.fnd, last_none _ _ _ h]
theorem Vst.fnd_some {s : Vst} {k : Nat} {n : Ndl} (h : newest s.ns k = some n) : ∃ a b, s.ns = a ++ n :: b ∧ Go.Cor.fnd s.idx k = some (posN n (16 + tot a)) := by
  rw [s.fnd]
  exact last_some 16 k s.ns n h
theorem Vst.idx_mem {s : Vst} {p : Pos} (h : p ∈ s.idx) : ∃ a n b, s.ns = a ++ n :: b ∧ p = posN n (16 + tot a) := by
  rcases puts_mem Asc.nil h with h | h
  · cases h
  · exact poss_mem h
/-- The bytes at a needle's place. -/
theorem bytes_at {X : List UInt8} {a b : List Ndl} {n : Ndl} (hX : X.length = 16) : ((X ++ nsB (a ++ n :: b)).drop (16 + tot a)).take (nlen n) = nbytes n := by
  rw [nsB_append]
  show ((X ++ (nsB a ++ (nbytes n ++ nsB b))).drop (16 + tot a)).take (nlen n) = nbytes n
  rw [← List.append_assoc X, List.drop_left' (by rw [List.length_append, hX, length_nsB]), List.take_left' (nlen_eq n)]

/-- What holds of every volume. -/
structure Vst.Ok (s : Vst) : Prop where
  num1 : 1 ≤ s.num
  num9 : s.num < 10
  gen1 : 1 ≤ s.gen
  gen9 : s.gen < 10
  ep : s.epoch ≤ 2147483647
  most : s.most ≤ 16777216
  size : s.size ≤ s.most
  few : s.ns.length < 4096
  all : ∀ n ∈ s.ns, n.fits ∧ ncheck n = 0
theorem Vst.Ok.wrote {s : Vst} (h : s.Ok) {n : Ndl} (hn : n.fits ∧ ncheck n = 0) (hm : s.size + nlen n ≤ s.most) (hf : s.ns.length + 1 < 4096) : (s.wrote n).Ok :=
  ⟨h.num1, h.num9, h.gen1, h.gen9, h.ep, h.most, by rw [s.size_wrote]; exact hm, by simpa [Vst.wrote] using hf, fun m hm => by
    rcases List.mem_append.1 hm with hm | hm
    · exact h.all m hm
    · rw [List.mem_singleton.1 hm]; exact hn⟩
theorem Vst.Ok.set {s : Vst} (h : s.Ok) {e : Nat} (he : e ≤ 2147483647) (b : Bool) : ({ s with epoch := e, shut := b } : Vst).Ok :=
  ⟨h.num1, h.num9, h.gen1, h.gen9, he, h.most, h.size, h.few, h.all⟩

/-- What a call by a key and a cookie meets. -/
def Vst.look (s : Vst) (k c : Nat) : Nat := match newest s.ns k with
  | none => 6
  | some n => if n.gone = true then 7 else if n.cookie ≠ c then 9 else 0
def Vst.write (s : Vst) (n : Ndl) : Vst × Nat := if s.most < s.size + nlen n then (s, 11) else (s.wrote n, 0)
def Vst.put (s : Vst) (n : Ndl) : Vst × Nat :=
  if n.gone = true then (s, 1) else if ncheck n ≠ 0 then (s, ncheck n) else if s.shut = true then (s, 10) else match newest s.ns n.key with
  | some o => (s, if o.gone = true then 7 else 8)
  | none => s.write n
theorem Vst.put_gone {s : Vst} {n : Ndl} (h : n.gone = true) : s.put n = (s, 1) := by unfold Vst.put; rw [if_pos h]
theorem Vst.put_bad {s : Vst} {n : Ndl} (h : n.gone = false) (hc : ncheck n ≠ 0) : s.put n = (s, ncheck n) := by unfold Vst.put; rw [if_neg (by simp [h]), if_pos hc]
theorem Vst.put_shut {s : Vst} {n : Ndl} (h : n.gone = false) (hc : ncheck n = 0) (hs : s.shut = true) : s.put n = (s, 10) := by unfold Vst.put; rw [if_neg (by simp [h]), if_neg (by simp [hc]), if_pos hs]
theorem Vst.put_there {s : Vst} {n o : Ndl} (h : n.gone = false) (hc : ncheck n = 0) (hs : s.shut = false) (ho : newest s.ns n.key = some o) : s.put n = (s, if o.gone = true then 7 else 8) := by
  unfold Vst.put; rw [if_neg (by simp [h]), if_neg (by simp [hc]), if_neg (by simp [hs]), ho]
theorem Vst.put_new {s : Vst} {n : Ndl} (h : n.gone = false) (hc : ncheck n = 0) (hs : s.shut = false) (ho : newest s.ns n.key = none) (hm : s.size + nlen n ≤ s.most) : s.put n = (s.wrote n, 0) := by
  unfold Vst.put; rw [if_neg (by simp [h]), if_neg (by simp [hc]), if_neg (by simp [hs]), ho]
  unfold Vst.write; simp only; rw [if_neg (by omega)]
def grave (k c : Nat) : Ndl := ⟨k, c, true, []⟩
theorem grave_ok {k c : Nat} (hk : k < 18446744073709551616) (hc : c < 4294967296) : (grave k c).fits ∧ ncheck (grave k c) = 0 := ⟨⟨hk, hc⟩, rfl⟩
def Vst.del (s : Vst) (k c : Nat) : Vst × Nat := if s.look k c ≠ 0 then (s, s.look k c) else if s.shut = true then (s, 10) else s.write (grave k c)
def Vst.set (s : Vst) (e : Int) (b : Bool) : Vst × Nat := if e < 0 ∨ 2147483647 < e then (s, 1) else if e < (s.epoch : Int) then (s, 13) else ({ s with epoch := e.toNat, shut := b }, 0)

end Go.Cor
end

section
namespace Go.Cor

/-- What is wrong with bytes as a needle of a position. -/
def misK (l : List UInt8) (n : Ndl) : Nat :=
  if getCode l ≠ 0 then getCode l else if (getN l).key ≠ n.key ∨ (getN l).cookie ≠ n.cookie ∨ (getN l).gone ≠ n.gone ∨ (getN l).data.length ≠ n.data.length then 4 else 0
/-- What is wrong with a file's bytes at a place. -/
def misN (b : List UInt8) (n : Ndl) (off : Nat) : Nat := if b.length < off + nlen n then 3 else misK ((b.drop off).take (nlen n)) n

theorem getCode_top (l : List UInt8) : getCode l ≤ 5 := by
  unfold getCode
  repeat' split
  all_goals omega
theorem misK_top (l : List UInt8) (n : Ndl) : misK l n ≤ 5 := by
  have := getCode_top l
  unfold misK
  split
  · exact this
  · split <;> omega
theorem misN_top (b : List UInt8) (n : Ndl) (off : Nat) : misN b n off ≤ 5 := by
  unfold misN
  split
  · omega
  · exact misK_top _ _
theorem misK_own {n : Ndl} (hn : n.fits) (hc : ncheck n = 0) : misK (nbytes n) n = 0 := by
  obtain ⟨g1, g2, _⟩ := get_put hn hc []
  rw [List.append_nil] at g1 g2
  unfold misK
  rw [if_neg (by simp [g1]), g2, if_neg (by simp)]
theorem misN_own {b : List UInt8} {n : Ndl} {off : Nat} (hn : n.fits) (hc : ncheck n = 0) (hb : off + nlen n ≤ b.length) (hd : (b.drop off).take (nlen n) = nbytes n) : misN b n off = 0 := by
  unfold misN
  rw [if_neg (by omega), hd]
  exact misK_own hn hc

theorem fld_of (b : List UInt8) {off M a k : Nat} (h : a + k ≤ M) : fld ((b.drop off).take M) a k = fld b (off + a) k := by
  unfold fld
  rw [List.drop_take, List.take_take, List.drop_drop, Nat.min_eq_left (by omega)]
theorem fld_split (l : List UInt8) {a : Nat} (h : a + 8 ≤ l.length) : fld l a 8 = fld l a 4 + 4294967296 * fld l (a + 4) 4 := by
  unfold fld
  have e : (l.drop a).take 8 = (l.drop a).take 4 ++ (l.drop (a + 4)).take 4 := by
    rw [← List.drop_drop, show (8 : Nat) = 4 + 4 from rfl, List.take_add]
  rw [e, num_append]
  have : ((l.drop a).take 4).length = 4 := by simp; omega
  rw [this]

set_option maxRecDepth 100000 in
theorem magic_sum : crc (front ⟨1313162572, 1313162572, false, []⟩ ++ []) ≠ 1313162572 := by decide +kernel

/-- Eight bytes behind a needle's place there is none like it. -/
theorem misN_beside {b : List UInt8} {n : Ndl} {off : Nat} (hn : n.fits) (hc : ncheck n = 0) (hb : off + nlen n ≤ b.length) (hd : (b.drop off).take (nlen n) = nbytes n) : misN b n (off + 8) ≠ 0 := by
  intro h0
  have h32 : 32 ≤ nlen n := by unfold nlen; omega
  unfold misN at h0
  split at h0
  · omega
  · obtain ⟨l, hl⟩ : ∃ l, (b.drop (off + 8)).take (nlen n) = l := ⟨_, rfl⟩
    rw [hl] at h0
    unfold misK at h0
    split at h0
    · rename_i h1 h2
      exact h2 h0
    · rename_i h1 h2
      have hg : getCode l = 0 := by
        by_cases e : getCode l = 0
        · exact e
        · exact absurd e h2
      split at h0
      · omega
      · rename_i h3
        simp only [not_or, Decidable.not_not] at h3
        obtain ⟨e1, e2, e3, e4⟩ := h3
        have hform : formedB l = true := by
          unfold getCode at hg
          split at hg
          · omega
          · split at hg
            · omega
            · rename_i h
              simpa using h
        have hf := of_decide_eq_true (show decide _ = true from hform)
        obtain ⟨f0, f1, _, _, _⟩ := hf
        obtain ⟨hdl, _⟩ := ncheck_ok hc
        have hB := head_flds hn hdl (l := nbytes n) (by have := take32 n []; rwa [List.append_nil] at this)
        obtain ⟨_, _, b8, b16, b20, b24, b28, _⟩ := hB
        have hlen := nlen_eq n
        have F : ∀ a k, a + k ≤ 24 → fld l a k = fld (nbytes n) (8 + a) k := fun a k ha => by
          rw [← hl, ← hd, fld_of b (by omega), fld_of b (by omega), Nat.add_assoc]
        have s8 := fld_split (nbytes n) (a := 8) (by omega)
        have s16 := fld_split (nbytes n) (a := 16) (by omega)
        rw [F 0 4 (by omega)] at f0
        rw [F 4 4 (by omega)] at f1
        have k8 : (getN l).key = fld (nbytes n) 16 8 := F 8 8 (by omega)
        have k16 : (getN l).cookie = fld (nbytes n) 24 4 := F 16 4 (by omega)
        have k20 : dlen l = fld (nbytes n) 28 4 := F 20 4 (by omega)
        have hz : (getN l).data.length = 0 := by
          show (dataOf l).length = 0
          unfold dataOf
          rw [k20, b28]
          simp
        have hd0 : n.data = [] := List.eq_nil_of_length_eq_zero (by omega)
        have hc9 := hn.2
        have hkey : n.key = 1313162572 ∧ n.cookie = 1313162572 ∧ fld (nbytes n) 12 4 = 0 := by
          rw [b16, b20, hd0] at s16
          simp only [List.length_nil] at s16
          rw [k8] at e1
          have f0' : fld (nbytes n) 8 4 = 1313162572 := f0
          have f1' : fld (nbytes n) 12 4 ≤ 1 := f1
          rw [f0'] at s8
          have s8' : fld (nbytes n) 8 8 = 1313162572 + 4294967296 * fld (nbytes n) 12 4 := s8
          have s16' : fld (nbytes n) 16 8 = n.cookie + 4294967296 * 0 := s16
          omega
        have hgone : n.gone = false := by
          rw [← e3, getN_gone, F 4 4 (by omega)]
          have : fld (nbytes n) (8 + 4) 4 = 0 := hkey.2.2
          rw [this]
          decide
        have hN : n = ⟨1313162572, 1313162572, false, []⟩ := Ndl.ext' hkey.1 hkey.2.1 hgone hd0
        have hs : nsum n = 1313162572 := by
          rw [← b24, ← k16, e2]
          exact hkey.2.1
        rw [hN] at hs
        exact magic_sum hs

end Go.Cor
end
