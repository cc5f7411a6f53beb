/- Slices of bytes as lists, and numbers as bytes, the lowest first: of no program. -/
import Derived.WalkKit
import Derived.Laws.CopyOwn
import Derived.Laws.OwnMore
import Derived.Laws.MakeOwn
import Derived.Below
import Derived.Lib.Hide
import Derived.BigFrame
import Derived.Laws.Bits64
import Derived.Laws.BitsAllLaws
set_option linter.unusedVariables false
set_option linter.unusedSimpArgs false
namespace Go.Cor
open Go.RowKit

/-- A byte as a value. -/
abbrev bv (x : UInt8) : Value := .int .u8 (x.toNat : Int)
def bvs (l : List UInt8) : List Value := l.map bv
theorem bvs_append (l r : List UInt8) : bvs (l ++ r) = bvs l ++ bvs r := by simp [bvs]
theorem bvs_nil : bvs [] = [] := rfl
theorem bvs_cons (x : UInt8) (r : List UInt8) : bvs (x :: r) = bv x :: bvs r := rfl
@[simp] theorem length_bvs (l : List UInt8) : (bvs l).length = l.length := by simp [bvs]

/-- v is a slice of bytes that reads as l. -/
def IsB (w : World) (v : Value) (l : List UInt8) : Prop :=
  ∃ a cap, v = .slice a l.length cap ∧ l.length ≤ cap ∧ cap ≤ maxLen ∧
    (a = none → cap = 0) ∧ (l.length = 0 ∨ ∃ b off, a = some ⟨b, off, none⟩ ∧ ∀ i, i < l.length → w.cell? ⟨b, off + i, none⟩ = some (bv (l.getD i 0)))

theorem cell_lt {w : World} {p : Addr} {v : Value} (h : w.cell? p = some v) : p.block < w.heap.size := by
  by_cases hb : p.block < w.heap.size
  · exact hb
  · simp [World.cell?, Array.getElem?_eq_none (Nat.le_of_not_lt hb)] at h

theorem IsB.mono {w w' : World} {v : Value} {l : List UInt8} {B : Nat} (h : IsB w v l) (hb : Below B w w') (hB : w.heap.size ≤ B) : IsB w' v l := by
  obtain ⟨a, cap, rfl, h1, h2, h0, h3⟩ := h
  refine ⟨a, cap, rfl, h1, h2, h0, ?_⟩
  rcases h3 with h3 | ⟨b, off, rfl, hc⟩
  · exact .inl h3
  · refine .inr ⟨b, off, rfl, fun i hi => ?_⟩
    have := hc i hi
    rw [hb.cell (by have := cell_lt this; simp at this; simp; omega)]
    exact this

/-- The slice named, at its length. -/
theorem IsB.at_len {w : World} {v : Value} {l : List UInt8} {n : Nat} (h : IsB w v l) (hn : l.length = n) : ∃ x cap, v = .slice x n cap ∧ n ≤ cap ∧ cap ≤ maxLen := by
  obtain ⟨x, cap, rfl, h1, h2, _, _⟩ := h
  subst hn
  exact ⟨x, cap, rfl, h1, h2⟩
theorem IsB.takeN {w : World} {x : Option Addr} {n cap j : Nat} {l : List UInt8} (h : IsB w (.slice x n cap) l) (hn : l.length = n) (hj : j ≤ n) : IsB w (.slice x j cap) (l.take j) := by
  subst hn
  obtain ⟨a, c, e, h1, h2, h0, h3⟩ := h
  cases e
  have hlen : (l.take j).length = j := by simp; omega
  refine ⟨_, _, by rw [hlen], by rw [hlen]; omega, by omega, h0, ?_⟩
  rw [hlen]
  rcases h3 with h3 | ⟨b, off, rfl, hc⟩
  · exact .inl (by omega)
  · refine .inr ⟨b, off, rfl, fun i hi => ?_⟩
    rw [hc i (by omega)]
    congr 2
    simp only [List.getD_eq_getElem?_getD, List.getElem?_take, if_pos hi]

theorem IsB.nil (w : World) : IsB w (.slice none 0 0) [] := ⟨none, 0, rfl, Nat.le_refl _, Nat.zero_le _, fun _ => rfl, .inl rfl⟩

theorem bvs_get {l : List UInt8} {i : Nat} (h : i < l.length) : (bvs l)[i]? = some (bv (l.getD i 0)) := by
  simp [bvs, List.getElem?_map, List.getElem?_eq_getElem h, List.getD_eq_getElem?_getD]

theorem bvs_one (l : List UInt8) : ∀ v ∈ bvs l, v.oneCell' = true := by
  intro v hv
  obtain ⟨x, _, rfl⟩ := List.mem_map.1 hv
  rfl

/-- What a call made itself reads. -/
theorem IsB.own {w : World} {base : Nat} {e : TypeId} {v : Value} {l : List UInt8} {n : Nat} (h : w.ownsRow base e 1 v n (bvs l)) (hn : n = l.length) : IsB w v l := by
  subst hn
  rcases h.2 with ⟨rfl, h0⟩ | ⟨g, cap, cur, rfl, _, hg, hc, hm, hs, ht⟩
  · have : l = [] := List.eq_nil_of_length_eq_zero h0
    subst this
    exact IsB.nil w
  · refine ⟨_, cap, rfl, hc, hm, by simp, .inr ⟨g, 0, rfl, fun i hi => ?_⟩⟩
    have h2 := h.cells (g := g) rfl i (bv (l.getD i 0)) (bvs_get hi)
    have hadd : (⟨g, 0, none⟩ : Addr).add i = ⟨g, 0 + i, none⟩ := by unfold Addr.add; split <;> simp_all
    rw [hadd] at h2
    exact h2

theorem add_lit (b off i : Nat) : (⟨b, off, none⟩ : Addr).add i = ⟨b, off + i, none⟩ := by unfold Addr.add; split <;> simp_all

/-- A piece of a slice. -/
theorem IsB.sub {w : World} {x : Option Addr} {n cap j k : Nat} {l : List UInt8} (h : IsB w (.slice x n cap) l) (hjk : j + k ≤ l.length) :
    IsB w (.slice (x.map fun a => a.add j) k (cap - j)) ((l.drop j).take k) := by
  obtain ⟨a, c, e, h1, h2, h0, h3⟩ := h
  cases e
  have hlen : ((l.drop j).take k).length = k := by simp; omega
  refine ⟨_, _, by rw [hlen], by rw [hlen]; omega, by omega, fun hx => ?_, ?_⟩
  · have : x = none := by simpa using hx
    rw [h0 this]
    omega
  · rw [hlen]
    rcases h3 with h3 | ⟨b, off, rfl, hc⟩
    · exact .inl (by omega)
    · refine .inr ⟨b, off + j, by simp [add_lit], fun i hi => ?_⟩
      rw [show off + j + i = off + (j + i) from by omega, hc (j + i) (by omega)]
      congr 2
      simp only [List.getD_eq_getElem?_getD, List.getElem?_take, if_pos hi, List.getElem?_drop]

theorem IsB.take {w : World} {x : Option Addr} {n cap j : Nat} {l : List UInt8} (h : IsB w (.slice x n cap) l) (hj : j ≤ l.length) : IsB w (.slice x j cap) (l.take j) := by
  obtain ⟨a, c, e, h1, h2, h0, h3⟩ := h
  cases e
  have hlen : (l.take j).length = j := by simp; omega
  refine ⟨_, _, by rw [hlen], by rw [hlen]; omega, by omega, h0, ?_⟩
  rw [hlen]
  rcases h3 with h3 | ⟨b, off, rfl, hc⟩
  · exact .inl (by omega)
  · refine .inr ⟨b, off, rfl, fun i hi => ?_⟩
    rw [hc i (by omega)]
    congr 2
    simp only [List.getD_eq_getElem?_getD, List.getElem?_take, if_pos hi]

theorem IsB.drop {w : World} {x : Option Addr} {n cap j : Nat} {l : List UInt8} (h : IsB w (.slice x n cap) l) (hj : j ≤ l.length) :
    IsB w (.slice (x.map fun a => a.add j) (l.length - j) (cap - j)) (l.drop j) := by
  have := h.sub (j := j) (k := l.length - j) (by omega)
  rw [List.take_of_length_le (by simp)] at this
  exact this

/-- A list of bytes that was written out. -/
theorem IsB.lit (w : World) (l : List UInt8) (U : TypeId) (h : l.length ≤ maxLen) : IsB (w.alloc (.cells (bvs l).toArray U)) (.slice (some ⟨w.heap.size, 0, none⟩) l.length l.length) l := by
  have := World.ownsRow_lit (base := w.heap.size) (e := U) (size := 1) w (bvs l).toArray l.length (Nat.le_refl _) h (by simp)
  exact IsB.own (l := l) (by simpa using this) rfl

theorem IsB.litAt (w : World) (l : List UInt8) (U : TypeId) (g n : Nat) (h : l.length ≤ maxLen) (hg : w.heap.size = g) (hn : l.length = n) : IsB (w.alloc (.cells (bvs l).toArray U)) (.slice (some ⟨g, 0, none⟩) n n) l := by
  subst hg hn
  exact IsB.lit w l U h

theorem ownsRow_below {w w' : World} {base : Nat} {e : TypeId} {size : Nat} {v : Value} {n : Nat} {xs : List Value} {B : Nat} (h : w.ownsRow base e size v n xs) (hb : Below B w w') (hB : w.heap.size ≤ B) : w'.ownsRow base e size v n xs := by
  refine ⟨h.1, ?_⟩
  rcases h.2 with h2 | ⟨g, cap, cur, h1, h2, h3, h4⟩
  · exact .inl h2
  · refine .inr ⟨g, cap, cur, h1, h2, ?_, h4⟩
    have : g < w.heap.size := (Array.getElem?_eq_some_iff.1 h3).1
    rw [hb.block g (by omega)]
    exact h3

theorem ownsRow_base {w : World} {base base' : Nat} {e : TypeId} {size : Nat} {v : Value} {n : Nat} {xs : List Value} (h : w.ownsRow base e size v n xs) (hB : base' ≤ base) : w.ownsRow base' e size v n xs := by
  refine ⟨h.1, ?_⟩
  rcases h.2 with h2 | ⟨g, cap, cur, h1, h2, h3⟩
  · exact .inl h2
  · exact .inr ⟨g, cap, cur, h1, by omega, h3⟩

/-- Bytes behind a row of the call's own, whatever slice they come from. -/
theorem run_append_B {P : Program} (w : World) (base : Nat) (T U ty : TypeId) (i : TypeInfo) (ht : P.underlying T = some (.slice U)) (hi : P.info? U = some i) (hz : i.zero = some (.int .u8 0)) (hsize : i.size = 1) (hby : i.bytes = 1)
    (v : Value) (xs : List UInt8) (n : Nat) (hn : n = xs.length) (hown : w.ownsRow base U 1 v n (bvs xs)) (sv : Value) (ys : List UInt8) (hs : IsB w sv ys) (hlen : xs.length + ys.length ≤ 1099511627776) (hbase : base ≤ w.heap.size) :
    ∃ v' w', (Builtin.append_ #[T, T] ty #[v, sv]).run P w = .ok v' w' ∧ w'.ownsRow base U 1 v' (xs ++ ys).length (bvs (xs ++ ys)) ∧ w.grownBy w' v.ownBlock := by
  subst hn
  obtain ⟨a, cap, rfl, hlc, hcm, hnc, hcell⟩ := hs
  by_cases ha : a = none
  · subst ha
    obtain rfl := hnc rfl
    obtain rfl : ys = [] := List.eq_nil_of_length_eq_zero (by omega)
    exact ⟨v, w, run_append_owned_none (P := P) w base T ty U i 1 ht hi v _ _ hown, by simpa using hown, ⟨rfl, rfl, rfl, Nat.le_refl _, fun _ _ _ => rfl⟩⟩
  · obtain ⟨ad, rfl⟩ := Option.ne_none_iff_exists'.1 ha
    obtain ⟨v', w', h1, h2, h3, _⟩ := run_append_own (P := P) w base T ty U i (.int .u8 0) 1 1 ht hi hz hsize hby rfl (by decide) v xs.length (bvs xs) hown ad ys.length cap (bvs ys) (by simp)
      (fun j u hj => by
        have hjl : j < ys.length := by
          have := (List.getElem?_eq_some_iff.1 hj).1
          simpa using this
        rcases hcell with h0 | ⟨b, off, e, hc⟩
        · omega
        cases e
        rw [bvs_get hjl] at hj
        cases hj
        have hadd : (⟨b, off, none⟩ : Addr).add j = ⟨b, off + j, none⟩ := by unfold Addr.add; split <;> simp_all
        rw [hadd]
        exact hc j hjl) (bvs_one ys) (by unfold maxLen; omega) (by omega) hbase
    exact ⟨v', w', h1, by rw [bvs_append, List.length_append]; exact h2, h3⟩

theorem wpList_append_B {P : Program} {w : World} {ops : Array Oper} {rest : List Oper} {o : Oper} {a : Act} {Q : Exit → Act → World → Prop} (hw : Region.wanted o (yielded ops a.tmps) = true) (s x : Operand) (T : TypeId)
    (ho : o.op = .call { callee := .builtin .append, args := #[s, x], argTypes := #[T, T] })
    (base : Nat) (U : TypeId) (i : TypeInfo) (ht : P.underlying T = some (.slice U)) (hi : P.info? U = some i) (hz : i.zero = some (.int .u8 0)) (hsize : i.size = 1) (hby : i.bytes = 1)
    (v : Value) (xs : List UInt8) (n : Nat) (hs : a.eval s = v) (hown : w.ownsRow base U 1 v n (bvs xs)) (hn : n = xs.length) (sv : Value) (ys : List UInt8) (hx : a.eval x = sv) (hv : IsB w sv ys) (hlen : xs.length + ys.length ≤ 1099511627776) (hbase : base ≤ w.heap.size)
    (h : ∀ v' w', w'.ownsRow base U 1 v' (xs ++ ys).length (bvs (xs ++ ys)) → Below base w w' → wpList P ops Q rest (a.put o.dst v') w') : wpList P ops Q (o :: rest) a w := by
  refine BigFrame.wpList_want hw fun K hK => ?_
  obtain ⟨v', w', hr, h2, h3⟩ := run_append_B (P := P) w base T U o.type i ht hi hz hsize hby v xs n hn hown sv ys hv hlen hbase
  unfold Oper.wp execOp
  simp only [ho, resolve, invoke, builtin, Sem.run_bind, Sem.run_pure, Result.andThen_ok, List.map_toArray, List.map_cons, List.map_nil, hs, hx, hr]
  exact hK _ _ (h v' w' h2 ((Below.refl _ _).grown h3 hbase fun j hj => (hown.lt j hj).1))

theorem step_append_B {P : Program} {ops : Array Oper} {o : Oper} {a : Act} {w : World} {K : Act → World → Prop} {Q : Exit → Act → World → Prop} {E : Prop}
    (hw : Region.wanted o (yielded ops a.tmps) = true) (s x : Operand) (T : TypeId)
    (ho : o.op = .call { callee := .builtin .append, args := #[s, x], argTypes := #[T, T] })
    (base : Nat) (U : TypeId) (i : TypeInfo) (ht : P.underlying T = some (.slice U)) (hi : P.info? U = some i) (hz : i.zero = some (.int .u8 0)) (hsize : i.size = 1) (hby : i.bytes = 1)
    (v : Value) (xs : List UInt8) (n : Nat) (hs : a.eval s = v) (hown : w.ownsRow base U 1 v n (bvs xs)) (hn : n = xs.length) (sv : Value) (ys : List UInt8) (hx : a.eval x = sv) (hv : IsB w sv ys) (hlen : xs.length + ys.length ≤ 1099511627776) (hbase : base ≤ w.heap.size)
    (h : ∀ v' w', w'.ownsRow base U 1 v' (xs ++ ys).length (bvs (xs ++ ys)) → Below base w w' → K (a.put o.dst v') w') :
    if Region.wanted o (yielded ops a.tmps) = true then Oper.wp P o a w K Q else E := by
  rw [if_pos hw]
  obtain ⟨v', w', hr, h2, h3⟩ := run_append_B (P := P) w base T U o.type i ht hi hz hsize hby v xs n hn hown sv ys hv hlen hbase
  unfold Oper.wp execOp
  simp only [ho, resolve, invoke, builtin, Sem.run_bind, Sem.run_pure, Result.andThen_ok, List.map_toArray, List.map_cons, List.map_nil, hs, hx, hr]
  exact h v' w' h2 ((Below.refl _ _).grown h3 hbase fun j hj => (hown.lt j hj).1)

/-- The lowest k bytes of n, the lowest first. -/
def le : Nat → Nat → List UInt8
  | _, 0 => []
  | n, k + 1 => UInt8.ofNat n :: le (n / 256) k

/-- The number of bytes, the lowest first. -/
def num : List UInt8 → Nat
  | [] => 0
  | x :: r => x.toNat + 256 * num r

theorem length_le (n k : Nat) : (le n k).length = k := by
  induction k generalizing n with
  | zero => rfl
  | succ k ih => simp [le, ih]

theorem le_snoc (n k : Nat) : le n (k + 1) = le n k ++ [UInt8.ofNat (n / 256 ^ k)] := by
  induction k generalizing n with
  | zero => simp [le]
  | succ k ih =>
    rw [le, ih, le, List.cons_append]
    congr 3
    rw [Nat.div_div_eq_div_mul, Nat.pow_succ, Nat.mul_comm]

theorem num_le (n k : Nat) : num (le n k) = n % 256 ^ k := by
  induction k generalizing n with
  | zero => simp [le, num, Nat.mod_one]
  | succ k ih =>
    simp only [le, num, ih, UInt8.toNat_ofNat']
    rw [show 256 ^ (k + 1) = 256 * 256 ^ k from by rw [Nat.pow_succ, Nat.mul_comm], Nat.mod_mul]

theorem num_lt (l : List UInt8) : num l < 256 ^ l.length := by
  induction l with
  | nil => simp [num]
  | cons x r ih =>
    simp only [num, List.length_cons, Nat.pow_succ]
    have := x.toNat_lt
    omega

theorem le_num (l : List UInt8) : le (num l) l.length = l := by
  induction l with
  | nil => rfl
  | cons x r ih =>
    simp only [num, List.length_cons, le]
    have h1 : UInt8.ofNat (x.toNat + 256 * num r) = x := by
      apply UInt8.toNat_inj.1
      have := x.toNat_lt
      rw [UInt8.toNat_ofNat']
      omega
    have h2 : (x.toNat + 256 * num r) / 256 = num r := by
      have := x.toNat_lt
      omega
    rw [h1, h2, ih]

theorem num_append (l r : List UInt8) : num (l ++ r) = num l + 256 ^ l.length * num r := by
  induction l with
  | nil => simp [num]
  | cons x l ih =>
    simp only [List.cons_append, num, ih, List.length_cons, Nat.pow_succ]
    rw [Nat.mul_add, Nat.mul_comm (256 ^ l.length) 256, Nat.mul_assoc, Nat.add_assoc]

theorem num_take_step (l : List UInt8) (i k : Nat) (h : i < l.length) :
    num ((l.drop i).take (k + 1)) = (l[i]?.getD 0).toNat + 256 * num ((l.drop (i + 1)).take k) := by
  rw [List.drop_eq_getElem_cons h, List.take_succ_cons, List.getElem?_eq_getElem h]
  rfl

theorem shl8_or (m x : Nat) (hm : m < 72057594037927936) (hx : x < 256) : bits .or .u64 ((m : Int) * 256) (x : Int) = ((x + 256 * m : Nat) : Int) := by
  have e1 : (m : Int) * 256 = ((m * 256 : Nat) : Int) := by omega
  rw [e1, u64_or_nat _ _ (by omega) (by omega), nat_join 8 (m * 256) x (by omega) (by omega)]
  congr 1
  omega

theorem num_take_lt (l : List UInt8) (k : Nat) (h : k ≤ 7) : num (l.take k) < 72057594037927936 := by
  have h1 := num_lt (l.take k)
  have h2 : (l.take k).length ≤ 7 := by simp; omega
  have h3 : 256 ^ (l.take k).length ≤ 256 ^ 7 := Nat.pow_le_pow_right (by decide) h2
  have h4 : (256 : Nat) ^ 7 = 72057594037927936 := by decide
  omega

theorem copy_made {P : Program} (w : World) (T elem ty : TypeId) (hu : P.underlying T = some (.slice elem)) (hs1 : (P.info? elem).map (·.size) = some 1) (v : Value) (l : List UInt8) (hv : IsB w v l) (s : Nat) (hm : l.length + s ≤ maxLen) :
    ∃ w2, (Builtin.copy_ #[T, T] ty #[.slice (some ⟨w.heap.size, 0, none⟩) l.length (l.length + s), v]).run P (w.alloc (.cells (madeCells #[.int .u8 0] (l.length + s)) elem)) = .ok (goInt l.length) w2 ∧
      w2.ownsRow w.heap.size elem 1 (.slice (some ⟨w.heap.size, 0, none⟩) l.length (l.length + s)) l.length (bvs l) ∧ Below w.heap.size w w2 := by
  obtain ⟨a, cap, rfl, hlc, hcm, _, hcell⟩ := hv
  have hb1 : Below w.heap.size w (w.alloc (.cells (madeCells #[.int .u8 0] (l.length + s)) elem)) := (Below.refl _ _).alloc (Nat.le_refl _) _
  by_cases h0 : l.length = 0
  · obtain rfl : l = [] := List.eq_nil_of_length_eq_zero h0
    refine ⟨_, run_copy_none (P := P) _ T T ty elem _ a 0 _ 0 cap hu hs1 (by simp), ?_, hb1⟩
    exact ⟨rfl, .inr ⟨_, _, _, rfl, Nat.le_refl _, heap_alloc_new w _, Nat.zero_le _, hm, by simp [size_madeCells], by simp [bvs_nil]⟩⟩
  · rcases hcell with h0' | ⟨b, off, rfl, hc⟩
    · omega
    · have hr := run_copy_row (P := P) (w.alloc (.cells (madeCells #[.int .u8 0] (l.length + s)) elem)) T T ty elem w.heap.size 0 l.length (l.length + s) ⟨b, off, none⟩ l.length cap (madeCells #[.int .u8 0] (l.length + s)) elem (bvs l) hu hs1 (heap_alloc_new w _) (by simp)
        (fun j u hj => by
          have hjl : j < l.length := by
            have := (List.getElem?_eq_some_iff.1 hj).1
            simpa using this
          rw [bvs_get hjl] at hj
          cases hj
          have hadd : (⟨b, off, none⟩ : Addr).add j = ⟨b, off + j, none⟩ := by unfold Addr.add; split <;> simp_all
          rw [hadd, World.cell?_alloc_past _ _ _ (cell_lt (hc j hjl))]
          exact hc j hjl) (by simp [size_madeCells]) (bvs_one l)
      refine ⟨_, by simpa using hr, ?_, below_setRow hb1 (Nat.le_refl _) _⟩
      refine ⟨by simp, .inr ⟨w.heap.size, l.length + s, (bvs l ++ (madeCells #[.int .u8 0] (l.length + s)).toList.drop l.length).toArray, rfl, Nat.le_refl _, ?_, by omega, hm, ?_, ?_⟩⟩
      · exact setRow_heap _ _ _ _ _ _ (heap_alloc_new w _)
      · simp [size_madeCells]
      · simp

end Go.Cor
