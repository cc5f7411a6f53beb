/- Bytes, Crc, Ndl, Msg, Netp, Kept, Row, Blk, Nk, Rn, Ff, Pack, Ref01. -/
import Derived.WalkKit
import Derived.Laws.CopyOwn
import Derived.Laws.OwnMore
import Derived.Laws.MakeOwn
import Derived.Below
import Derived.Lib.Hide
import Derived.BigFrame
import Derived.Laws.Bits64
import Derived.Laws.BitsAllLaws
import Derived.Maps.AppendAt
import Derived.Lib.AppendZerosOnto
import Derived.ArgAppend
import Derived.Test.YtllbngopfganjaaGreatDoorChecked
import Derived.Maps.OwnSet
import Derived.DeepKeys5
import Derived.ProofKit
import Derived.WalkSpells
import Derived.WalkLawsBesides
import Derived.Deep.QuietTactic
import Derived.BigQuiet
import Derived.Deep.Draws
set_option linter.unusedVariables false
set_option linter.unusedSimpArgs false

section
namespace Go.Cor
open Go.RowKit

/-- A byte as a value. -/
abbrev bv (x : UInt8) : Value := .int .u8 (x.toNat : Int)
def bvs (l : List UInt8) : List Value := l.map bv
theorem bvs_append (l r : List UInt8) : bvs (l ++ r) = bvs l ++ bvs r := by simp [bvs]
theorem bvs_nil : bvs [] = [] := rfl
theorem bvs_cons (x : UInt8) (r : List UInt8) : bvs (x :: r) = bv x :: bvs r := rfl
@[simp] theorem length_bvs (l : List UInt8) : (bvs l).length = l.length := by simp [bvs]

/-- v is a slice of bytes that reads as l. -/
def IsB (w : World) (v : Value) (l : List UInt8) : Prop :=
  ∃ a cap, v = .slice a l.length cap ∧ l.length ≤ cap ∧ cap ≤ maxLen ∧
    (a = none → cap = 0) ∧ (l.length = 0 ∨ ∃ b off, a = some ⟨b, off, none⟩ ∧ ∀ i, i < l.length → w.cell? ⟨b, off + i, none⟩ = some (bv (l.getD i 0)))

theorem cell_lt {w : World} {p : Addr} {v : Value} (h : w.cell? p = some v) : p.block < w.heap.size := by
  by_cases hb : p.block < w.heap.size
  · exact hb
  · simp [World.cell?, Array.getElem?_eq_none (Nat.le_of_not_lt hb)] at h

theorem IsB.mono {w w' : World} {v : Value} {l : List UInt8} {B : Nat} (h : IsB w v l) (hb : Below B w w') (hB : w.heap.size ≤ B) : IsB w' v l := by
  obtain ⟨a, cap, rfl, h1, h2, h0, h3⟩ := h
  refine ⟨a, cap, rfl, h1, h2, h0, ?_⟩
  rcases h3 with h3 | ⟨b, off, rfl, hc⟩
  · exact .inl h3
  · refine .inr ⟨b, off, rfl, fun i hi => ?_⟩
    have := hc i hi
    rw [hb.cell (by have := cell_lt this; simp at this; simp; omega)]
    exact this

/-- The slice named, at its length. -/
theorem IsB.at_len {w : World} {v : Value} {l : List UInt8} {n : Nat} (h : IsB w v l) (hn : l.length = n) : ∃ x cap, v = .slice x n cap ∧ n ≤ cap ∧ cap ≤ maxLen := by
  obtain ⟨x, cap, rfl, h1, h2, _, _⟩ := h
  subst hn
  exact ⟨x, cap, rfl, h1, h2⟩
theorem IsB.takeN {w : World} {x : Option Addr} {n cap j : Nat} {l : List UInt8} (h : IsB w (.slice x n cap) l) (hn : l.length = n) (hj : j ≤ n) : IsB w (.slice x j cap) (l.take j) := by
  subst hn
  obtain ⟨a, c, e, h1, h2, h0, h3⟩ := h
  cases e
  have hlen : (l.take j).length = j := by simp; omega
  refine ⟨_, _, by rw [hlen], by rw [hlen]; omega, by omega, h0, ?_⟩
  rw [hlen]
  rcases h3 with h3 | ⟨b, off, rfl, hc⟩
  · exact .inl (by omega)
  · refine .inr ⟨b, off, rfl, fun i hi => ?_⟩
    rw [hc i (by omega)]
    congr 2
    simp only [List.getD_eq_getElem?_getD, List.getElem?_take, if_pos hi]

theorem IsB.nil (w : World) : IsB w (.slice none 0 0) [] := ⟨none, 0, rfl, Nat.le_refl _, Nat.zero_le _, fun _ => rfl, .inl rfl⟩

theorem bvs_get {l : List UInt8} {i : Nat} (h : i < l.length) : (bvs l)[i]? = some (bv (l.getD i 0)) := by
  simp [bvs, List.getElem?_map, List.getElem?_eq_getElem h, List.getD_eq_getElem?_getD]

theorem bvs_one (l : List UInt8) : ∀ v ∈ bvs l, v.oneCell' = true := by
  intro v hv
  obtain ⟨x, _, rfl⟩ := List.mem_map.1 hv
  rfl

/-- What a call made itself reads. -/
theorem IsB.own {w : World} {base : Nat} {e : TypeId} {v : Value} {l : List UInt8} {n : Nat} (h : w.ownsRow base e 1 v n (bvs l)) (hn : n = l.length) : IsB w v l := by
  subst hn
  rcases h.2 with ⟨rfl, h0⟩ | ⟨g, cap, cur, rfl, _, hg, hc, hm, hs, ht⟩
  · have : l = [] := List.eq_nil_of_length_eq_zero h0
    subst this
    exact IsB.nil w
  · refine ⟨_, cap, rfl, hc, hm, by simp, .inr ⟨g, 0, rfl, fun i hi => ?_⟩⟩
    have h2 := h.cells (g := g) rfl i (bv (l.getD i 0)) (bvs_get hi)
    have hadd : (⟨g, 0, none⟩ : Addr).add i = ⟨g, 0 + i, none⟩ := by unfold Addr.add; split <;> simp_all
    rw [hadd] at h2
    exact h2

theorem add_lit (b off i : Nat) : (⟨b, off, none⟩ : Addr).add i = ⟨b, off + i, none⟩ := by unfold Addr.add; split <;> simp_all

/-- A piece of a slice. -/
theorem IsB.sub {w : World} {x : Option Addr} {n cap j k : Nat} {l : List UInt8} (h : IsB w (.slice x n cap) l) (hjk : j + k ≤ l.length) :
    IsB w (.slice (x.map fun a => a.add j) k (cap - j)) ((l.drop j).take k) := by
  obtain ⟨a, c, e, h1, h2, h0, h3⟩ := h
  cases e
  have hlen : ((l.drop j).take k).length = k := by simp; omega
  refine ⟨_, _, by rw [hlen], by rw [hlen]; omega, by omega, fun hx => ?_, ?_⟩
  · have : x = none := by simpa using hx
    rw [h0 this]
    omega
  · rw [hlen]
    rcases h3 with h3 | ⟨b, off, rfl, hc⟩
    · exact .inl (by omega)
    · refine .inr ⟨b, off + j, by simp [add_lit], fun i hi => ?_⟩
      rw [show off + j + i = off + (j + i) from by omega, hc (j + i) (by omega)]
      congr 2
      simp only [List.getD_eq_getElem?_getD, List.getElem?_take, if_pos hi, List.getElem?_drop]

theorem IsB.take {w : World} {x : Option Addr} {n cap j : Nat} {l : List UInt8} (h : IsB w (.slice x n cap) l) (hj : j ≤ l.length) : IsB w (.slice x j cap) (l.take j) := by
  obtain ⟨a, c, e, h1, h2, h0, h3⟩ := h
  cases e
  have hlen : (l.take j).length = j := by simp; omega
  refine ⟨_, _, by rw [hlen], by rw [hlen]; omega, by omega, h0, ?_⟩
  rw [hlen]
  rcases h3 with h3 | ⟨b, off, rfl, hc⟩
  · exact .inl (by omega)
  · refine .inr ⟨b, off, rfl, fun i hi => ?_⟩
    rw [hc i (by omega)]
    congr 2
    simp only [List.getD_eq_getElem?_getD, List.getElem?_take, if_pos hi]

theorem IsB.drop {w : World} {x : Option Addr} {n cap j : Nat} {l : List UInt8} (h : IsB w (.slice x n cap) l) (hj : j ≤ l.length) :
    IsB w (.slice (x.map fun a => a.add j) (l.length - j) (cap - j)) (l.drop j) := by
  have := h.sub (j := j) (k := l.length - j) (by omega)
  rw [List.take_of_length_le (by simp)] at this
  exact this

/-- A list of bytes that was written out. -/
theorem IsB.lit (w : World) (l : List UInt8) (U : TypeId) (h : l.length ≤ maxLen) : IsB (w.alloc (.cells (bvs l).toArray U)) (.slice (some ⟨w.heap.size, 0, none⟩) l.length l.length) l := by
  have := World.ownsRow_lit (base := w.heap.size) (e := U) (size := 1) w (bvs l).toArray l.length (Nat.le_refl _) h (by simp)
  exact IsB.own (l := l) (by simpa using this) rfl

theorem ownsRow_below {w w' : World} {base : Nat} {e : TypeId} {size : Nat} {v : Value} {n : Nat} {xs : List Value} {B : Nat} (h : w.ownsRow base e size v n xs) (hb : Below B w w') (hB : w.heap.size ≤ B) : w'.ownsRow base e size v n xs := by
  refine ⟨h.1, ?_⟩
  rcases h.2 with h2 | ⟨g, cap, cur, h1, h2, h3, h4⟩
  · exact .inl h2
  · refine .inr ⟨g, cap, cur, h1, h2, ?_, h4⟩
    have : g < w.heap.size := (Array.getElem?_eq_some_iff.1 h3).1
    rw [hb.block g (by omega)]
    exact h3

theorem ownsRow_base {w : World} {base base' : Nat} {e : TypeId} {size : Nat} {v : Value} {n : Nat} {xs : List Value} (h : w.ownsRow base e size v n xs) (hB : base' ≤ base) : w.ownsRow base' e size v n xs := by
  refine ⟨h.1, ?_⟩
  rcases h.2 with h2 | ⟨g, cap, cur, h1, h2, h3⟩
  · exact .inl h2
  · exact .inr ⟨g, cap, cur, h1, by omega, h3⟩

/-- Bytes behind a row of the call's own, whatever slice they come from. -/
theorem run_append_B {P : Program} (w : World) (base : Nat) (T U ty : TypeId) (i : TypeInfo) (ht : P.underlying T = some (.slice U)) (hi : P.info? U = some i) (hz : i.zero = some (.int .u8 0)) (hsize : i.size = 1) (hby : i.bytes = 1)
    (v : Value) (xs : List UInt8) (n : Nat) (hn : n = xs.length) (hown : w.ownsRow base U 1 v n (bvs xs)) (sv : Value) (ys : List UInt8) (hs : IsB w sv ys) (hlen : xs.length + ys.length ≤ 1099511627776) (hbase : base ≤ w.heap.size) :
    ∃ v' w', (Builtin.append_ #[T, T] ty #[v, sv]).run P w = .ok v' w' ∧ w'.ownsRow base U 1 v' (xs ++ ys).length (bvs (xs ++ ys)) ∧ w.grownBy w' v.ownBlock := by
  subst hn
  obtain ⟨a, cap, rfl, hlc, hcm, hnc, hcell⟩ := hs
  by_cases ha : a = none
  · subst ha
    obtain rfl := hnc rfl
    obtain rfl : ys = [] := List.eq_nil_of_length_eq_zero (by omega)
    exact ⟨v, w, run_append_owned_none (P := P) w base T ty U i 1 ht hi v _ _ hown, by simpa using hown, ⟨rfl, rfl, rfl, Nat.le_refl _, fun _ _ _ => rfl⟩⟩
  · obtain ⟨ad, rfl⟩ := Option.ne_none_iff_exists'.1 ha
    obtain ⟨v', w', h1, h2, h3, _⟩ := run_append_own (P := P) w base T ty U i (.int .u8 0) 1 1 ht hi hz hsize hby rfl (by decide) v xs.length (bvs xs) hown ad ys.length cap (bvs ys) (by simp)
      (fun j u hj => by
        have hjl : j < ys.length := by
          have := (List.getElem?_eq_some_iff.1 hj).1
          simpa using this
        rcases hcell with h0 | ⟨b, off, e, hc⟩
        · omega
        cases e
        rw [bvs_get hjl] at hj
        cases hj
        have hadd : (⟨b, off, none⟩ : Addr).add j = ⟨b, off + j, none⟩ := by unfold Addr.add; split <;> simp_all
        rw [hadd]
        exact hc j hjl) (bvs_one ys) (by unfold maxLen; omega) (by omega) hbase
    exact ⟨v', w', h1, by rw [bvs_append, List.length_append]; exact h2, h3⟩

theorem wpList_append_B {P : Program} {w : World} {ops : Array Oper} {rest : List Oper} {o : Oper} {a : Act} {Q : Exit → Act → World → Prop} (hw : Region.wanted o (yielded ops a.tmps) = true) (s x : Operand) (T : TypeId)
    (ho : o.op = .call { callee := .builtin .append, args := #[s, x], argTypes := #[T, T] })
    (base : Nat) (U : TypeId) (i : TypeInfo) (ht : P.underlying T = some (.slice U)) (hi : P.info? U = some i) (hz : i.zero = some (.int .u8 0)) (hsize : i.size = 1) (hby : i.bytes = 1)
    (v : Value) (xs : List UInt8) (n : Nat) (hs : a.eval s = v) (hown : w.ownsRow base U 1 v n (bvs xs)) (hn : n = xs.length) (sv : Value) (ys : List UInt8) (hx : a.eval x = sv) (hv : IsB w sv ys) (hlen : xs.length + ys.length ≤ 1099511627776) (hbase : base ≤ w.heap.size)
    (h : ∀ v' w', w'.ownsRow base U 1 v' (xs ++ ys).length (bvs (xs ++ ys)) → Below base w w' → wpList P ops Q rest (a.put o.dst v') w') : wpList P ops Q (o :: rest) a w := by
  refine BigFrame.wpList_want hw fun K hK => ?_
  obtain ⟨v', w', hr, h2, h3⟩ := run_append_B (P := P) w base T U o.type i ht hi hz hsize hby v xs n hn hown sv ys hv hlen hbase
  unfold Oper.wp execOp
  simp only [ho, resolve, invoke, builtin, Sem.run_bind, Sem.run_pure, Result.andThen_ok, List.map_toArray, List.map_cons, List.map_nil, hs, hx, hr]
  exact hK _ _ (h v' w' h2 ((Below.refl _ _).grown h3 hbase fun j hj => (hown.lt j hj).1))

/-- The lowest k bytes of n, the lowest first. -/
def le : Nat → Nat → List UInt8
  | _, 0 => []
  | n, k + 1 => UInt8.ofNat n :: le (n / 256) k

/-- The number of bytes, the lowest first. -/
def num : List UInt8 → Nat
  | [] => 0
  | x :: r => x.toNat + 256 * num r

theorem length_le (n k : Nat) : (le n k).length = k := by
  induction k generalizing n with
  | zero => rfl
  | succ k ih => simp [le, ih]

theorem le_snoc (n k : Nat) : le n (k + 1) = le n k ++ [UInt8.ofNat (n / 256 ^ k)] := by
  induction k generalizing n with
  | zero => simp [le]
  | succ k ih =>
    rw [le, ih, le, List.cons_append]
    congr 3
    rw [Nat.div_div_eq_div_mul, Nat.pow_succ, Nat.mul_comm]

theorem num_le (n k : Nat) : num (le n k) = n % 256 ^ k := by
  induction k generalizing n with
  | zero => simp [le, num, Nat.mod_one]
  | succ k ih =>
    simp only [le, num, ih, UInt8.toNat_ofNat']
    rw [show 256 ^ (k + 1) = 256 * 256 ^ k from by rw [Nat.pow_succ, Nat.mul_comm], Nat.mod_mul]

theorem num_lt (l : List UInt8) : num l < 256 ^ l.length := by
  induction l with
  | nil => simp [num]
  | cons x r ih =>
    simp only [num, List.length_cons, Nat.pow_succ]
    have := x.toNat_lt
    omega

theorem num_take_step (l : List UInt8) (i k : Nat) (h : i < l.length) :
    num ((l.drop i).take (k + 1)) = (l[i]?.getD 0).toNat + 256 * num ((l.drop (i + 1)).take k) := by
  rw [List.drop_eq_getElem_cons h, List.take_succ_cons, List.getElem?_eq_getElem h]
  rfl

theorem shl8_or (m x : Nat) (hm : m < 72057594037927936) (hx : x < 256) : bits .or .u64 ((m : Int) * 256) (x : Int) = ((x + 256 * m : Nat) : Int) := by
  have e1 : (m : Int) * 256 = ((m * 256 : Nat) : Int) := by omega
  rw [e1, u64_or_nat _ _ (by omega) (by omega), nat_join 8 (m * 256) x (by omega) (by omega)]
  congr 1
  omega

theorem num_take_lt (l : List UInt8) (k : Nat) (h : k ≤ 7) : num (l.take k) < 72057594037927936 := by
  have h1 := num_lt (l.take k)
  have h2 : (l.take k).length ≤ 7 := by simp; omega
  have h3 : 256 ^ (l.take k).length ≤ 256 ^ 7 := Nat.pow_le_pow_right (by decide) h2
  have h4 : (256 : Nat) ^ 7 = 72057594037927936 := by decide
  omega

theorem copy_made {P : Program} (w : World) (T elem ty : TypeId) (hu : P.underlying T = some (.slice elem)) (hs1 : (P.info? elem).map (·.size) = some 1) (v : Value) (l : List UInt8) (hv : IsB w v l) (s : Nat) (hm : l.length + s ≤ maxLen) :
    ∃ w2, (Builtin.copy_ #[T, T] ty #[.slice (some ⟨w.heap.size, 0, none⟩) l.length (l.length + s), v]).run P (w.alloc (.cells (madeCells #[.int .u8 0] (l.length + s)) elem)) = .ok (goInt l.length) w2 ∧
      w2.ownsRow w.heap.size elem 1 (.slice (some ⟨w.heap.size, 0, none⟩) l.length (l.length + s)) l.length (bvs l) ∧ Below w.heap.size w w2 := by
  obtain ⟨a, cap, rfl, hlc, hcm, _, hcell⟩ := hv
  have hb1 : Below w.heap.size w (w.alloc (.cells (madeCells #[.int .u8 0] (l.length + s)) elem)) := (Below.refl _ _).alloc (Nat.le_refl _) _
  by_cases h0 : l.length = 0
  · obtain rfl : l = [] := List.eq_nil_of_length_eq_zero h0
    refine ⟨_, run_copy_none (P := P) _ T T ty elem _ a 0 _ 0 cap hu hs1 (by simp), ?_, hb1⟩
    exact ⟨rfl, .inr ⟨_, _, _, rfl, Nat.le_refl _, heap_alloc_new w _, Nat.zero_le _, hm, by simp [size_madeCells], by simp [bvs_nil]⟩⟩
  · rcases hcell with h0' | ⟨b, off, rfl, hc⟩
    · omega
    · have hr := run_copy_row (P := P) (w.alloc (.cells (madeCells #[.int .u8 0] (l.length + s)) elem)) T T ty elem w.heap.size 0 l.length (l.length + s) ⟨b, off, none⟩ l.length cap (madeCells #[.int .u8 0] (l.length + s)) elem (bvs l) hu hs1 (heap_alloc_new w _) (by simp)
        (fun j u hj => by
          have hjl : j < l.length := by
            have := (List.getElem?_eq_some_iff.1 hj).1
            simpa using this
          rw [bvs_get hjl] at hj
          cases hj
          have hadd : (⟨b, off, none⟩ : Addr).add j = ⟨b, off + j, none⟩ := by unfold Addr.add; split <;> simp_all
          rw [hadd, World.cell?_alloc_past _ _ _ (cell_lt (hc j hjl))]
          exact hc j hjl) (by simp [size_madeCells]) (bvs_one l)
      refine ⟨_, by simpa using hr, ?_, below_setRow hb1 (Nat.le_refl _) _⟩
      refine ⟨by simp, .inr ⟨w.heap.size, l.length + s, (bvs l ++ (madeCells #[.int .u8 0] (l.length + s)).toList.drop l.length).toArray, rfl, Nat.le_refl _, ?_, by omega, hm, ?_, ?_⟩⟩
      · exact setRow_heap _ _ _ _ _ _ (heap_alloc_new w _)
      · simp [size_madeCells]
      · simp

end Go.Cor
end

section
namespace Go.Cor

/-- A step with a bit. -/
def cstep (r b : Nat) : Nat := if r % 2 = b then r / 2 else (r / 2) ^^^ 2197175160
/-- n steps with the lowest n bits of x. -/
def csteps : Nat → Nat → Nat → Nat
  | 0, r, _ => r
  | n + 1, r, x => csteps n (cstep r (x % 2)) (x / 2)
/-- All bytes. -/
def creg (r : Nat) (l : List UInt8) : Nat := l.foldl (fun r x => csteps 8 r x.toNat) r
/-- More of a sum. -/
def cmore (s : Nat) (l : List UInt8) : Nat := 4294967295 - creg (4294967295 - s) l
/-- The sum. -/
def crc (l : List UInt8) : Nat := cmore 0 l

theorem creg_append (r : Nat) (l m : List UInt8) : creg r (l ++ m) = creg (creg r l) m := by simp [creg]

theorem cstep_lt {r : Nat} (b : Nat) (h : r < 4294967296) : cstep r b < 4294967296 := by
  unfold cstep
  split
  · omega
  · exact Nat.xor_lt_two_pow (n := 32) (by omega) (by decide)
theorem csteps_lt (n : Nat) {r : Nat} (x : Nat) (h : r < 4294967296) : csteps n r x < 4294967296 := by
  induction n generalizing r x with
  | zero => exact h
  | succ n ih => exact ih _ (cstep_lt _ h)
theorem creg_lt {r : Nat} (l : List UInt8) (h : r < 4294967296) : creg r l < 4294967296 := by
  induction l generalizing r with
  | nil => exact h
  | cons x l ih => exact ih (csteps_lt _ _ h)
theorem cmore_lt (s : Nat) (l : List UInt8) : cmore s l < 4294967296 := by unfold cmore; omega
theorem crc_lt (l : List UInt8) : crc l < 4294967296 := cmore_lt 0 l

theorem cmore_more (s : Nat) (l m : List UInt8) : cmore (cmore s l) m = cmore s (l ++ m) := by
  have h := creg_lt (r := 4294967295 - s) l (by omega)
  unfold cmore
  rw [creg_append, show 4294967295 - (4294967295 - creg (4294967295 - s) l) = creg (4294967295 - s) l from by omega]
theorem crc_append (l m : List UInt8) : crc (l ++ m) = cmore (crc l) m := (cmore_more 0 l m).symm

theorem csteps_succ (n r x : Nat) : csteps (n + 1) r x = cstep (csteps n r x) (x / 2 ^ n % 2) := by
  induction n generalizing r x with
  | zero => simp [csteps]
  | succ n ih =>
    rw [csteps, ih, csteps, Nat.div_div_eq_div_mul, Nat.pow_succ, Nat.mul_comm 2]

/-- A step loses nothing. -/
theorem xor_mod2 (a b : Nat) : (a ^^^ b) % 2 = (a + b) % 2 := by
  have h := Nat.xor_mod_two_pow (a := a) (b := b) (n := 1)
  rw [show (2 : Nat) ^ 1 = 2 from rfl] at h
  rw [h]
  rcases Nat.mod_two_eq_zero_or_one a with ha | ha <;> rcases Nat.mod_two_eq_zero_or_one b with hb | hb <;> rw [ha, hb]
  all_goals
    simp
    omega
end Go.Cor
end

section
namespace Go.Cor

/-- A needle. -/
structure Ndl where
  key : Nat
  cookie : Nat
  gone : Bool
  data : List UInt8

theorem Ndl.ext' {a b : Ndl} (h1 : a.key = b.key) (h2 : a.cookie = b.cookie) (h3 : a.gone = b.gone) (h4 : a.data = b.data) : a = b := by
  cases a
  cases b
  simp_all

/-- Its numbers fit. -/
def Ndl.fits (n : Ndl) : Prop := n.key < 18446744073709551616 ∧ n.cookie < 4294967296
def flagN (g : Bool) : Nat := if g = true then 1 else 0
def zerosN (k : Nat) : List UInt8 := List.replicate k 0
def padn (n : Nat) : Nat := (8 - n % 8) % 8
/-- What its sum is of, but the data. -/
def front (n : Ndl) : List UInt8 := le 1313162572 4 ++ le (flagN n.gone) 4 ++ le n.key 8 ++ le n.cookie 4 ++ le n.data.length 4
def nsum (n : Ndl) : Nat := crc (front n ++ n.data)
/-- Its head. -/
def nhead (n : Ndl) : List UInt8 := front n ++ le (nsum n) 4 ++ zerosN 4
/-- Its bytes. -/
def nbytes (n : Ndl) : List UInt8 := nhead n ++ n.data ++ zerosN (padn n.data.length)
/-- Why it may not be. -/
def ncheck (n : Ndl) : Nat := if 4096 < n.data.length then 2 else if n.gone = true ∧ 0 < n.data.length then 1 else 0

theorem ncheck_le (n : Ndl) : ncheck n ≤ 2 := by
  unfold ncheck
  split
  · omega
  · split <;> omega
theorem ncheck_ok {n : Ndl} (h : ncheck n = 0) : n.data.length ≤ 4096 ∧ (n.gone = true → n.data.length = 0) := by
  unfold ncheck at h
  split at h
  · omega
  · split at h
    · omega
    · rename_i h1 h2
      exact ⟨by omega, fun hg => by
        have : ¬ 0 < n.data.length := fun hl => h2 ⟨hg, hl⟩
        omega⟩

theorem padn_lt (n : Nat) : padn n < 8 := by unfold padn; omega
theorem length_front (n : Ndl) : (front n).length = 24 := by simp [front, length_le]
theorem length_zerosN (k : Nat) : (zerosN k).length = k := by simp [zerosN]
theorem length_nhead (n : Ndl) : (nhead n).length = 32 := by simp [nhead, length_front, length_le, length_zerosN]
theorem length_nbytes (n : Ndl) : (nbytes n).length = 32 + n.data.length + padn n.data.length := by simp [nbytes, length_nhead, length_zerosN]; omega

/-- A number that stands in bytes. -/
def fld (l : List UInt8) (a k : Nat) : Nat := num ((l.drop a).take k)
theorem fld_lt (l : List UInt8) (a k : Nat) : fld l a k < 256 ^ k := by
  have h := num_lt ((l.drop a).take k)
  have h2 : ((l.drop a).take k).length ≤ k := by simp; omega
  exact Nat.lt_of_lt_of_le h (Nat.pow_le_pow_right (by decide) h2)
theorem fld4_lt (l : List UInt8) (a : Nat) : fld l a 4 < 4294967296 := fld_lt l a 4
theorem fld_take (l : List UInt8) {a k j : Nat} (h : a + k ≤ j) : fld (l.take j) a k = fld l a k := by
  unfold fld
  rw [List.drop_take, List.take_take, Nat.min_eq_left (by omega)]
theorem fld_append (p l q : List UInt8) {a k : Nat} (hp : p.length = a) (hl : l.length = k) : fld (p ++ l ++ q) a k = num l := by
  unfold fld
  rw [List.append_assoc, List.drop_left' hp, List.take_left' hl]

/-- Is the head one that may be? -/
def formedB (l : List UInt8) : Bool := decide (fld l 0 4 = 1313162572 ∧ fld l 4 4 ≤ 1 ∧ fld l 28 4 = 0 ∧ fld l 20 4 ≤ 4096 ∧ (fld l 4 4 = 1 → fld l 20 4 = 0))
/-- How many bytes of data. -/
def dlen (l : List UInt8) : Nat := fld l 20 4
def total (l : List UInt8) : Nat := 32 + dlen l + padn (dlen l)
def dataOf (l : List UInt8) : List UInt8 := (l.drop 32).take (dlen l)
def padOf (l : List UInt8) : List UInt8 := (l.drop (32 + dlen l)).take (padn (dlen l))
def sumOkN (l : List UInt8) : Bool := decide (crc (l.take 24 ++ dataOf l) = fld l 24 4)
def zeroB (l : List UInt8) : Bool := decide (∀ x ∈ l, x = 0)
/-- Why bytes begin with no needle. -/
def getCode (l : List UInt8) : Nat :=
  if l.length < 32 then 3 else if formedB l = false then 4 else if l.length < total l then 3 else if sumOkN l = false then 5 else if zeroB (padOf l) = false then 4 else 0
/-- The needle with which they begin. -/
def getN (l : List UInt8) : Ndl := ⟨fld l 8 8, fld l 16 4, decide (fld l 4 4 = 1), dataOf l⟩

theorem formed_len {l : List UInt8} (h : formedB l = true) : dlen l ≤ 4096 := (of_decide_eq_true h).2.2.2.1
theorem zero_num (l : List UInt8) : num l = 0 ↔ ∀ x ∈ l, x = 0 := by
  induction l with
  | nil => simp [num]
  | cons x l ih =>
    simp only [num, List.mem_cons, forall_eq_or_imp, ← ih]
    constructor
    · intro h
      exact ⟨UInt8.toNat_inj.1 (by simp; omega), by omega⟩
    · rintro ⟨rfl, h⟩
      simp [h]
theorem zeroB_zeros (k : Nat) : zeroB (zerosN k) = true := decide_eq_true fun x hx => by
  have := List.mem_replicate.1 hx
  exact this.2
theorem zeroB_num (l : List UInt8) : zeroB l = decide (num l = 0) := by
  unfold zeroB
  exact decide_eq_decide.2 (zero_num l).symm
theorem getN_gone (l : List UInt8) : (getN l).gone = decide (fld l 4 4 = 1) := rfl
/-- What the head of a needle tells, wherever it stands ahead. -/
theorem head_flds {n : Ndl} {l : List UInt8} (hn : n.fits) (hd : n.data.length ≤ 4096) (h : l.take 32 = nhead n) :
    fld l 0 4 = 1313162572 ∧ fld l 4 4 = flagN n.gone ∧ fld l 8 8 = n.key ∧ fld l 16 4 = n.cookie ∧ fld l 20 4 = n.data.length ∧ fld l 24 4 = nsum n ∧ fld l 28 4 = 0 ∧ l.take 24 = front n := by
  have hf : flagN n.gone < 256 ^ 4 := by unfold flagN; split <;> decide
  have hc : nsum n < 256 ^ 4 := crc_lt (front n ++ n.data)
  have L : (le 1313162572 4).length = 4 ∧ (le (flagN n.gone) 4).length = 4 ∧ (le n.key 8).length = 8 ∧ (le n.cookie 4).length = 4 ∧ (le n.data.length 4).length = 4 := by simp [length_le]
  obtain ⟨L0, L1, L2, L3, L4⟩ := L
  have N0 : num (le 1313162572 4) = 1313162572 := by rw [num_le]
  have N1 : num (le (flagN n.gone) 4) = flagN n.gone := by rw [num_le, Nat.mod_eq_of_lt hf]
  have N2 : num (le n.key 8) = n.key := by rw [num_le, Nat.mod_eq_of_lt hn.1]
  have N3 : num (le n.cookie 4) = n.cookie := by rw [num_le, Nat.mod_eq_of_lt hn.2]
  have N4 : num (le n.data.length 4) = n.data.length := by rw [num_le, Nat.mod_eq_of_lt (by omega)]
  have N5 : num (le (nsum n) 4) = nsum n := by rw [num_le, Nat.mod_eq_of_lt hc]
  have N6 : num (zerosN 4) = 0 := (zero_num _).2 (of_decide_eq_true (zeroB_zeros 4))
  have F : ∀ a k, a + k ≤ 32 → fld l a k = fld (nhead n) a k := fun a k ha => by rw [← h, fld_take l ha]
  rw [F 0 4 (by omega), F 4 4 (by omega), F 8 8 (by omega), F 16 4 (by omega), F 20 4 (by omega), F 24 4 (by omega), F 28 4 (by omega)]
  have e24 : l.take 24 = (l.take 32).take 24 := by rw [List.take_take, Nat.min_eq_left (by omega)]
  rw [e24, h]
  refine ⟨?_, ?_, ?_, ?_, ?_, ?_, ?_, ?_⟩
  · rw [← N0]
    have := fld_append [] (le 1313162572 4) (le (flagN n.gone) 4 ++ le n.key 8 ++ le n.cookie 4 ++ le n.data.length 4 ++ le (nsum n) 4 ++ zerosN 4) (a := 0) rfl L0
    simpa [nhead, front, List.append_assoc, N0] using this
  · have := fld_append (le 1313162572 4) (le (flagN n.gone) 4) (le n.key 8 ++ le n.cookie 4 ++ le n.data.length 4 ++ le (nsum n) 4 ++ zerosN 4) L0 L1
    simpa [nhead, front, List.append_assoc, N1] using this
  · have := fld_append (le 1313162572 4 ++ le (flagN n.gone) 4) (le n.key 8) (le n.cookie 4 ++ le n.data.length 4 ++ le (nsum n) 4 ++ zerosN 4) (a := 8) (by simp [length_le]) L2
    simpa [nhead, front, List.append_assoc, N2] using this
  · have := fld_append (le 1313162572 4 ++ le (flagN n.gone) 4 ++ le n.key 8) (le n.cookie 4) (le n.data.length 4 ++ le (nsum n) 4 ++ zerosN 4) (a := 16) (by simp [length_le]) L3
    simpa [nhead, front, List.append_assoc, N3] using this
  · have := fld_append (le 1313162572 4 ++ le (flagN n.gone) 4 ++ le n.key 8 ++ le n.cookie 4) (le n.data.length 4) (le (nsum n) 4 ++ zerosN 4) (a := 20) (by simp [length_le]) L4
    simpa [nhead, front, List.append_assoc, N4] using this
  · have := fld_append (front n) (le (nsum n) 4) (zerosN 4) (a := 24) (length_front n) (length_le _ _)
    simpa [nhead, List.append_assoc, N5] using this
  · have := fld_append (front n ++ le (nsum n) 4) (zerosN 4) [] (a := 28) (by simp [length_front, length_le]) (length_zerosN 4)
    simpa [nhead, List.append_assoc, N6] using this
  · rw [nhead, List.append_assoc]
    exact List.take_left' (length_front n)

theorem head_formed {n : Ndl} {l : List UInt8} (hn : n.fits) (hc : ncheck n = 0) (h : l.take 32 = nhead n) : formedB l = true ∧ dlen l = n.data.length := by
  obtain ⟨hd, hg⟩ := ncheck_ok hc
  obtain ⟨f0, f1, f2, f3, f4, f5, f6, f7⟩ := head_flds hn hd h
  refine ⟨decide_eq_true ?_, f4⟩
  rw [f0, f1, f4, f6]
  refine ⟨rfl, ?_, rfl, hd, fun hf => ?_⟩
  · unfold flagN
    split <;> omega
  · apply hg
    unfold flagN at hf
    split at hf
    · assumption
    · omega

theorem take32 (n : Ndl) (rest : List UInt8) : (nbytes n ++ rest).take 32 = nhead n := by
  rw [nbytes, List.append_assoc, List.append_assoc]
  exact List.take_left' (length_nhead n)

/-- What is put is got, whatever stands behind. -/
theorem get_put {n : Ndl} (hn : n.fits) (hc : ncheck n = 0) (rest : List UInt8) :
    getCode (nbytes n ++ rest) = 0 ∧ getN (nbytes n ++ rest) = n ∧ total (nbytes n ++ rest) = (nbytes n).length := by
  obtain ⟨hd, hg⟩ := ncheck_ok hc
  have h := take32 n rest
  obtain ⟨f0, f1, f2, f3, f4, f5, f6, f7⟩ := head_flds hn hd h
  obtain ⟨hform, hdl⟩ := head_formed hn hc h
  have ht : total (nbytes n ++ rest) = (nbytes n).length := by unfold total; rw [hdl, length_nbytes]
  have e1 : nbytes n ++ rest = nhead n ++ (n.data ++ (zerosN (padn n.data.length) ++ rest)) := by simp [nbytes, List.append_assoc]
  have hda : dataOf (nbytes n ++ rest) = n.data := by
    unfold dataOf
    rw [hdl, e1, List.drop_left' (length_nhead n), List.take_left' rfl]
  have hpa : padOf (nbytes n ++ rest) = zerosN (padn n.data.length) := by
    unfold padOf
    rw [hdl, e1, ← List.append_assoc, List.drop_left' (by rw [List.length_append, length_nhead]), List.take_left' (length_zerosN _)]
  have hs : sumOkN (nbytes n ++ rest) = true := decide_eq_true (by rw [f7, hda, f5]; rfl)
  have hz : zeroB (padOf (nbytes n ++ rest)) = true := by rw [hpa]; exact zeroB_zeros _
  have hl := length_nbytes n
  have hll : (nbytes n ++ rest).length = (nbytes n).length + rest.length := List.length_append
  have hgone : (getN (nbytes n ++ rest)).gone = n.gone := by
    rw [getN_gone, f1]
    unfold flagN
    cases n.gone <;> simp
  refine ⟨?_, Ndl.ext' f2 f3 hgone hda, ht⟩
  · unfold getCode
    rw [if_neg (by omega), if_neg (by rw [hform]; simp), if_neg (by omega), if_neg (by rw [hs]; simp), if_neg (by rw [hz]; simp)]

/-- Are they alike? -/
def sameN (a b : Ndl) : Bool := decide (a.key = b.key ∧ a.cookie = b.cookie ∧ a.gone = b.gone ∧ a.data = b.data)
theorem sameN_eq (a b : Ndl) : sameN a b = true ↔ a = b := by
  unfold sameN
  rw [decide_eq_true_iff]
  exact ⟨fun h => Ndl.ext' h.1 h.2.1 h.2.2.1 h.2.2.2, fun h => by subst h; exact ⟨rfl, rfl, rfl, rfl⟩⟩
end Go.Cor
end

section
namespace Go.Cor

structure Msg where
  fr : Int
  to : Int
  kd : Int
  vo : Int
  li : Int
  id : Nat
  co : Int
  has : Bool
  n : Ndl
def nz : Ndl := ⟨0, 0, false, []⟩
def mz : Msg := ⟨0, 0, 0, 0, 0, 0, 0, false, nz⟩
theorem Msg.ext' {a b : Msg} (h1 : a.fr = b.fr) (h2 : a.to = b.to) (h3 : a.kd = b.kd) (h4 : a.vo = b.vo) (h5 : a.li = b.li) (h6 : a.id = b.id) (h7 : a.co = b.co) (h8 : a.has = b.has) (h9 : a.n = b.n) : a = b := by
  cases a
  cases b
  simp_all
/-- Its fields are as they may be. -/
def Msg.good (m : Msg) : Prop := 0 ≤ m.fr ∧ m.fr ≤ 255 ∧ 0 ≤ m.to ∧ m.to ≤ 255 ∧ 0 ≤ m.co ∧ m.co ≤ 255 ∧ 1 ≤ m.kd ∧ m.kd ≤ 5 ∧ (m.kd < 5 → m.co = 0) ∧ 1 ≤ m.vo ∧ m.vo ≤ 65535 ∧ 0 ≤ m.li ∧ m.li ≤ 2147483647
instance (m : Msg) : Decidable m.good := by unfold Msg.good; infer_instance
/-- Why it may not be. -/
def mcheck (m : Msg) : Nat := if ¬ m.good then 1 else if m.has = true then ncheck m.n else if sameN m.n nz = true then 0 else 1
theorem mcheck_ok {m : Msg} (h : mcheck m = 0) : m.good ∧ (m.has = true → ncheck m.n = 0) ∧ (m.has = false → m.n = nz) := by
  unfold mcheck at h
  split at h
  · omega
  · rename_i h1
    refine ⟨Decidable.not_not.1 h1, fun h2 => by rw [if_pos h2] at h; exact h, fun h2 => ?_⟩
    rw [if_neg (by rw [h2]; simp)] at h
    split at h
    · rename_i h3; exact (sameN_eq _ _).1 h3
    · omega
def sameM (a b : Msg) : Bool := decide (a.fr = b.fr ∧ a.to = b.to ∧ a.kd = b.kd ∧ a.vo = b.vo ∧ a.li = b.li ∧ a.id = b.id ∧ a.co = b.co ∧ a.has = b.has) && sameN a.n b.n
theorem sameM_eq (a b : Msg) : sameM a b = true ↔ a = b := by
  unfold sameM
  rw [Bool.and_eq_true, decide_eq_true_iff, sameN_eq]
  constructor
  · rintro ⟨⟨h1, h2, h3, h4, h5, h6, h7, h8⟩, h9⟩
    exact Msg.ext' h1 h2 h3 h4 h5 h6 h7 h8 h9
  · rintro rfl
    exact ⟨⟨rfl, rfl, rfl, rfl, rfl, rfl, rfl, rfl⟩, rfl⟩
end Go.Cor
end

section
namespace Go.Cor

/-- Packets under way, in their order, and the pairs that are cut. -/
structure NetP where
  l : List Msg
  c : List (Int × Int)
def pairB (p : Int × Int) (a b : Int) : Bool := decide (p.1 = a ∧ p.2 = b ∨ p.1 = b ∧ p.2 = a)
/-- Are two places cut from each other? -/
def apartP (c : List (Int × Int)) (a b : Int) : Bool := c.any fun p => pairB p a b
/-- What a cut or a join leaves. -/
def cutP (c : List (Int × Int)) (a b : Int) (cut : Bool) : List (Int × Int) := c.filter (fun p => ! pairB p a b) ++ (if cut = true then [(a, b)] else [])
def cutK (a b : Int) : Nat := if 0 ≤ a ∧ a ≤ 255 ∧ 0 ≤ b ∧ b ≤ 255 ∧ a ≠ b then 0 else 1
def takeK (n : NetP) (i : Int) : Nat := match (if 0 ≤ i then n.l[i.toNat]? else none) with | none => 6 | some m => if apartP n.c m.fr m.to = true then 17 else 0
def takeN (n : NetP) (i : Int) : NetP := if takeK n i = 0 then { n with l := n.l.eraseIdx i.toNat } else n
def peekK (n : NetP) (i : Int) : Nat := if 0 ≤ i ∧ i.toNat < n.l.length then 0 else 6
def twiceK (n : NetP) (i : Int) : Nat := if peekK n i = 0 then (if 4096 ≤ n.l.length then 11 else 0) else 6
def twiceN (n : NetP) (i : Int) : NetP := if twiceK n i = 0 then { n with l := n.l ++ [n.l.getD i.toNat mz] } else n
def cutN (n : NetP) (a b : Int) (cut : Bool) : NetP := if cutK a b = 0 then { n with c := cutP n.c a b cut } else n
theorem peekK_ok {n : NetP} {i : Int} (h : peekK n i = 0) : 0 ≤ i ∧ i.toNat < n.l.length := by
  unfold peekK at h
  split at h
  · assumption
  · cases h
/-- All packets are such as may be. -/
def NetP.good (n : NetP) : Prop := n.l.length ≤ 4096 ∧ ∀ m ∈ n.l, mcheck m = 0 ∧ m.n.fits ∧ m.id < 18446744073709551616
theorem NetP.good.sub {n : NetP} (h : n.good) {i : Nat} (hi : i < n.l.length) : mcheck (n.l.getD i mz) = 0 ∧ (n.l.getD i mz).n.fits ∧ (n.l.getD i mz).id < 18446744073709551616 := by
  rw [List.getD_eq_getElem?_getD, List.getElem?_eq_getElem hi]
  exact h.2 _ (List.getElem_mem hi)
theorem NetP.good.erase {n : NetP} (h : n.good) (i : Nat) : ({ n with l := n.l.eraseIdx i } : NetP).good :=
  ⟨Nat.le_trans (List.length_eraseIdx_le ..) h.1, fun m hm => h.2 m (List.mem_of_mem_eraseIdx hm)⟩
theorem NetP.good.snoc {n : NetP} (h : n.good) (hl : ¬ 4096 ≤ n.l.length) {m : Msg} (hm : mcheck m = 0 ∧ m.n.fits ∧ m.id < 18446744073709551616) : ({ n with l := n.l ++ [m] } : NetP).good := by
  refine ⟨by show (n.l ++ [m]).length ≤ 4096; rw [List.length_append]; simp; omega, fun x hx => ?_⟩
  rcases List.mem_append.1 hx with h1 | h1
  · exact h.2 x h1
  · rw [List.mem_singleton.1 h1]; exact hm
theorem NetP.good.take {n : NetP} (h : n.good) (i : Int) : (takeN n i).good := by
  unfold takeN
  split
  · exact h.erase _
  · exact h
theorem NetP.good.twice {n : NetP} (h : n.good) (i : Int) : (twiceN n i).good := by
  unfold twiceN twiceK
  by_cases hp : peekK n i = 0
  · by_cases hl : 4096 ≤ n.l.length
    · rw [if_pos hp, if_pos hl, if_neg (by decide)]; exact h
    · rw [if_pos hp, if_neg hl, if_pos rfl]; exact h.snoc hl (h.sub (peekK_ok hp).2)
  · rw [if_neg hp, if_neg (by decide)]; exact h
theorem NetP.good.cut {n : NetP} (h : n.good) (a b : Int) (cut : Bool) : (cutN n a b cut).good := by
  unfold cutN
  split
  · exact h
  · exact h

end Go.Cor
end

section
namespace Go.Cor
open Go.RowKit

/-- Of the blocks that there were, none but those of S has turned. -/
structure Kept (S : Nat → Prop) (w w' : World) : Prop where
  os : w'.os = w.os
  tape : w'.tape = w.tape
  output : w'.output = w.output
  size : w.heap.size ≤ w'.heap.size
  block : ∀ k, k < w.heap.size → ¬ S k → w'.heap[k]? = w.heap[k]?

theorem Kept.refl (S : Nat → Prop) (w : World) : Kept S w w := ⟨rfl, rfl, rfl, Nat.le_refl _, fun _ _ _ => rfl⟩
/-- One call behind the other: what the second one may write is the first one's, or was made by it. -/
theorem Kept.trans {S T : Nat → Prop} {a b c : World} (h : Kept S a b) (k : Kept T b c) (hT : ∀ j, T j → j < a.heap.size → S j) : Kept S a c :=
  ⟨k.os.trans h.os, k.tape.trans h.tape, k.output.trans h.output, Nat.le_trans h.size k.size,
    fun i hi hs => (k.block i (Nat.lt_of_lt_of_le hi h.size) (fun ht => hs (hT i ht hi))).trans (h.block i hi hs)⟩
theorem Kept.mono {S T : Nat → Prop} {w w' : World} (h : Kept S w w') (hT : ∀ k, k < w.heap.size → S k → T k) : Kept T w w' :=
  ⟨h.os, h.tape, h.output, h.size, fun k hk hn => h.block k hk (fun hs => hn (hT k hk hs))⟩
theorem Kept.of_below {S : Nat → Prop} {w w' : World} {B : Nat} (h : Below B w w') (hB : w.heap.size ≤ B) : Kept S w w' :=
  ⟨h.os, h.tape, h.output, h.size, fun k hk _ => h.block k (by omega)⟩
theorem Kept.below {S : Nat → Prop} {w w' : World} {B : Nat} (h : Kept S w w') (hB : B ≤ w.heap.size) (hS : ∀ k, k < B → ¬ S k) : Below B w w' :=
  ⟨h.os, h.tape, h.output, h.size, fun k hk => h.block k (by omega) (hS k hk)⟩
theorem Kept.below_trans {S : Nat → Prop} {a w w' : World} {B : Nat} (hb : Below B a w) (h : Kept S w w') (hB : B ≤ w.heap.size) (hS : ∀ k, k < B → ¬ S k) : Below B a w' :=
  hb.trans (h.below hB hS)
theorem Kept.cell {S : Nat → Prop} {w w' : World} (h : Kept S w w') {p : Addr} {v : Value} (hp : w.cell? p = some v) (hs : ¬ S p.block) : w'.cell? p = some v :=
  (World.cell?_of_block (w := w) (h.block p.block (cell_lt hp) hs)).trans hp
theorem Kept.frozen {S : Nat → Prop} {w w' : World} (h : Kept S w w') {p : Addr} (hp : p.block < w.heap.size) (hs : ¬ S p.block) : w'.frozen? p = w.frozen? p :=
  World.frozen?_of_block (w := w) (h.block p.block hp hs)
theorem Kept.alloc {S : Nat → Prop} {a w : World} (h : Kept S a w) (o : Obj) : Kept S a (w.alloc o) :=
  h.trans (T := fun _ => False) ⟨rfl, rfl, rfl, by simp, fun k hk _ => Below.heap_alloc _ _ _ hk⟩ (fun _ h => h.elim)
theorem Kept.drew {S : Nat → Prop} {a w : World} (h : Kept S a w) : Kept S a w.drew := ⟨h.os, h.tape, h.output, h.size, h.block⟩
theorem Kept.setCell {S : Nat → Prop} {a w : World} (h : Kept S a w) {p : Addr} (hp : S p.block ∨ a.heap.size ≤ p.block) (u : Value) : Kept S a (w.setCell p u) :=
  h.trans (T := fun k => k = p.block) ⟨rfl, rfl, rfl, by simp [World.setCell], fun k _ hk => Below.heap_setCell _ _ _ _ hk⟩ (fun j e hj => by
    subst e
    rcases hp with hp | hp
    · exact hp
    · omega)
theorem Kept.grown {S : Nat → Prop} {a w w' : World} {row : Option Nat} (h : Kept S a w) (hg : w.grownBy w' row) (hr : ∀ k, row = some k → S k ∨ a.heap.size ≤ k) : Kept S a w' :=
  h.trans (T := fun k => row = some k) ⟨hg.os, hg.tape, hg.output, hg.size, fun k hk hn => hg.block k hk (fun e => hn e.symm)⟩ (fun j e hj => by
    rcases hr j e with h | h
    · exact h
    · omega)

/-- Where bytes lie: in no block, if there are none. -/
def liesB (v : Value) (l : List UInt8) (k : Nat) : Prop := l.length ≠ 0 ∧ v.ownBlock = some k
theorem IsB.lies_lt {w : World} {v : Value} {l : List UInt8} (h : IsB w v l) {k : Nat} (hk : liesB v l k) : k < w.heap.size := by
  obtain ⟨a, cap, rfl, h1, h2, h0, h3⟩ := h
  obtain ⟨hl, hk⟩ := hk
  rcases h3 with h3 | ⟨b, off, rfl, hc⟩
  · exact absurd h3 hl
  · have e : b = k := by simpa [Value.ownBlock] using hk
    subst e
    exact cell_lt (hc 0 (by omega))
theorem IsB.kept {S : Nat → Prop} {w w' : World} {v : Value} {l : List UInt8} (h : IsB w v l) (hk : Kept S w w') (hs : ∀ k, liesB v l k → ¬ S k) : IsB w' v l := by
  obtain ⟨a, cap, rfl, h1, h2, h0, h3⟩ := h
  refine ⟨a, cap, rfl, h1, h2, h0, ?_⟩
  rcases h3 with h3 | ⟨b, off, rfl, hc⟩
  · exact .inl h3
  · refine .inr ⟨b, off, rfl, fun i hi => ?_⟩
    exact hk.cell (hc i hi) (hs b ⟨by omega, rfl⟩)
theorem ownsRow_kept {S : Nat → Prop} {w w' : World} {base : Nat} {e : TypeId} {size : Nat} {v : Value} {n : Nat} {xs : List Value} (h : w.ownsRow base e size v n xs) (hk : Kept S w w') (hs : ∀ k, v.ownBlock = some k → ¬ S k) : w'.ownsRow base e size v n xs := by
  refine ⟨h.1, ?_⟩
  rcases h.2 with h2 | ⟨g, cap, cur, rfl, h2, hg, h3⟩
  · exact .inl h2
  · have hlt : g < w.heap.size := (h.lt g rfl).2
    exact .inr ⟨g, cap, cur, rfl, h2, (hk.block g hlt (hs g rfl)).trans hg, h3⟩

end Go.Cor
end

section
namespace Go.Cor
open Go.RowKit

/-- A list of elements as cells. -/
def row {α : Type} (enc : α → List Value) (l : List α) : List Value := l.flatMap enc
theorem row_cons {α : Type} (enc : α → List Value) (x : α) (l : List α) : row enc (x :: l) = enc x ++ row enc l := rfl
theorem row_append {α : Type} (enc : α → List Value) (a b : List α) : row enc (a ++ b) = row enc a ++ row enc b := by simp [row]
theorem row_one {α : Type} (enc : α → List Value) (x : α) : row enc [x] = enc x := by simp [row]
theorem length_row {α : Type} {enc : α → List Value} {size : Nat} (h : ∀ x, (enc x).length = size) (l : List α) : (row enc l).length = l.length * size := by
  induction l with
  | nil => simp [row]
  | cons x r ih => rw [row_cons, List.length_append, ih, h, List.length_cons, Nat.add_mul, Nat.one_mul, Nat.add_comm]
theorem row_get {α : Type} {enc : α → List Value} {size : Nat} (h : ∀ x, (enc x).length = size) {l : List α} {i : Nat} {x : α} (hx : l[i]? = some x) (j : Nat) (hj : j < size) : (row enc l)[i * size + j]? = (enc x)[j]? := by
  induction l generalizing i with
  | nil => simp at hx
  | cons y r ih =>
    cases i with
    | zero =>
      simp only [List.getElem?_cons_zero, Option.some.injEq] at hx
      subst hx
      rw [Nat.zero_mul, Nat.zero_add, row_cons, List.getElem?_append_left (by rw [h]; exact hj)]
    | succ i =>
      rw [List.getElem?_cons_succ] at hx
      have e : (i + 1) * size + j = size + (i * size + j) := by rw [Nat.add_mul, Nat.one_mul]; omega
      rw [row_cons, e, List.getElem?_append_right (by rw [h]; exact Nat.le_add_right _ _), h, Nat.add_sub_cancel_left]
      exact ih hx
theorem row_take {α : Type} {enc : α → List Value} {size : Nat} (h : ∀ x, (enc x).length = size) (l : List α) (i : Nat) : (row enc l).take (i * size) = row enc (l.take i) := by
  induction l generalizing i with
  | nil => simp [row]
  | cons y r ih =>
    cases i with
    | zero => simp [row]
    | succ i =>
      have e : (i + 1) * size = (enc y).length + i * size := by rw [h, Nat.add_mul, Nat.one_mul, Nat.add_comm]
      rw [row_cons, List.take_succ_cons, row_cons, e, List.take_length_add_append, ih]
theorem row_drop {α : Type} {enc : α → List Value} {size : Nat} (h : ∀ x, (enc x).length = size) (l : List α) (i : Nat) : (row enc l).drop (i * size) = row enc (l.drop i) := by
  induction l generalizing i with
  | nil => simp [row]
  | cons y r ih =>
    cases i with
    | zero => simp [row]
    | succ i =>
      have e : (i + 1) * size = (enc y).length + i * size := by rw [h, Nat.add_mul, Nat.one_mul, Nat.add_comm]
      rw [row_cons, List.drop_succ_cons, e, List.drop_length_add_append, ih]
theorem row_mem {α : Type} {enc : α → List Value} {l : List α} (h : ∀ x ∈ l, ∀ v ∈ enc x, v.oneCell' = true) : ∀ v ∈ row enc l, v.oneCell' = true := by
  intro v hv
  obtain ⟨x, hx, hv⟩ := List.mem_flatMap.1 hv
  exact h x hx v hv

/-- v is a slice of n elements of so many cells each, which are cs. -/
def IsX (w : World) (size : Nat) (v : Value) (n : Nat) (cs : List Value) : Prop :=
  ∃ a cap, v = .slice a n cap ∧ n ≤ cap ∧ cap ≤ maxLen ∧ cs.length = n * size ∧ (a = none → cap = 0) ∧ (n = 0 ∨ ∃ b off, a = some ⟨b, off, none⟩ ∧ ∀ j, j < n * size → w.cell? ⟨b, off + j, none⟩ = cs[j]?)

theorem IsX.nil (w : World) (size : Nat) : IsX w size (.slice none 0 0) 0 [] := ⟨none, 0, rfl, Nat.le_refl _, Nat.zero_le _, by simp, fun _ => rfl, .inl rfl⟩
theorem IsX.slice {w : World} {size : Nat} {v : Value} {n : Nat} {cs : List Value} (h : IsX w size v n cs) : ∃ x c, v = .slice x n c ∧ n ≤ c ∧ c ≤ maxLen := by
  obtain ⟨a, cap, rfl, h1, h2, _⟩ := h
  exact ⟨a, cap, rfl, h1, h2⟩
/-- Where its cells lie: nowhere, if there are none. -/
def liesX (v : Value) (n : Nat) (k : Nat) : Prop := n ≠ 0 ∧ v.ownBlock = some k
theorem IsX.lies_lt {w : World} {size : Nat} {v : Value} {n : Nat} {cs : List Value} (h : IsX w size v n cs) (hs : 0 < size) {k : Nat} (hk : liesX v n k) : k < w.heap.size := by
  obtain ⟨a, cap, rfl, h1, h2, hl, h0, h3⟩ := h
  obtain ⟨hn, hk⟩ := hk
  rcases h3 with h3 | ⟨b, off, rfl, hc⟩
  · exact absurd h3 hn
  · have e : b = k := by simpa [Value.ownBlock] using hk
    subst e
    have hp : 0 < n * size := Nat.mul_pos (Nat.pos_of_ne_zero hn) hs
    have := hc 0 hp
    rw [List.getElem?_eq_getElem (by omega)] at this
    exact cell_lt this
theorem IsX.kept {S : Nat → Prop} {w w' : World} {size : Nat} {v : Value} {n : Nat} {cs : List Value} (h : IsX w size v n cs) (hk : Kept S w w') (hs : ∀ k, liesX v n k → ¬ S k) : IsX w' size v n cs := by
  obtain ⟨a, cap, rfl, h1, h2, hl, h0, h3⟩ := h
  refine ⟨a, cap, rfl, h1, h2, hl, h0, ?_⟩
  rcases h3 with h3 | ⟨b, off, rfl, hc⟩
  · exact .inl h3
  · by_cases hn : n = 0
    · exact .inl hn
    refine .inr ⟨b, off, rfl, fun j hj => ?_⟩
    have e := List.getElem?_eq_getElem (l := cs) (i := j) (by omega)
    rw [e]
    exact hk.cell ((hc j hj).trans e) (hs b ⟨hn, rfl⟩)
theorem IsX.mono {w w' : World} {size : Nat} {v : Value} {n : Nat} {cs : List Value} {B : Nat} (h : IsX w size v n cs) (hb : Below B w w') (hB : w.heap.size ≤ B) : IsX w' size v n cs :=
  h.kept (S := fun _ => False) (Kept.of_below hb hB) (fun _ _ h => h)
theorem IsX.own {w : World} {base : Nat} {e : TypeId} {size : Nat} {v : Value} {n : Nat} {cs : List Value} (h : w.ownsRow base e size v n cs) : IsX w size v n cs := by
  have hl := h.1
  rcases h.2 with ⟨rfl, h0⟩ | ⟨g, cap, cur, rfl, _, hg, hc, hm, hs, ht⟩
  · subst h0
    exact ⟨none, 0, rfl, Nat.le_refl _, Nat.zero_le _, hl, fun _ => rfl, .inl rfl⟩
  · refine ⟨_, cap, rfl, hc, hm, hl, by simp, .inr ⟨g, 0, rfl, fun j hj => ?_⟩⟩
    rw [Nat.zero_add]
    exact h.cellAt j hj
theorem IsX.take {w : World} {size : Nat} {x : Option Addr} {n cap j : Nat} {cs : List Value} (h : IsX w size (.slice x n cap) n cs) (hj : j ≤ n) : IsX w size (.slice x j cap) j (cs.take (j * size)) := by
  obtain ⟨a, c, e, h1, h2, hl, h0, h3⟩ := h
  cases e
  have hle : j * size ≤ n * size := Nat.mul_le_mul_right _ hj
  refine ⟨_, _, rfl, by omega, h2, by rw [List.length_take]; omega, h0, ?_⟩
  rcases h3 with h3 | ⟨b, off, rfl, hc⟩
  · exact .inl (by omega)
  · refine .inr ⟨b, off, rfl, fun i hi => ?_⟩
    rw [hc i (by omega), List.getElem?_take, if_pos hi]
theorem IsX.piece {w : World} {size : Nat} {x : Option Addr} {n cap lo hi : Nat} {cs : List Value} (h : IsX w size (.slice x n cap) n cs) (h1 : lo ≤ hi) (h2 : hi ≤ n) : IsX w size (sliced x lo hi cap size) (hi - lo) ((cs.drop (lo * size)).take ((hi - lo) * size)) := by
  obtain ⟨a, c, e, k1, k2, hl, k0, k3⟩ := h
  cases e
  have hm : lo * size + (hi - lo) * size ≤ n * size := by
    rw [← Nat.add_mul]
    exact Nat.mul_le_mul_right _ (by omega)
  unfold sliced
  refine ⟨_, _, rfl, by omega, by omega, by rw [List.length_take, List.length_drop]; omega, fun hx => ?_, ?_⟩
  · split at hx
    · omega
    · have : x = none := by simpa using hx
      rw [k0 this]
      omega
  · by_cases h0 : hi - lo = 0
    · exact .inl h0
    · rcases k3 with k3 | ⟨b, off, rfl, hc⟩
      · omega
      · rw [if_neg (by omega)]
        refine .inr ⟨b, off + lo * size, by simp [add_lit], fun i hi' => ?_⟩
        rw [show off + lo * size + i = off + (lo * size + i) from by omega, hc (lo * size + i) (by omega), List.getElem?_take, if_pos hi', List.getElem?_drop]
theorem len_X {P : Program} {w : World} {size : Nat} {v : Value} {n : Nat} {cs : List Value} (hv : IsX w size v n cs) (T ty U : TypeId) (ht : P.underlying T = some (.slice U)) (W : World) : (Builtin.len_ #[T] ty #[v]).run P W = .ok (.int .i64 (n : Int)) W := by
  obtain ⟨a, cap, rfl, _⟩ := hv
  have ht' : P.underlying T = some (.slice (P.elem T)) := by simp [Program.elem, ht]
  exact run_len_slice (P := P) W T ty a n cap ht'
/-- An index, and the cells of the element there. -/
theorem indexAt_X {P : Program} {w : World} {size : Nat} {v : Value} {n : Nat} {cs : List Value} (hv : IsX w size v n cs) (T U : TypeId) (ht : P.underlying T = some (.slice U)) (hs : (P.info? U).map (·.size) = some size) (i : Nat) (hi : i < n) :
    ∃ b o, (∀ W, (Instr.indexAt T v (.int .i64 (i : Int))).run P W = .ok (.pointer (some ⟨b, o, none⟩)) W) ∧ v.ownBlock = some b ∧ ∀ j, j < size → w.cell? ⟨b, o + j, none⟩ = cs[i * size + j]? := by
  obtain ⟨j, hj1, hj2⟩ := Option.map_eq_some_iff.1 hs
  obtain ⟨a, cap, rfl, k1, k2, hl, k0, k3⟩ := hv
  rcases k3 with k3 | ⟨b, off, rfl, hc⟩
  · omega
  refine ⟨b, off + i * size, fun W => ?_, rfl, fun j hj => ?_⟩
  · have ht' : P.underlying T = some (.slice (P.elem T)) := by simp [Program.elem, ht]
    have he : P.elem T = U := by simp [Program.elem, ht]
    have hsz : ∀ W, (sizeOf U).run P W = .ok size W := fun W => by simp [sizeOf, typeInfo, hj1, hj2]
    have h0 : (0 : Int) ≤ (i : Int) := by omega
    have h1 : (i : Int) < (n : Int) := by omega
    go_simp
  · have hle : (i + 1) * size ≤ n * size := Nat.mul_le_mul_right _ (by omega)
    rw [Nat.add_mul, Nat.one_mul] at hle
    rw [show off + i * size + j = off + (i * size + j) from by omega, hc _ (by omega)]
theorem slice_l_X {P : Program} {w : World} {size : Nat} {x : Option Addr} {n cap : Nat} {cs : List Value} (hv : IsX w size (.slice x n cap) n cs) (T U : TypeId) (ht : P.underlying T = some (.slice U)) (hs : (P.info? U).map (·.size) = some size) (lo : Nat) (h2 : lo ≤ n) :
    ∀ W, (Instr.slice T (.slice x n cap) (some (.int .i64 (lo : Int))) none none).run P W = .ok (sliced x lo n cap size) W := by
  obtain ⟨i, hi1, hi2⟩ := Option.map_eq_some_iff.1 hs
  obtain ⟨a, c, e, k1, k2, hl, k0, k3⟩ := hv
  cases e
  have ht' : P.underlying T = some (.slice (P.elem T)) := by simp [Program.elem, ht]
  have he : P.elem T = U := by simp [Program.elem, ht]
  have hsz : ∀ W, (sizeOf U).run P W = .ok size W := fun W => by simp [sizeOf, typeInfo, hi1, hi2]
  intro W
  rw [run_slice_l W T _ _ _ ht' .i64 _ (by omega) (by omega), he, hsz]
  simp [Result.andThen]
/-- s[:h], h up to the capacity. -/
theorem slice_h_X {P : Program} (size : Nat) (x : Option Addr) (n cap : Nat) (T U : TypeId) (ht : P.underlying T = some (.slice U)) (hs : (P.info? U).map (·.size) = some size) (hi : Nat) (h2 : hi ≤ cap) :
    ∀ W, (Instr.slice T (.slice x n cap) none (some (.int .i64 (hi : Int))) none).run P W = .ok (.slice x hi cap) W := by
  obtain ⟨i, hi1, hi2⟩ := Option.map_eq_some_iff.1 hs
  have ht' : P.underlying T = some (.slice (P.elem T)) := by simp [Program.elem, ht]
  have he : P.elem T = U := by simp [Program.elem, ht]
  have hsz : ∀ W, (sizeOf U).run P W = .ok size W := fun W => by simp [sizeOf, typeInfo, hi1, hi2]
  intro W
  rw [run_slice_h W T _ _ _ ht' .i64 _ (by omega) (by omega), he, hsz]
  by_cases hc0 : cap = 0
  · simp [Result.andThen, sliced, hc0]
  · have hadd : (x.map fun y => y.add 0) = x := by cases x <;> simp [Addr.add]
    simp [Result.andThen, sliced, hc0, hadd]

/-- s[l:h], h up to the capacity. -/
theorem slice_lh_C {P : Program} (size : Nat) (x : Option Addr) (n cap : Nat) (T U : TypeId) (ht : P.underlying T = some (.slice U)) (hs : (P.info? U).map (·.size) = some size) (lo hi : Nat) (h1 : lo ≤ hi) (h2 : hi ≤ cap) :
    ∀ W, (Instr.slice T (.slice x n cap) (some (.int .i64 (lo : Int))) (some (.int .i64 (hi : Int))) none).run P W = .ok (sliced x lo hi cap size) W := by
  obtain ⟨i, hi1, hi2⟩ := Option.map_eq_some_iff.1 hs
  have ht' : P.underlying T = some (.slice (P.elem T)) := by simp [Program.elem, ht]
  have he : P.elem T = U := by simp [Program.elem, ht]
  have hsz : ∀ W, (sizeOf U).run P W = .ok size W := fun W => by simp [sizeOf, typeInfo, hi1, hi2]
  intro W
  rw [run_slice_lh W T _ _ _ ht' .i64 .i64 _ _ (by omega) (by omega) (by omega), he, hsz]
  simp [Result.andThen]
theorem slice_l_C {P : Program} (size : Nat) (x : Option Addr) (n cap : Nat) (T U : TypeId) (ht : P.underlying T = some (.slice U)) (hs : (P.info? U).map (·.size) = some size) (lo : Nat) (h1 : lo ≤ n) :
    ∀ W, (Instr.slice T (.slice x n cap) (some (.int .i64 (lo : Int))) none none).run P W = .ok (sliced x lo n cap size) W := by
  obtain ⟨i, hi1, hi2⟩ := Option.map_eq_some_iff.1 hs
  have ht' : P.underlying T = some (.slice (P.elem T)) := by simp [Program.elem, ht]
  have he : P.elem T = U := by simp [Program.elem, ht]
  have hsz : ∀ W, (sizeOf U).run P W = .ok size W := fun W => by simp [sizeOf, typeInfo, hi1, hi2]
  intro W
  rw [run_slice_l W T _ _ _ ht' .i64 _ (by omega) (by omega), he, hsz]
  simp [Result.andThen]
/-- s[l:h:m]. -/
theorem slice_lhm_C {P : Program} (size : Nat) (x : Option Addr) (n cap : Nat) (T U : TypeId) (ht : P.underlying T = some (.slice U)) (hs : (P.info? U).map (·.size) = some size) (lo hi mx : Nat) (h1 : lo ≤ hi) (h2 : hi ≤ mx) (h3 : mx ≤ cap) :
    ∃ u, ∀ W, (Instr.slice T (.slice x n cap) (some (.int .i64 (lo : Int))) (some (.int .i64 (hi : Int))) (some (.int .i64 (mx : Int)))).run P W = .ok u W := by
  obtain ⟨i, hi1, hi2⟩ := Option.map_eq_some_iff.1 hs
  have ht' : P.underlying T = some (.slice (P.elem T)) := by simp [Program.elem, ht]
  have he : P.elem T = U := by simp [Program.elem, ht]
  have hsz : ∀ W, (sizeOf U).run P W = .ok size W := fun W => by simp [sizeOf, typeInfo, hi1, hi2]
  refine ⟨sliced x lo hi mx size, fun W => ?_⟩
  rw [run_slice_lhm W T _ _ _ ht' .i64 .i64 .i64 _ _ _ (by omega) (by omega) (by omega) (by omega), he, hsz]
  simp [Result.andThen]
theorem sliced_some (a : Addr) (lo hi cap size : Nat) : ∃ ad, sliced (some a) lo hi cap size = .slice (some ad) (hi - lo) (cap - lo) := by
  unfold sliced
  split
  · exact ⟨_, rfl⟩
  · exact ⟨_, rfl⟩
theorem sliced_at (g o lo hi cap size : Nat) (h : lo ≠ cap) : sliced (some ⟨g, o, none⟩) lo hi cap size = .slice (some ⟨g, o + lo * size, none⟩) (hi - lo) (cap - lo) := by
  unfold sliced
  rw [if_neg (by omega)]
  simp [add_lit]

theorem ownsRow_take {w : World} {base : Nat} {e : TypeId} {size : Nat} {x : Option Addr} {n cap j : Nat} {cs : List Value} (h : w.ownsRow base e size (.slice x n cap) n cs) (hj : j ≤ n) : w.ownsRow base e size (.slice x j cap) j (cs.take (j * size)) := by
  have hl := h.1
  have hle : j * size ≤ n * size := Nat.mul_le_mul_right _ hj
  refine ⟨by rw [List.length_take]; omega, ?_⟩
  rcases h.2 with ⟨hv, h0⟩ | ⟨g, cap', cur, hv, hb, hg, hc, hm, hs, ht⟩
  · cases hv
    exact .inl ⟨by rw [show j = 0 from by omega], by omega⟩
  · cases hv
    exact .inr ⟨g, cap, cur, rfl, hb, hg, by omega, hm, hs, by rw [← ht, List.take_take, Nat.min_eq_left hle]⟩
theorem ownsRow_slice {w : World} {base : Nat} {e : TypeId} {size : Nat} {v : Value} {n : Nat} {xs : List Value} (h : w.ownsRow base e size v n xs) : ∃ x c, v = .slice x n c ∧ n ≤ c ∧ c ≤ maxLen := by
  rcases h.2 with ⟨rfl, rfl⟩ | ⟨g, cap, cur, rfl, _, _, h1, h2, _⟩
  · exact ⟨_, _, rfl, Nat.le_refl _, Nat.zero_le _⟩
  · exact ⟨_, _, rfl, h1, h2⟩

/-- append of any slice of such elements to a row of the call's own. -/
theorem run_append_X {P : Program} (w : World) (base : Nat) (T U ty : TypeId) (i : TypeInfo) (z : Value) (size bytes : Nat) (ht : P.underlying T = some (.slice U)) (hi : P.info? U = some i) (hz : i.zero = some z) (hsize : i.size = size) (hby : i.bytes = bytes) (hzs : z.cells.size = size) (hsz : 0 < size)
    (v : Value) (xs : List Value) (n : Nat) (hown : w.ownsRow base U size v n xs) (sv : Value) (m : Nat) (ys : List Value) (hs : IsX w size sv m ys) (h1 : ∀ u ∈ ys, u.oneCell' = true) (h63 : n + m ≤ maxLen) (hbytes : (n + m) * bytes ≤ 140737488355328) (hbase : base ≤ w.heap.size) :
    ∃ v' w', (Builtin.append_ #[T, T] ty #[v, sv]).run P w = .ok v' w' ∧ w'.ownsRow base U size v' (n + m) (xs ++ ys) ∧ w.grownBy w' v.ownBlock ∧ (v'.ownBlock = v.ownBlock ∨ v'.ownBlock = some w.heap.size) := by
  obtain ⟨a, cap, rfl, hlc, hcm, hl, hnc, hcell⟩ := hs
  by_cases ha : a = none
  · subst ha
    obtain rfl := hnc rfl
    obtain rfl : m = 0 := by omega
    obtain rfl : ys = [] := List.eq_nil_of_length_eq_zero (by simpa using hl)
    exact ⟨v, w, run_append_owned_none (P := P) w base T ty U i size ht hi v _ _ hown, by simpa using hown, ⟨rfl, rfl, rfl, Nat.le_refl _, fun _ _ _ => rfl⟩, .inl rfl⟩
  · obtain ⟨ad, rfl⟩ := Option.ne_none_iff_exists'.1 ha
    obtain ⟨v', w', k1, k2, k3, _, k5⟩ := run_append_own_at (P := P) w base T ty U i z size bytes ht hi hz hsize hby hzs hsz v n xs hown ad m cap ys hl
      (fun j u hj => by
        have hjl : j < ys.length := (List.getElem?_eq_some_iff.1 hj).1
        rcases hcell with h0 | ⟨b, off, e, hc⟩
        · subst h0
          simp at hl
          subst hl
          simp at hjl
        · cases e
          rw [add_lit, hc j (by omega)]
          exact hj) h1 h63 hbytes hbase
    exact ⟨v', w', k1, k2, k3, k5⟩

theorem wpList_append_X {P : Program} {w : World} {ops : Array Oper} {rest : List Oper} {o : Oper} {a : Act} {Q : Exit → Act → World → Prop} (hw : Region.wanted o (yielded ops a.tmps) = true) (s x : Operand) (T T' : TypeId)
    (ho : o.op = .call { callee := .builtin .append, args := #[s, x], argTypes := #[T, T'] }) (hTT : ∀ ty v sv, (Builtin.append_ #[T, T'] ty #[v, sv]).run P w = (Builtin.append_ #[T, T] ty #[v, sv]).run P w)
    (base : Nat) (U : TypeId) (i : TypeInfo) (z : Value) (size bytes : Nat) (ht : P.underlying T = some (.slice U)) (hi : P.info? U = some i) (hz : i.zero = some z) (hsize : i.size = size) (hby : i.bytes = bytes) (hzs : z.cells.size = size) (hsz : 0 < size)
    (v : Value) (xs : List Value) (n : Nat) (hs : a.eval s = v) (hown : w.ownsRow base U size v n xs) (sv : Value) (m : Nat) (ys : List Value) (hx : a.eval x = sv) (hv : IsX w size sv m ys) (h1 : ∀ u ∈ ys, u.oneCell' = true) (h63 : n + m ≤ maxLen) (hbytes : (n + m) * bytes ≤ 140737488355328) (hbase : base ≤ w.heap.size)
    (h : ∀ v' w', w'.ownsRow base U size v' (n + m) (xs ++ ys) → w.grownBy w' v.ownBlock → (v'.ownBlock = v.ownBlock ∨ v'.ownBlock = some w.heap.size) → wpList P ops Q rest (a.put o.dst v') w') : wpList P ops Q (o :: rest) a w := by
  refine BigFrame.wpList_want hw fun K hK => ?_
  obtain ⟨v', w', hr, h2, h3, h4⟩ := run_append_X (P := P) w base T U o.type i z size bytes ht hi hz hsize hby hzs hsz v xs n hown sv m ys hv h1 h63 hbytes hbase
  rw [← hTT] at hr
  unfold Oper.wp execOp
  simp only [ho, resolve, invoke, builtin, Sem.run_bind, Sem.run_pure, Result.andThen_ok, List.map_toArray, List.map_cons, List.map_nil, hs, hx, hr]
  exact hK _ _ (h v' w' h2 h3 h4)
theorem step_append_X {P : Program} {ops : Array Oper} {o : Oper} {a : Act} {w : World} {K : Act → World → Prop} {Q : Exit → Act → World → Prop} {E : Prop}
    (hw : Region.wanted o (yielded ops a.tmps) = true) (s x : Operand) (T : TypeId)
    (ho : o.op = .call { callee := .builtin .append, args := #[s, x], argTypes := #[T, T] })
    (base : Nat) (U : TypeId) (i : TypeInfo) (z : Value) (size bytes : Nat) (ht : P.underlying T = some (.slice U)) (hi : P.info? U = some i) (hz : i.zero = some z) (hsize : i.size = size) (hby : i.bytes = bytes) (hzs : z.cells.size = size) (hsz : 0 < size)
    (v : Value) (xs : List Value) (n : Nat) (hs : a.eval s = v) (hown : w.ownsRow base U size v n xs) (sv : Value) (m : Nat) (ys : List Value) (hx : a.eval x = sv) (hv : IsX w size sv m ys) (h1 : ∀ u ∈ ys, u.oneCell' = true) (h63 : n + m ≤ maxLen) (hbytes : (n + m) * bytes ≤ 140737488355328) (hbase : base ≤ w.heap.size)
    (h : ∀ v' w', w'.ownsRow base U size v' (n + m) (xs ++ ys) → w.grownBy w' v.ownBlock → (v'.ownBlock = v.ownBlock ∨ v'.ownBlock = some w.heap.size) → K (a.put o.dst v') w') :
    if Region.wanted o (yielded ops a.tmps) = true then Oper.wp P o a w K Q else E := by
  rw [if_pos hw]
  obtain ⟨v', w', hr, h2, h3, h4⟩ := run_append_X (P := P) w base T U o.type i z size bytes ht hi hz hsize hby hzs hsz v xs n hown sv m ys hv h1 h63 hbytes hbase
  unfold Oper.wp execOp
  simp only [ho, resolve, invoke, builtin, Sem.run_bind, Sem.run_pure, Result.andThen_ok, List.map_toArray, List.map_cons, List.map_nil, hs, hx, hr]
  exact h v' w' h2 h3 h4

theorem Kept.setRow {S : Nat → Prop} {a w : World} (h : Kept S a w) {g : Nat} (hg : S g ∨ a.heap.size ≤ g) (cs : Array Value) : Kept S a (w.setRow g cs) :=
  h.trans (T := fun k => k = g) ⟨rfl, rfl, rfl, by simp [World.setRow], fun k _ hk => setRow_other w g k cs hk⟩ (fun j e hj => by
    subst e
    rcases hg with hg | hg
    · exact hg
    · omega)

/-- copy of elements of whatever size. -/
theorem run_copy_X {P : Program} (w : World) (dT sT ty U : TypeId) (size : Nat) (g o dLen dCap : Nat) (a : Addr) (sLen sCap m : Nat) (cur : Array Value) (t : TypeId) (cs : List Value)
    (hu : P.underlying dT = some (.slice U)) (hs : (P.info? U).map (·.size) = some size)
    (hg : w.heap[g]? = some (.cells cur t (0, 0))) (hm : Nat.min sLen dLen = m) (hn : cs.length = m * size)
    (hsrc : ∀ j v, cs[j]? = some v → w.cell? (a.add j) = some v) (hfit : o + cs.length ≤ cur.size) (h1 : ∀ v ∈ cs, v.oneCell' = true) :
    (Builtin.copy_ #[dT, sT] ty #[.slice (some ⟨g, o, none⟩) dLen dCap, .slice (some a) sLen sCap]).run P w =
      .ok (goInt m) (w.setRow g (cur.toList.take o ++ cs ++ cur.toList.drop (o + cs.length)).toArray) := by
  obtain ⟨i, hq, hi⟩ := Option.map_eq_some_iff.1 hs
  have hf := run_firstCells_some (P := P) w size m a sLen sCap cs hn hsrc
  have hst := run_storeCells_at P g o t cs 0 cur w hg (by simpa using hfit) h1
  simp only [Nat.add_zero] at hst
  simp [Builtin.copy_, run_underlying hu, Builtin.lenOf, sizeOf, typeInfo, hq, hi, hm, hf, hst]
theorem step_copy_run {P : Program} {ops : Array Oper} {o : Oper} {a : Act} {w : World} {K : Act → World → Prop} {Q : Exit → Act → World → Prop} {E : Prop}
    (hg : o.guard = none) (d x : Operand) (dT sT : TypeId) (hop : o.op = Op.call { callee := Callee.builtin Builtin.copy, args := #[d, x], argTypes := #[dT, sT] })
    (v u : Value) (hd : a.eval d = v) (hx : a.eval x = u) {v' : Value} {w' : World} (hr : (Builtin.copy_ #[dT, sT] o.type #[v, u]).run P w = .ok v' w') (hK : K (a.put o.dst v') w') :
    if Region.wanted o (yielded ops a.tmps) = true then Oper.wp P o a w K Q else E := by
  have hw : Region.wanted o (yielded ops a.tmps) = true := by simp [Region.wanted, hg]
  rw [if_pos hw]
  unfold Oper.wp
  simp [execOp, hop, resolve, invoke, builtin, hd, hx, hr, Result.andThen]
  exact hK
theorem wpList_copy_run {P : Program} {w : World} {ops : Array Oper} {rest : List Oper} {o : Oper} {a : Act} {Q : Exit → Act → World → Prop} (hgd : o.guard = none) (d s : Operand) (t t' : TypeId)
    (ho : o.op = .call { callee := .builtin .copy, args := #[d, s], argTypes := #[t, t'] }) (v u : Value) (hd : a.eval d = v) (hs : a.eval s = u) {v' : Value} {w' : World}
    (hr : (Builtin.copy_ #[t, t'] o.type #[v, u]).run P w = .ok v' w') (h : wpList P ops Q rest (a.put o.dst v') w') : wpList P ops Q (o :: rest) a w := by
  refine wpList_plain hgd fun K hK => ?_
  unfold Oper.wp
  simp [execOp, ho, resolve, invoke, builtin, hd, hs, hr, Result.andThen]
  exact hK _ _ h
theorem step_append_run {P : Program} {ops : Array Oper} {o : Oper} {a : Act} {w : World} {K : Act → World → Prop} {Q : Exit → Act → World → Prop} {E : Prop}
    (hg : o.guard = none) (d x : Operand) (dT sT : TypeId) (hop : o.op = Op.call { callee := Callee.builtin Builtin.append, args := #[d, x], argTypes := #[dT, sT] })
    (v u : Value) (hd : a.eval d = v) (hx : a.eval x = u) {v' : Value} {w' : World} (hr : (Builtin.append_ #[dT, sT] o.type #[v, u]).run P w = .ok v' w') (hK : K (a.put o.dst v') w') :
    if Region.wanted o (yielded ops a.tmps) = true then Oper.wp P o a w K Q else E := by
  have hw : Region.wanted o (yielded ops a.tmps) = true := by simp [Region.wanted, hg]
  rw [if_pos hw]
  unfold Oper.wp
  simp [execOp, hop, resolve, invoke, builtin, hd, hx, hr, Result.andThen]
  exact hK

/-- clear of elements of whatever size. -/
theorem run_clear_X {P : Program} (w : World) (T U ty : TypeId) (z : Value) (ht : P.underlying T = some (.slice U)) (hv : ∀ w, (zeroValue U).run P w = .ok z w) (g o n c : Nat) (hn : 0 < n) (cur : Array Value) (t : TypeId) (hg : w.heap[g]? = some (.cells cur t (0, 0)))
    (hfit : o + (Builtin.zeroCells z.cells n).toList.length ≤ cur.size) (h1 : ∀ v ∈ (Builtin.zeroCells z.cells n).toList, v.oneCell' = true) :
    (Builtin.clear_ #[T] ty #[.slice (some ⟨g, o, none⟩) n c]).run P w = .ok (.tuple #[]) (w.setRow g (cur.toList.take o ++ (Builtin.zeroCells z.cells n).toList ++ cur.toList.drop (o + (Builtin.zeroCells z.cells n).toList.length)).toArray) := by
  have hst := run_storeCells_at P g o t (Builtin.zeroCells z.cells n).toList 0 cur w hg (by simpa using hfit) h1
  simp only [Nat.add_zero] at hst
  obtain ⟨m, rfl⟩ : ∃ m, n = m + 1 := ⟨n - 1, by omega⟩
  simp [Builtin.clear_, run_underlying ht, hv] at hst ⊢
  rw [hst]
  simp

theorem ins_list {α : Type} (cur A E B : List α) (k m : Nat) (hA : cur.take k = A) (hm : E.length = m) (hk : k + m + B.length ≤ cur.length) :
    (((cur.take (k + m) ++ B ++ cur.drop (k + m + B.length)).take k ++ E ++ (cur.take (k + m) ++ B ++ cur.drop (k + m + B.length)).drop (k + m)).take (k + m + B.length)) = A ++ E ++ B ∧
    ((cur.take (k + m) ++ B ++ cur.drop (k + m + B.length)).take k ++ E ++ (cur.take (k + m) ++ B ++ cur.drop (k + m + B.length)).drop (k + m)).length = cur.length := by
  have hl : (cur.take (k + m)).length = k + m := by rw [List.length_take]; omega
  have e1 : (cur.take (k + m) ++ B ++ cur.drop (k + m + B.length)).take k = A := by
    rw [List.append_assoc, List.take_append_of_le_length (by omega), List.take_take, Nat.min_eq_left (by omega), hA]
  have e2 : (cur.take (k + m) ++ B ++ cur.drop (k + m + B.length)).drop (k + m) = B ++ cur.drop (k + m + B.length) := by
    rw [List.append_assoc]
    exact List.drop_left' hl
  have hAl : A.length = k := by rw [← hA, List.length_take]; omega
  rw [e1, e2]
  constructor
  · rw [← List.append_assoc, List.take_left' (by simp; omega)]
  · simp
    omega
theorem ins_list2 {α : Type} (cur A E B : List α) (k m : Nat) (hA : cur.take k = A) (hm : E.length = m) (hk : k + m + B.length ≤ cur.length) :
    (((cur.take k ++ E ++ cur.drop (k + m)).take (k + m) ++ B ++ (cur.take k ++ E ++ cur.drop (k + m)).drop (k + m + B.length)).take (k + m + B.length)) = A ++ E ++ B ∧
    ((cur.take k ++ E ++ cur.drop (k + m)).take (k + m) ++ B ++ (cur.take k ++ E ++ cur.drop (k + m)).drop (k + m + B.length)).length = cur.length := by
  have hAl : A.length = k := by rw [← hA, List.length_take]; omega
  rw [hA]
  have e1 : (A ++ E ++ cur.drop (k + m)).take (k + m) = A ++ E := List.take_left' (by simp; omega)
  rw [e1]
  constructor
  · rw [List.take_left' (by simp; omega)]
  · simp
    omega

end Go.Cor
end

section
namespace Go.Cor
open Go.RowKit

/-- Block g holds these cells. -/
def Blk (w : World) (g : Nat) (cs : Array Value) (T : TypeId) : Prop := w.heap[g]? = some (.cells cs T (0, 0))
theorem Blk.lt {w : World} {g : Nat} {cs : Array Value} {T : TypeId} (h : Blk w g cs T) : g < w.heap.size := (Array.getElem?_eq_some_iff.1 h).1
theorem Blk.cell {w : World} {g : Nat} {cs : Array Value} {T : TypeId} (h : Blk w g cs T) (j : Nat) {v : Value} (hj : cs[j]? = some v) : w.cell? ⟨g, j, none⟩ = some v := (cell_of_row w g j cs T (0, 0) h).trans hj
theorem Blk.free {w : World} {g : Nat} {cs : Array Value} {T : TypeId} (h : Blk w g cs T) (j : Nat) : w.frozen? ⟨g, j, none⟩ = false := frozen_of_row w g j cs T h
theorem Blk.new (w : World) (cs : Array Value) (T : TypeId) : Blk (w.alloc (.cells cs T)) w.heap.size cs T := heap_alloc_new w _
theorem Blk.kept {S : Nat → Prop} {w w' : World} {g : Nat} {cs : Array Value} {T : TypeId} (h : Blk w g cs T) (hk : Kept S w w') (hs : ¬ S g) : Blk w' g cs T := (hk.block g h.lt hs).trans h
theorem Blk.below {w w' : World} {g B : Nat} {cs : Array Value} {T : TypeId} (h : Blk w g cs T) (hb : Below B w w') (hg : g < B) : Blk w' g cs T := (hb.block g hg).trans h
theorem Blk.alloc {w : World} {g : Nat} {cs : Array Value} {T : TypeId} (h : Blk w g cs T) (o : Obj) : Blk (w.alloc o) g cs T := (heap_alloc_old w o h.lt).trans h
theorem Blk.drew {w : World} {g : Nat} {cs : Array Value} {T : TypeId} (h : Blk w g cs T) : Blk w.drew g cs T := h
theorem Blk.grown {w w' : World} {g : Nat} {cs : Array Value} {T : TypeId} {row : Option Nat} (h : Blk w g cs T) (hg : w.grownBy w' row) (hr : row ≠ some g) : Blk w' g cs T := (hg.block g h.lt (fun e => hr e.symm)).trans h
theorem Blk.set {w : World} {g : Nat} {cs : Array Value} {T : TypeId} (h : Blk w g cs T) (j : Nat) (u : Value) : Blk (w.setCell ⟨g, j, none⟩ u) g (cs.setIfInBounds j u) T := by
  unfold Blk at *
  rw [heap_setCell_same w g j cs T u h]
theorem Blk.other {w : World} {g : Nat} {cs : Array Value} {T : TypeId} (h : Blk w g cs T) {a : Addr} (ha : a.block ≠ g) (u : Value) : Blk (w.setCell a u) g cs T := (heap_setCell_other w a g u (fun e => ha e.symm)).trans h

theorem row_set {α : Type} {enc : α → List Value} {size : Nat} (h : ∀ x, (enc x).length = size) {l : List α} {i : Nat} {x y : α} (hx : l[i]? = some x) (j : Nat) (hj : j < size) (u : Value) (he : (enc x).set j u = enc y) :
    (row enc l).set (i * size + j) u = row enc (l.set i y) := by
  induction l generalizing i with
  | nil => simp at hx
  | cons z r ih =>
    cases i with
    | zero =>
      simp only [List.getElem?_cons_zero, Option.some.injEq] at hx
      subst hx
      rw [Nat.zero_mul, Nat.zero_add, row_cons, List.set_append_left _ _ (by rw [h]; exact hj), he, List.set_cons_zero, row_cons]
    | succ i =>
      rw [List.getElem?_cons_succ] at hx
      have e : (i + 1) * size + j = size + (i * size + j) := by rw [Nat.add_mul, Nat.one_mul]; omega
      rw [row_cons, List.set_append_right _ _ (by rw [h, e]; exact Nat.le_add_right _ _), h, e, Nat.add_sub_cancel_left, ih hx, List.set_cons_succ, row_cons]
theorem indexAt_own {P : Program} {w : World} {base size : Nat} {e : TypeId} {v : Value} {n : Nat} {cs : List Value} (hv : w.ownsRow base e size v n cs) (T U : TypeId) (ht : P.underlying T = some (.slice U)) (hs : (P.info? U).map (·.size) = some size) (i : Nat) (hi : i < n) :
    ∃ g, v.ownBlock = some g ∧ (∀ W, (Instr.indexAt T v (.int .i64 (i : Int))).run P W = .ok (.pointer (some ⟨g, i * size, none⟩)) W) ∧ (∀ j, j < size → w.cell? ⟨g, i * size + j, none⟩ = cs[i * size + j]?) ∧ (∀ j, w.frozen? ⟨g, j, none⟩ = false) ∧
      (∀ j u, (w.setCell ⟨g, j, none⟩ u).ownsRow base e size v n (cs.set j u)) := by
  obtain ⟨j, hj1, hj2⟩ := Option.map_eq_some_iff.1 hs
  rcases hv.2 with ⟨rfl, h0⟩ | ⟨g, cap, cur, rfl, _⟩
  · omega
  · refine ⟨g, rfl, fun W => ?_, fun j hj => ?_, fun j => hv.frozenAt j, fun j u => (hv.stored j u).1⟩
    · have ht' : P.underlying T = some (.slice (P.elem T)) := by simp [Program.elem, ht]
      have he : P.elem T = U := by simp [Program.elem, ht]
      have hsz : ∀ W, (sizeOf U).run P W = .ok size W := fun W => by simp [sizeOf, typeInfo, hj1, hj2]
      have h0 : (0 : Int) ≤ (i : Int) := by omega
      have h1 : (i : Int) < (n : Int) := by omega
      go_simp
    · have hle : (i + 1) * size ≤ n * size := Nat.mul_le_mul_right _ (by omega)
      rw [Nat.add_mul, Nat.one_mul] at hle
      exact hv.cellAt _ (by omega)
theorem Kept.undrew {S : Nat → Prop} {w w' : World} (h : Kept S w.drew w') : Kept S w w' := ⟨h.os, h.tape, h.output, h.size, h.block⟩
theorem IsX.lit (w : World) (cs : Array Value) (T : TypeId) (size n : Nat) (hs : cs.size = n * size) (hm : n ≤ maxLen) : IsX (w.alloc (.cells cs T)) size (.slice (some ⟨w.heap.size, 0, none⟩) n n) n cs.toList :=
  IsX.own (World.ownsRow_lit (base := 0) (e := T) (size := size) w cs n (Nat.zero_le _) hm hs)
end Go.Cor
end

section
namespace Go.Proofs.YtllbngopfganjaaGreatDoor.Nd
open Go.RowKit Go.Cor

theorem Tryz.laidOut15 : laidOutB Tryz.prog = true := by kernel_rfl
theorem law_struct {P : Program} {k : TypeId} {fs : Array Field} (hl : laidOutB P = true) (hr : k < P.types.size) (hk : P.keyTypeAt 2 k = true) (h : P.underlying k = some (.struct fs)) : Go.Maps.Keyed P k :=
  Go.Maps.Keyed.of_law (deep_law_laid hl (m := 2) (by omega) hr hk (by rw [h]))
/-- A number that a place's slot can hold. -/
def wfI (a : Int) : Prop := (Lit.int .i64 a).wf = true
theorem wfI_of {a : Int} (h1 : -9223372036854775808 ≤ a) (h2 : a ≤ 9223372036854775807) : wfI a := WalkArith.wf_i64 ⟨h1, h2⟩
/-- What a key reads as. -/
def klit (a b : Int) : Lit := .string (keyBytes [.int .i64 a, .int .i64 b])
/-- Two places, the lesser one first. -/
def lo2 (a b : Int) : Int := if a ≤ b then a else b
def hi2 (a b : Int) : Int := if a ≤ b then b else a
def kl2 (a b : Int) : Lit := klit (lo2 a b) (hi2 a b)
/-- The map's keys are the pairs that are cut. -/
def CutsD (D : DataW Unit) (c : List (Int × Int)) : Prop := Go.Maps.IsMap D ∧ ∀ a b, wfI a → wfI b → Go.Maps.has D (kl2 a b) = apartP c a b
theorem CutsD.empty {c : List (Int × Int)} (h : ∀ a b, wfI a → wfI b → apartP c a b = false) : CutsD (.map []) c := ⟨Go.Maps.isMap_empty, fun a b ha hb => by rw [h a b ha hb]; rfl⟩
end Go.Proofs.YtllbngopfganjaaGreatDoor.Nd
end

section
namespace Go.Proofs.YtllbngopfganjaaGreatDoor.Nd
open Go.RowKit Go.Cor

def mcl (x : Msg × Value) : List Value := [.int .i64 x.1.fr, .int .i64 x.1.to, .int .i64 x.1.kd, .int .i64 x.1.vo, .int .i64 x.1.li, .int .u64 (x.1.id : Int), .int .i64 x.1.co, .bool x.1.has, .int .u64 (x.1.n.key : Int), .int .u32 (x.1.n.cookie : Int), .bool x.1.n.gone, x.2]
/-- A slice of messages, a slice of pairs. -/
def IsM (w : World) (v : Value) (l : List (Msg × Value)) : Prop := IsX w 12 v l.length (row mcl l) ∧ ∀ x ∈ l, IsB w x.2 x.1.n.data ∧ x.2.oneCell' = true
theorem IsM.one {w : World} {v : Value} {l : List (Msg × Value)} (h : IsM w v l) : ∀ u ∈ row mcl l, u.oneCell' = true := row_mem fun x hx u hu => by
  simp only [mcl, List.mem_cons, List.not_mem_nil, or_false] at hu
  rcases hu with rfl | rfl | rfl | rfl | rfl | rfl | rfl | rfl | rfl | rfl | rfl | rfl
  all_goals first | rfl | exact (h.2 x hx).2
theorem IsM.mono {w w' : World} {v : Value} {l : List (Msg × Value)} {B : Nat} (h : IsM w v l) (hb : Below B w w') (hB : w.heap.size ≤ B) : IsM w' v l := ⟨h.1.mono hb hB, fun x hx => ⟨(h.2 x hx).1.mono hb hB, (h.2 x hx).2⟩⟩
end Go.Proofs.YtllbngopfganjaaGreatDoor.Nd
end

section
namespace Go.Proofs.YtllbngopfganjaaGreatDoor.Nd
open Go.RowKit Go.Cor

/-- The first answer for a place and a number; -1 if there is none. -/
def hasP (p : Int) (q : Nat) (m : Msg) : Bool := m.to == p && m.id == q
def findP (p : Int) (q : Nat) : List Msg → Int
  | [] => -1
  | m :: l => if hasP p q m then 0 else if findP p q l < 0 then -1 else findP p q l + 1
theorem findP_at {p : Int} {q : Nat} : ∀ {l : List Msg} {i : Nat} {m : Msg}, l[i]? = some m → (∀ x ∈ l.take i, hasP p q x = false) → hasP p q m = true → findP p q l = (i : Int)
  | [], i, m, hi, _, _ => by simp at hi
  | x :: l, 0, m, hi, _, hm => by
    simp at hi
    subst hi
    unfold findP
    rw [if_pos hm]
    rfl
  | x :: l, i + 1, m, hi, h, hm => by
    have hx := h x (by simp)
    have h1 := findP_at (p := p) (q := q) (l := l) (i := i) (m := m) (by simpa using hi) (fun y hy => h y (by rw [List.take_succ_cons]; exact List.mem_cons_of_mem _ hy)) hm
    unfold findP
    rw [if_neg (by rw [hx]; decide), h1, if_neg (by omega)]
    omega
end Go.Proofs.YtllbngopfganjaaGreatDoor.Nd
end

section
namespace Go.Proofs.YtllbngopfganjaaGreatDoor
open Go.RowKit Go.Cor

theorem Tryz.infoU8 : (Tryz.prog.info? 5).map (fun i => (i.zero, i.size, i.bytes)) = some (some (.int .u8 0), 1, 1) := by kernel_rfl
theorem Tryz.sizeU8 : (Tryz.prog.info? 5).map (·.size) = some 1 := by kernel_rfl

/-- A code as an error. -/
abbrev err (k : Int) : Value := .iface 59 (.int .i64 k)

theorem greatest_1 (w : World) : Calls Tryz.prog 104 #[.int .i64 1] w fun e w' => e = .returned (.int .u64 255) ∧ w = w' := by
  go_enter Tryz.func104, Tryz.ntmps104
  go_wp2
  go_ret
  exact ⟨rfl, rfl⟩
theorem greatest_2 (w : World) : Calls Tryz.prog 104 #[.int .i64 2] w fun e w' => e = .returned (.int .u64 65535) ∧ w = w' := by
  go_enter Tryz.func104, Tryz.ntmps104
  go_wp2
  go_ret
  exact ⟨rfl, rfl⟩
theorem greatest_4 (w : World) : Calls Tryz.prog 104 #[.int .i64 4] w fun e w' => e = .returned (.int .u64 4294967295) ∧ w = w' := by
  go_enter Tryz.func104, Tryz.ntmps104
  go_wp2
  go_ret
  exact ⟨rfl, rfl⟩
theorem greatest_8 (w : World) : Calls Tryz.prog 104 #[.int .i64 8] w fun e w' => e = .returned (.int .u64 18446744073709551615) ∧ w = w' := by
  go_enter Tryz.func104, Tryz.ntmps104
  go_wp2
  go_ret
  exact ⟨rfl, rfl⟩
theorem greatest_no (s : Int) (w : World) (h1 : s ≠ 1) (h2 : s ≠ 2) (h4 : s ≠ 4) (h8 : s ≠ 8) : Calls Tryz.prog 104 #[.int .i64 s] w fun e w' => e = .returned (.int .u64 0) ∧ w = w' := by
  go_enter Tryz.func104, Tryz.ntmps104
  go_wp2
  go_ret
  exact ⟨rfl, rfl⟩

/-- The greatest number of a size. -/
def great (s : Int) : Nat := if s = 1 then 255 else if s = 2 then 65535 else if s = 4 then 4294967295 else if s = 8 then 18446744073709551615 else 0
/-- Is it a size? -/
def Sized (s : Int) : Prop := s = 1 ∨ s = 2 ∨ s = 4 ∨ s = 8

theorem great_no {s : Int} (h : ¬ Sized s) : great s = 0 := by
  simp only [Sized, not_or] at h
  simp [great, h.1, h.2.1, h.2.2.1, h.2.2.2]
theorem great_pos {s : Int} (h : Sized s) : 0 < great s := by
  rcases h with rfl | rfl | rfl | rfl <;> decide

theorem greatest_any (s : Int) (w : World) : Calls Tryz.prog 104 #[.int .i64 s] w fun e w' => e = .returned (.int .u64 (great s : Nat)) ∧ w = w' := by
  by_cases h : Sized s
  · rcases h with rfl | rfl | rfl | rfl
    · exact greatest_1 w
    · exact greatest_2 w
    · exact greatest_4 w
    · exact greatest_8 w
  · rw [great_no h]
    simp only [Sized, not_or] at h
    exact greatest_no s w h.1 h.2.1 h.2.2.1 h.2.2.2

theorem put_step {n k m len : Nat} {l : List UInt8} {w wr w1 : World} {v v' : Value} {o : Obj} (hm : Hid (m = n / 256 ^ k))
    (hown' : w1.ownsRow w.heap.size 5 1 v' (len + k + 1) (bvs (l ++ le n k) ++ [.int .u8 ((m : Int) % 256)])) (hg : (wr.alloc o).grownBy w1 v.ownBlock) (hb : Below w.heap.size w wr)
    (hown : wr.ownsRow w.heap.size 5 1 v (len + k) (bvs (l ++ le n k))) :
    Hid (m / 256 = n / 256 ^ (k + 1)) ∧ w1.ownsRow w.heap.size 5 1 v' (len + (k + 1)) (bvs (l ++ le n (k + 1))) ∧ Below w.heap.size w w1 := by
  have hm := hm.out
  refine ⟨?_, ?_, (hb.alloc hb.size o).grown hg (by have := hb.size; simp; omega) (fun j hj => (hown.lt j hj).1)⟩
  · show _ = _
    rw [hm, Nat.div_div_eq_div_mul, Nat.pow_succ]
  · rw [le_snoc, ← List.append_assoc, bvs_append, bvs_cons, bvs_nil]
    have e : bv (UInt8.ofNat (n / 256 ^ k)) = .int .u8 ((m : Int) % 256) := by
      rw [← hm]
      show Value.int .u8 (((UInt8.ofNat m).toNat : Nat) : Int) = _
      rw [UInt8.toNat_ofNat']
      simp
    rw [e]
    exact hown'

set_option maxHeartbeats 400000 in
theorem put_ok (v : Value) (l : List UInt8) (n : Nat) (s : Nat) (w : World) (h : Sized (s : Int)) (hn : n ≤ great (s : Int)) (hv : IsB w v l) (hl : l.length ≤ 1099511627776) :
    Calls Tryz.prog 76 #[v, .int .u64 n, .int .i64 (s : Int)] w fun e w' =>
      ∃ v', e = .returned (.tuple #[v', .nilIface]) ∧ w'.ownsRow w.heap.size 5 1 v' (l ++ le n s).length (bvs (l ++ le n s)) ∧ Below w.heap.size w w' := by
  have h0 := great_pos h
  have hq1 : (((great (s : Int) : Nat) : Int) == 0) = false := by simp; omega
  have hq2 : decide (great (s : Int) < n) = false := by simp; omega
  have hs8 : s ≤ 8 := by unfold Sized at h; omega
  have hn64 : n < 18446744073709551616 := by
    have : great (s : Int) ≤ 18446744073709551615 := by rcases h with h | h | h | h <;> rw [h] <;> decide
    omega
  obtain ⟨i0, hi, hz0, hz1, hz2⟩ := info_parts Tryz.infoU8
  have hmk : ∀ wx : World, (Instr.makeSlice 33 (.int .i64 (l.length : Int)) (.int .i64 ((l.length : Int) + (s : Int)))).run Tryz.prog wx = .ok (.slice (some ⟨wx.heap.size, 0, none⟩) l.length (l.length + s)) (wx.alloc (.cells (madeCells #[.int .u8 0] (l.length + s)) 5)) := fun wx => by
    have := run_make (P := Tryz.prog) wx 33 5 i0 (.int .u8 0) Tryz.underlying33 hi hz0 .i64 .i64 l.length ((l.length : Int) + (s : Int)) (by omega) (by omega) (by rw [hz2]; omega) (by omega)
    rw [this, hz1]
    simp [show ((l.length : Int) + (s : Int)).toNat = l.length + s from by omega, Value.cells]
  obtain ⟨w2, hcp, hown2, hbel2⟩ := copy_made (P := Tryz.prog) w 33 5 3 Tryz.underlying33 Tryz.sizeU8 v l hv s (by unfold maxLen; omega)
  obtain ⟨a, cap, rfl, hlc, hcm, hnc, hcell⟩ := hv
  clear hcell hnc
  go_enter Tryz.func76, Tryz.ntmps76
  go_wp2_with (go_at_call 104; refine (greatest_any s _).mono ?_; rintro e w' ⟨rfl, rfl⟩)
  go_loopw [1, 9, 30] (fun n' o c wr => ∃ k m : Nat, k ≤ s ∧ m < 18446744073709551616 ∧ Hid (m = n / 256 ^ k) ∧ n' = .int .u64 (m : Int) ∧ c = .int .i64 k ∧ wr.ownsRow w.heap.size 5 1 o (l.length + k) (bvs (l ++ le n k)) ∧ Below w.heap.size w wr) (fun _ _ c _ => s - (intOf c).toNat)
  case atStart => exact ⟨0, n, by omega, hn64, by show n = _; simp, rfl, rfl, by simpa [le] using hown2, hbel2⟩
  case round =>
    obtain ⟨k, m, hk, hm64, hmk, rfl, rfl, hown, hbel⟩ := hrel
    have hsz : w.heap.size ≤ wr.heap.size := hbel.size
    by_cases hlt : k < s
    · go_wp2_with (at_builtin; refine wpList_append_own _ rfl _ _ 33 rfl w.heap.size 5 i0 (.int .u8 0) 1 1 Tryz.underlying33 hi hz0 hz1 hz2 rfl (by decide) _ _ _ rfl (hown.alloc _) ⟨wr.heap.size, 0, none⟩ 1 1 [.int .u8 ((m : Int) % 256)] rfl rfl ?c1 ?c2 ?c3 ?c4 ?c5 ?_)
      case c1 => exact cell_one_new _ _ _
      case c2 => intro u hu; simp at hu; subst hu; rfl
      case c3 => unfold maxLen; omega
      case c4 => omega
      case c5 => simp; omega
      intro v' w1 hown' hgrow _
      have hnext := put_step hmk hown' hgrow hbel hown
      clear hown' hgrow
      go_wp2
      go_roundw
      case rel => exact ⟨k + 1, m / 256, by omega, by omega, hnext.1, by go_num, by go_num, hnext.2.1, hnext.2.2⟩
      case measure => simp [intOf]; omega
    · obtain rfl : k = s := by omega
      go_wp2
      go_ret2
      exact ⟨_, rfl, by simpa [length_le] using hown, hbel⟩

theorem get_step {l : List UInt8} {a s j m : Nat} (hm : Hid (m = num ((l.drop (a + (j + 1))).take (s - (j + 1))))) (hj : j + 1 ≤ s) (hs : s ≤ 8) (hl : a + s ≤ l.length) :
    (l[a + j]?.getD 0).toNat + 256 * m < 18446744073709551616 ∧ Hid ((l[a + j]?.getD 0).toNat + 256 * m = num ((l.drop (a + j)).take (s - j))) ∧
    Hid (bits .or .u64 ((m : Int) * 256) ((l[a + j]?.getD 0).toNat : Int) = (((l[a + j]?.getD 0).toNat + 256 * m : Nat) : Int)) := by
  have hm := hm.out
  have h1 := num_take_lt (l.drop (a + (j + 1))) (s - (j + 1)) (by omega)
  rw [← hm] at h1
  have h2 := (l[a + j]?.getD 0).toNat_lt
  refine ⟨by omega, ?_, shl8_or _ _ h1 h2⟩
  show _ = _
  rw [show s - j = (s - (j + 1)) + 1 from by omega, num_take_step l (a + j) _ (by omega), hm]
  rfl

set_option maxHeartbeats 400000 in
theorem get_ok (v : Value) (l : List UInt8) (a s : Nat) (w : World) (hs : Sized (s : Int)) (hv : IsB w v l) (hl : l.length ≤ 1099511627776) (h : a + s ≤ l.length) :
    Calls Tryz.prog 142 #[v, .int .i64 a, .int .i64 s] w fun e w' => e = .returned (.tuple #[.int .u64 (num ((l.drop a).take s) : Nat), .nilIface]) ∧ w = w' := by
  have h0 := great_pos hs
  have hs8 : s ≤ 8 := by unfold Sized at hs; omega
  have hs1 : 1 ≤ s := by unfold Sized at hs; omega
  have hq1 : (((great (s : Int) : Nat) : Int) == 0) = false := by simp; omega
  have hq2 : decide ((l.length : Int) - (s : Int) < (a : Int)) = false := by simp; omega
  obtain ⟨x, cap, rfl, hlc, hcm, hnc, hcell⟩ := hv
  rcases hcell with hE | ⟨b, off, rfl, hc⟩
  · omega
  have HC := Lib.hid hc
  clear hc hnc
  go_enter Tryz.func142, Tryz.ntmps142
  go_wp2_with (go_at_call 104; refine (greatest_any s _).mono ?_; rintro e w' ⟨rfl, rfl⟩)
  go_loop [8, 9] (fun n' c => ∃ k m : Nat, k ≤ s ∧ m < 18446744073709551616 ∧ Hid (m = num ((l.drop (a + k)).take (s - k))) ∧ n' = .int .u64 (m : Int) ∧ c = .int .i64 ((k : Int) - 1)) (fun _ c => (intOf c + 1).toNat)
  case atStart => exact ⟨s, 0, by omega, by omega, by show 0 = _; simp [num], rfl, rfl⟩
  case round =>
    obtain ⟨k, m, hk, hm64, hmk, rfl, rfl⟩ := hrel
    by_cases hlt : 0 < k
    · obtain ⟨j, rfl⟩ : ∃ j, k = j + 1 := ⟨k - 1, by omega⟩
      have hcell := HC.out (a + j) (by omega)
      have hst := get_step (l := l) (a := a) (s := s) (j := j) (m := m) hmk (by omega) (by omega) (by omega)
      have hmk := 0
      go_wp2
      go_round
      case rel => exact ⟨j, _, by omega, hst.1, hst.2.1, by rw [hst.2.2.out], by go_num⟩
      case measure => simp [intOf]
    · obtain rfl : k = 0 := by omega
      have hmk := hmk.out
      subst hmk
      go_wp2
      go_ret2
      exact ⟨by simp, rfl⟩

/-- What lacks up to a multiple of 8. -/
def pad (n : Int) : Int := if n < 0 then 0 else (8 - n % 8) % 8
theorem pad_neg {n : Int} (h : n < 0) : pad n = 0 := by simp [pad, h]
theorem pad_pos {n : Int} (h : 0 ≤ n) : pad n = (8 - n % 8) % 8 := by simp [pad, Int.not_lt.2 h]
theorem pad_range (n : Int) : 0 ≤ pad n ∧ pad n < 8 := by
  unfold pad
  split <;> omega

theorem pad_any (n : Int) (w : World) (h1 : -9223372036854775808 ≤ n) (h2 : n ≤ 9223372036854775807) :
    Calls Tryz.prog 141 #[.int .i64 n] w fun e w' => e = .returned (.int .i64 (pad n)) ∧ w = w' := by
  by_cases h : n < 0
  · rw [pad_neg h]
    go_enter Tryz.func141, Tryz.ntmps141
    go_wp2
    go_ret
    exact ⟨rfl, rfl⟩
  · have h' : 0 ≤ n := by omega
    rw [pad_pos h']
    go_enter Tryz.func141, Tryz.ntmps141
    go_wp2
    go_ret
    exact ⟨rfl, rfl⟩

theorem zero_yes (v : Value) (l : List UInt8) (w : World) (hv : IsB w v l) (hl : l.length ≤ 1099511627776) (h : ∀ i, i < l.length → l.getD i 0 = 0) :
    Calls Tryz.prog 124 #[v] w fun e w' => e = .returned (.bool true) ∧ w = w' := by
  obtain ⟨x, cap, rfl, hlc, hcm, hnc, hcell⟩ := hv
  have HC : Hid (∀ i, i < l.length → ∃ b off, x = some ⟨b, off, none⟩ ∧ w.cell? ⟨b, off + i, none⟩ = some (.int .u8 0)) := by
    intro i hi
    rcases hcell with hE | ⟨b, off, rfl, hc⟩
    · omega
    · have := hc i hi
      rw [h i hi] at this
      exact ⟨b, off, rfl, this⟩
  clear hcell hnc h
  go_enter Tryz.func124, Tryz.ntmps124
  go_wp2
  go_loop [7] (fun c => ∃ k : Nat, k ≤ l.length ∧ c = .int .i64 k) (fun c => l.length - (intOf c).toNat)
  case atStart => exact ⟨0, by omega, rfl⟩
  case round =>
    obtain ⟨k, hk, rfl⟩ := hrel
    by_cases hlt : k < l.length
    · obtain ⟨b, off, rfl, hc⟩ := HC.out k hlt
      go_wp2
      go_round
      case rel => exact ⟨k + 1, by omega, by go_num⟩
      case measure => simp [intOf]; omega
    · go_wp2
      go_ret
      exact ⟨rfl, rfl⟩

theorem zero_no (v : Value) (l : List UInt8) (p : Nat) (w : World) (hv : IsB w v l) (hl : l.length ≤ 1099511627776) (hp : p < l.length) (hn : l.getD p 0 ≠ 0) (h : ∀ i, i < p → l.getD i 0 = 0) :
    Calls Tryz.prog 124 #[v] w fun e w' => e = .returned (.bool false) ∧ w = w' := by
  obtain ⟨x, cap, rfl, hlc, hcm, hnc, hcell⟩ := hv
  rcases hcell with hE | ⟨b, off, rfl, hc⟩
  · omega
  have HC : Hid (∀ i, i < p → w.cell? ⟨b, off + i, none⟩ = some (.int .u8 0)) := by
    intro i hi
    have := hc i (by omega)
    rw [h i hi] at this
    exact this
  have hcp := hc p hp
  have hx : (((l.getD p 0).toNat : Int) == 0) = false := by
    simp only [beq_eq_false_iff_ne]
    intro h0
    exact hn (UInt8.toNat_inj.1 (by simp at h0 ⊢; omega))
  generalize (l.getD p 0) = y at hcp hx
  clear hc hnc h hn
  go_enter Tryz.func124, Tryz.ntmps124
  go_wp2
  go_loop [7] (fun c => ∃ k : Nat, k ≤ p ∧ c = .int .i64 k) (fun c => l.length - (intOf c).toNat)
  case atStart => exact ⟨0, by omega, rfl⟩
  case round =>
    obtain ⟨k, hk, rfl⟩ := hrel
    by_cases hlt : k < p
    · have hc := HC.out k hlt
      have hkl : k < l.length := by omega
      go_wp2
      go_round
      case rel => exact ⟨k + 1, by omega, by go_num⟩
      case measure => simp [intOf]; omega
    · obtain rfl : k = p := by omega
      go_wp2
      go_ret
      exact ⟨rfl, rfl⟩

end Go.Proofs.YtllbngopfganjaaGreatDoor
end

section
namespace Go.Proofs.YtllbngopfganjaaGreatDoor
open Go.RowKit Go.Cor

/-- Are two lists the same? -/
def sameB (l m : List UInt8) : Bool := decide (l = m)
theorem ret_bool {a b : Bool} (h : a = b) : Ending.returned (.bool a) = .returned (.bool b) := by rw [h]
end Go.Proofs.YtllbngopfganjaaGreatDoor
end
