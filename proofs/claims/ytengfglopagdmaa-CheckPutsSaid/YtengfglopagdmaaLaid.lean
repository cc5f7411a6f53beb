/- Package check by contracts: a position's bytes; an append that leaves a box beside the row as it is. -/
import Derived.Test.YtengfglopagdmaaRight
import Derived.Maps.AppendAt
namespace Go.Proofs.Ytengfglopagdmaa
open Go.RowKit Go.Cor

/-- Bytes behind a row of the call's own: no block but the row's is written. -/
theorem run_append_B2 {P : Program} (w : World) (base : Nat) (T U ty : TypeId) (i : TypeInfo) (ht : P.underlying T = some (.slice U)) (hi : P.info? U = some i) (hz : i.zero = some (.int .u8 0)) (hsize : i.size = 1) (hby : i.bytes = 1)
    (v : Value) (xs : List UInt8) (n : Nat) (hn : n = xs.length) (hown : w.ownsRow base U 1 v n (bvs xs)) (sv : Value) (ys : List UInt8) (hs : IsB w sv ys) (hlen : xs.length + ys.length ≤ 1099511627776) (hbase : base ≤ w.heap.size) :
    ∃ v' w', (Builtin.append_ #[T, T] ty #[v, sv]).run P w = .ok v' w' ∧ w'.ownsRow base U 1 v' (xs ++ ys).length (bvs (xs ++ ys)) ∧ w.grownBy w' v.ownBlock ∧ (v'.ownBlock = v.ownBlock ∨ v'.ownBlock = some w.heap.size) := by
  subst hn
  obtain ⟨a, cap, rfl, hlc, hcm, hnc, hcell⟩ := hs
  by_cases ha : a = none
  · subst ha
    obtain rfl := hnc rfl
    obtain rfl : ys = [] := List.eq_nil_of_length_eq_zero (by omega)
    exact ⟨v, w, run_append_owned_none (P := P) w base T ty U i 1 ht hi v _ _ hown, by simpa using hown, ⟨rfl, rfl, rfl, Nat.le_refl _, fun _ _ _ => rfl⟩, .inl rfl⟩
  · obtain ⟨ad, rfl⟩ := Option.ne_none_iff_exists'.1 ha
    obtain ⟨v', w', h1, h2, h3, _, h4⟩ := run_append_own_at (P := P) w base T ty U i (.int .u8 0) 1 1 ht hi hz hsize hby rfl (by decide) v xs.length (bvs xs) hown ad ys.length cap (bvs ys) (by simp)
      (fun j u hj => by
        have hjl : j < ys.length := by
          have := (List.getElem?_eq_some_iff.1 hj).1
          simpa using this
        rcases hcell with h0 | ⟨b, off, e, hc⟩
        · omega
        cases e
        rw [bvs_get hjl] at hj
        cases hj
        rw [add_lit]
        exact hc j hjl) (bvs_one ys) (by unfold maxLen; omega) (by omega) hbase
    exact ⟨v', w', h1, by rw [bvs_append, List.length_append]; exact h2, h3, h4⟩

theorem wpList_append_B2 {P : Program} {w : World} {ops : Array Oper} {rest : List Oper} {o : Oper} {a : Act} {Q : Exit → Act → World → Prop} (hw : Region.wanted o (yielded ops a.tmps) = true) (s x : Operand) (T : TypeId)
    (ho : o.op = .call { callee := .builtin .append, args := #[s, x], argTypes := #[T, T] })
    (base : Nat) (U : TypeId) (i : TypeInfo) (ht : P.underlying T = some (.slice U)) (hi : P.info? U = some i) (hz : i.zero = some (.int .u8 0)) (hsize : i.size = 1) (hby : i.bytes = 1)
    (v : Value) (xs : List UInt8) (n : Nat) (hs : a.eval s = v) (hown : w.ownsRow base U 1 v n (bvs xs)) (hn : n = xs.length) (sv : Value) (ys : List UInt8) (hx : a.eval x = sv) (hv : IsB w sv ys) (hlen : xs.length + ys.length ≤ 1099511627776) (hbase : base ≤ w.heap.size)
    (h : ∀ v' w', w'.ownsRow base U 1 v' (xs ++ ys).length (bvs (xs ++ ys)) → Below base w w' → w.grownBy w' v.ownBlock → (v'.ownBlock = v.ownBlock ∨ v'.ownBlock = some w.heap.size) → wpList P ops Q rest (a.put o.dst v') w') : wpList P ops Q (o :: rest) a w := by
  refine BigFrame.wpList_want hw fun K hK => ?_
  obtain ⟨v', w', hr, h2, h3, h4⟩ := run_append_B2 (P := P) w base T U o.type i ht hi hz hsize hby v xs n hn hown sv ys hv hlen hbase
  unfold Oper.wp execOp
  simp only [ho, resolve, invoke, builtin, Sem.run_bind, Sem.run_pure, Result.andThen_ok, List.map_toArray, List.map_cons, List.map_nil, hs, hx, hr]
  exact hK _ _ (h v' w' h2 ((Below.refl _ _).grown h3 hbase fun j hj => (hown.lt j hj).1) h3 h4)

/-- A position in a box of its own. -/
def PBox (w : World) (g : Nat) (p : Pos) : Prop :=
  w.cell? ⟨g, 0, none⟩ = some (.int .u64 (p.key : Int)) ∧ w.cell? ⟨g, 1, none⟩ = some (.int .i64 p.off) ∧ w.cell? ⟨g, 2, none⟩ = some (.int .i64 p.len) ∧ w.cell? ⟨g, 3, none⟩ = some (.int .u32 (p.cookie : Int)) ∧ w.cell? ⟨g, 4, none⟩ = some (.bool p.gone)
theorem PBox.mono {w w' : World} {g B : Nat} {p : Pos} (h : PBox w g p) (hb : Below B w w') (hg : g < B) : PBox w' g p := by
  obtain ⟨h0, h1, h2, h3, h4⟩ := h
  exact ⟨(hb.cell (by exact hg)).trans h0, (hb.cell (by exact hg)).trans h1, (hb.cell (by exact hg)).trans h2, (hb.cell (by exact hg)).trans h3, (hb.cell (by exact hg)).trans h4⟩
theorem PBox.grown {w w' : World} {g : Nat} {row : Option Nat} {p : Pos} (h : PBox w g p) (hb : w.grownBy w' row) (hg : row ≠ some g) : PBox w' g p := by
  obtain ⟨h0, h1, h2, h3, h4⟩ := h
  have hne : some g ≠ row := fun e => hg e.symm
  exact ⟨hb.cell h0 hne, hb.cell h1 hne, hb.cell h2 hne, hb.cell h3 hne, hb.cell h4 hne⟩
theorem PBox.new (w : World) (key cookie : Nat) (off len : Int) (gone : Bool) (T : TypeId) : PBox (w.alloc (.cells #[.int .u64 (key : Int), .int .i64 off, .int .i64 len, .int .u32 (cookie : Int), .bool gone] T)) w.heap.size ⟨key, off, len, cookie, gone⟩ := by
  refine ⟨?_, ?_, ?_, ?_, ?_⟩ <;> go_simp
theorem apart_of {v v' : Value} {w : World} {g : Nat} (h : v'.ownBlock = v.ownBlock ∨ v'.ownBlock = some w.heap.size) (hv : v.ownBlock ≠ some g) (hg : g < w.heap.size) : v'.ownBlock ≠ some g := by
  rcases h with h | h
  · rw [h]; exact hv
  · rw [h]
    intro e
    have : w.heap.size = g := by simpa using e
    omega

theorem flag_great (g : Bool) : flagN g ≤ great ((4 : Nat) : Int) := by cases g <;> decide

set_option maxHeartbeats 1000000 in
theorem laid_false (key o l cookie : Nat) (w : World) (hk : key < 18446744073709551616) (hc : cookie < 4294967296) (ho : o ≤ 16777216) (hl : l ≤ 4096) :
    Calls Try.prog 17 #[pval ⟨key, (o : Int), (l : Int), cookie, false⟩] w fun e w' =>
      ∃ v', e = .returned v' ∧ w'.ownsRow w.heap.size 5 1 v' 24 (bvs (pbytes ⟨key, (o : Int), (l : Int), cookie, false⟩)) ∧ Below w.heap.size w w' := by
  obtain ⟨i0, hi, hz0, hz1, hz2⟩ := info_parts Try.infoU8
  have HK8 := Lib.hid (show key ≤ great ((8 : Nat) : Int) from Nat.le_of_lt_succ hk)
  have HC4 := Lib.hid (show cookie ≤ great ((4 : Nat) : Int) from Nat.le_of_lt_succ hc)
  have HO4 := Lib.hid (show o ≤ great ((4 : Nat) : Int) from Nat.le_trans ho (by decide))
  have HL4 := Lib.hid (show l ≤ great ((4 : Nat) : Int) from Nat.le_trans hl (by decide))
  clear hk
  have HX0 := Lib.hid (PBox.new w key cookie (o : Int) (l : Int) false 53)
  have HB0 := Lib.hid ((Below.refl w.heap.size w).alloc (Nat.le_refl _) (.cells #[.int .u64 (key : Int), .int .i64 (o : Int), .int .i64 (l : Int), .int .u32 (cookie : Int), .bool false] 53))
  have hs0 : w.heap.size + 1 ≤ (w.alloc (.cells #[.int .u64 (key : Int), .int .i64 (o : Int), .int .i64 (l : Int), .int .u32 (cookie : Int), .bool false] 53)).heap.size := by simp
  go_enter Try.func17, Try.ntmps17
  go_wp2_with fail
  refine (num_anyC key 8 _ (.inr (.inr (.inr rfl))) HK8.out).mono ?_
  rintro e w1 ⟨v1, rfl, hown1, hb1⟩
  have hs1 : w.heap.size + 1 ≤ w1.heap.size := Nat.le_trans hs0 hb1.size
  have HX1 := Lib.hid (HX0.out.mono hb1 hs0)
  have HB1 := Lib.hid (HB0.out.trans (hb1.mono (Nat.le_of_succ_le hs0)))
  have HO1 := Lib.hid (ownsRow_base hown1 (show w.heap.size + 1 ≤ _ from hs0))
  clear hown1 hb1 HX0 HB0 hs0
  obtain ⟨q0, q1, q2, q3, q4⟩ := HX1.out
  go_wp2_with fail
  refine (num_anyC o 4 _ (.inr (.inr (.inl rfl))) HO4.out).mono ?_
  rintro e w2 ⟨v2, rfl, hown2, hb2⟩
  have hs2 : w.heap.size + 1 ≤ w2.heap.size := Nat.le_trans hs1 hb2.size
  have HX2 := Lib.hid (HX1.out.mono hb2 hs1)
  have HB2 := Lib.hid (HB1.out.trans (hb2.mono (Nat.le_of_succ_le hs1)))
  have HO2 := Lib.hid (ownsRow_below HO1.out hb2 (Nat.le_refl _))
  have HN := Lib.hid (IsB.own hown2 (length_le _ _).symm)
  clear hown2 hb2 HX1 HO1 HB1 hs1
  clear q0 q1 q2 q3 q4
  go_wp2_with (at_builtin; refine wpList_append_B (by rfl) _ _ 27 rfl (w.heap.size + 1) 5 i0 Try.underlying27 hi hz0 hz1 hz2 _ (le key 8) _ rfl HO2.out ((length_le _ _).symm) _ (le o 4) rfl HN.out (by simp [length_le]) hs2 ?_)
  intro v3 w3 hown3 hb3
  have hs3 : w.heap.size + 1 ≤ w3.heap.size := Nat.le_trans hs2 hb3.size
  have HX3 := Lib.hid (HX2.out.mono hb3 (Nat.lt_succ_self _))
  have HB3 := Lib.hid (HB2.out.trans (hb3.mono (Nat.le_succ _)))
  have HO3 := Lib.hid hown3
  clear hown3 hb3 HX2 HO2 HB2 hs2
  obtain ⟨q0, q1, q2, q3, q4⟩ := HX3.out
  go_wp2_with fail
  refine (num_anyC l 4 _ (.inr (.inr (.inl rfl))) HL4.out).mono ?_
  rintro e w4 ⟨v4, rfl, hown4, hb4⟩
  have hs4 : w.heap.size + 1 ≤ w4.heap.size := Nat.le_trans hs3 hb4.size
  have HX4 := Lib.hid (HX3.out.mono hb4 hs3)
  have HB4 := Lib.hid (HB3.out.trans (hb4.mono (Nat.le_of_succ_le hs3)))
  have HO4 := Lib.hid (ownsRow_below HO3.out hb4 (Nat.le_refl _))
  have HN := Lib.hid (IsB.own hown4 (length_le _ _).symm)
  clear hown4 hb4 HX3 HO3 HB3 hs3
  clear q0 q1 q2 q3 q4
  go_wp2_with (at_builtin; refine wpList_append_B (by rfl) _ _ 27 rfl (w.heap.size + 1) 5 i0 Try.underlying27 hi hz0 hz1 hz2 _ ((le key 8 ++ le o 4)) _ rfl HO4.out rfl _ (le l 4) rfl HN.out (by simp [length_le]) hs4 ?_)
  intro v5 w5 hown5 hb5
  have hs5 : w.heap.size + 1 ≤ w5.heap.size := Nat.le_trans hs4 hb5.size
  have HX5 := Lib.hid (HX4.out.mono hb5 (Nat.lt_succ_self _))
  have HB5 := Lib.hid (HB4.out.trans (hb5.mono (Nat.le_succ _)))
  have HO5 := Lib.hid hown5
  clear hown5 hb5 HX4 HO4 HB4 hs4
  obtain ⟨q0, q1, q2, q3, q4⟩ := HX5.out
  go_wp2_with fail
  refine (num_anyC cookie 4 _ (.inr (.inr (.inl rfl))) HC4.out).mono ?_
  rintro e w6 ⟨v6, rfl, hown6, hb6⟩
  have hs6 : w.heap.size + 1 ≤ w6.heap.size := Nat.le_trans hs5 hb6.size
  have HX6 := Lib.hid (HX5.out.mono hb6 hs5)
  have HB6 := Lib.hid (HB5.out.trans (hb6.mono (Nat.le_of_succ_le hs5)))
  have HO6 := Lib.hid (ownsRow_below HO5.out hb6 (Nat.le_refl _))
  have HN := Lib.hid (IsB.own hown6 (length_le _ _).symm)
  clear hown6 hb6 HX5 HO5 HB5 hs5
  clear q0 q1 q2 q3 q4
  go_wp2_with (at_builtin; refine wpList_append_B (by rfl) _ _ 27 rfl (w.heap.size + 1) 5 i0 Try.underlying27 hi hz0 hz1 hz2 _ (((le key 8 ++ le o 4) ++ le l 4)) _ rfl HO6.out rfl _ (le cookie 4) rfl HN.out (by simp [length_le]) hs6 ?_)
  intro v7 w7 hown7 hb7
  have hs7 : w.heap.size + 1 ≤ w7.heap.size := Nat.le_trans hs6 hb7.size
  have HX7 := Lib.hid (HX6.out.mono hb7 (Nat.lt_succ_self _))
  have HB7 := Lib.hid (HB6.out.trans (hb7.mono (Nat.le_succ _)))
  have HO7 := Lib.hid hown7
  clear hown7 hb7 HX6 HO6 HB6 hs6
  obtain ⟨q0, q1, q2, q3, q4⟩ := HX7.out
  go_wp2_with fail
  refine (num_anyC 0 4 _ (.inr (.inr (.inl rfl))) (by decide)).mono ?_
  rintro e w8 ⟨v8, rfl, hown8, hb8⟩
  have hs8 : w.heap.size + 1 ≤ w8.heap.size := Nat.le_trans hs7 hb8.size
  have HX8 := Lib.hid (HX7.out.mono hb8 hs7)
  have HB8 := Lib.hid (HB7.out.trans (hb8.mono (Nat.le_of_succ_le hs7)))
  have HO8 := Lib.hid (ownsRow_below HO7.out hb8 (Nat.le_refl _))
  have HN := Lib.hid (IsB.own hown8 (length_le _ _).symm)
  clear hown8 hb8 HX7 HO7 HB7 hs7
  clear q0 q1 q2 q3 q4
  go_wp2_with (at_builtin; refine wpList_append_B (by rfl) _ _ 27 rfl (w.heap.size + 1) 5 i0 Try.underlying27 hi hz0 hz1 hz2 _ ((((le key 8 ++ le o 4) ++ le l 4) ++ le cookie 4)) _ rfl HO8.out rfl _ (le 0 4) rfl HN.out (by simp [length_le]) hs8 ?_)
  intro v9 w9 hown9 hb9
  have hs9 : w.heap.size + 1 ≤ w9.heap.size := Nat.le_trans hs8 hb9.size
  have HX9 := Lib.hid (HX8.out.mono hb9 (Nat.lt_succ_self _))
  have HB9 := Lib.hid (HB8.out.trans (hb9.mono (Nat.le_succ _)))
  have HO9 := Lib.hid hown9
  clear hown9 hb9 HX8 HO8 HB8 hs8
  go_wp2
  go_ret
  refine ⟨v9, rfl, ?_, HB9.out⟩
  have h := ownsRow_base HO9.out (Nat.le_succ _)
  rw [show pbytes ⟨key, (o : Int), (l : Int), cookie, false⟩ = le key 8 ++ (le o 4 ++ (le l 4 ++ (le cookie 4 ++ le 0 4))) from by simp [pbytes, flagN]]
  simpa [length_le] using h

set_option maxHeartbeats 1000000 in
theorem laid_true (key o l cookie : Nat) (w : World) (hk : key < 18446744073709551616) (hc : cookie < 4294967296) (ho : o ≤ 16777216) (hl : l ≤ 4096) :
    Calls Try.prog 17 #[pval ⟨key, (o : Int), (l : Int), cookie, true⟩] w fun e w' =>
      ∃ v', e = .returned v' ∧ w'.ownsRow w.heap.size 5 1 v' 24 (bvs (pbytes ⟨key, (o : Int), (l : Int), cookie, true⟩)) ∧ Below w.heap.size w w' := by
  obtain ⟨i0, hi, hz0, hz1, hz2⟩ := info_parts Try.infoU8
  have HK8 := Lib.hid (show key ≤ great ((8 : Nat) : Int) from Nat.le_of_lt_succ hk)
  have HC4 := Lib.hid (show cookie ≤ great ((4 : Nat) : Int) from Nat.le_of_lt_succ hc)
  have HO4 := Lib.hid (show o ≤ great ((4 : Nat) : Int) from Nat.le_trans ho (by decide))
  have HL4 := Lib.hid (show l ≤ great ((4 : Nat) : Int) from Nat.le_trans hl (by decide))
  clear hk
  have HX0 := Lib.hid (PBox.new w key cookie (o : Int) (l : Int) true 53)
  have HB0 := Lib.hid ((Below.refl w.heap.size w).alloc (Nat.le_refl _) (.cells #[.int .u64 (key : Int), .int .i64 (o : Int), .int .i64 (l : Int), .int .u32 (cookie : Int), .bool true] 53))
  have hs0 : w.heap.size + 1 ≤ (w.alloc (.cells #[.int .u64 (key : Int), .int .i64 (o : Int), .int .i64 (l : Int), .int .u32 (cookie : Int), .bool true] 53)).heap.size := by simp
  go_enter Try.func17, Try.ntmps17
  go_wp2_with fail
  refine (num_anyC key 8 _ (.inr (.inr (.inr rfl))) HK8.out).mono ?_
  rintro e w1 ⟨v1, rfl, hown1, hb1⟩
  have hs1 : w.heap.size + 1 ≤ w1.heap.size := Nat.le_trans hs0 hb1.size
  have HX1 := Lib.hid (HX0.out.mono hb1 hs0)
  have HB1 := Lib.hid (HB0.out.trans (hb1.mono (Nat.le_of_succ_le hs0)))
  have HO1 := Lib.hid (ownsRow_base hown1 (show w.heap.size + 1 ≤ _ from hs0))
  clear hown1 hb1 HX0 HB0 hs0
  obtain ⟨q0, q1, q2, q3, q4⟩ := HX1.out
  go_wp2_with fail
  refine (num_anyC o 4 _ (.inr (.inr (.inl rfl))) HO4.out).mono ?_
  rintro e w2 ⟨v2, rfl, hown2, hb2⟩
  have hs2 : w.heap.size + 1 ≤ w2.heap.size := Nat.le_trans hs1 hb2.size
  have HX2 := Lib.hid (HX1.out.mono hb2 hs1)
  have HB2 := Lib.hid (HB1.out.trans (hb2.mono (Nat.le_of_succ_le hs1)))
  have HO2 := Lib.hid (ownsRow_below HO1.out hb2 (Nat.le_refl _))
  have HN := Lib.hid (IsB.own hown2 (length_le _ _).symm)
  clear hown2 hb2 HX1 HO1 HB1 hs1
  clear q0 q1 q2 q3 q4
  go_wp2_with (at_builtin; refine wpList_append_B (by rfl) _ _ 27 rfl (w.heap.size + 1) 5 i0 Try.underlying27 hi hz0 hz1 hz2 _ (le key 8) _ rfl HO2.out ((length_le _ _).symm) _ (le o 4) rfl HN.out (by simp [length_le]) hs2 ?_)
  intro v3 w3 hown3 hb3
  have hs3 : w.heap.size + 1 ≤ w3.heap.size := Nat.le_trans hs2 hb3.size
  have HX3 := Lib.hid (HX2.out.mono hb3 (Nat.lt_succ_self _))
  have HB3 := Lib.hid (HB2.out.trans (hb3.mono (Nat.le_succ _)))
  have HO3 := Lib.hid hown3
  clear hown3 hb3 HX2 HO2 HB2 hs2
  obtain ⟨q0, q1, q2, q3, q4⟩ := HX3.out
  go_wp2_with fail
  refine (num_anyC l 4 _ (.inr (.inr (.inl rfl))) HL4.out).mono ?_
  rintro e w4 ⟨v4, rfl, hown4, hb4⟩
  have hs4 : w.heap.size + 1 ≤ w4.heap.size := Nat.le_trans hs3 hb4.size
  have HX4 := Lib.hid (HX3.out.mono hb4 hs3)
  have HB4 := Lib.hid (HB3.out.trans (hb4.mono (Nat.le_of_succ_le hs3)))
  have HO4 := Lib.hid (ownsRow_below HO3.out hb4 (Nat.le_refl _))
  have HN := Lib.hid (IsB.own hown4 (length_le _ _).symm)
  clear hown4 hb4 HX3 HO3 HB3 hs3
  clear q0 q1 q2 q3 q4
  go_wp2_with (at_builtin; refine wpList_append_B (by rfl) _ _ 27 rfl (w.heap.size + 1) 5 i0 Try.underlying27 hi hz0 hz1 hz2 _ ((le key 8 ++ le o 4)) _ rfl HO4.out rfl _ (le l 4) rfl HN.out (by simp [length_le]) hs4 ?_)
  intro v5 w5 hown5 hb5
  have hs5 : w.heap.size + 1 ≤ w5.heap.size := Nat.le_trans hs4 hb5.size
  have HX5 := Lib.hid (HX4.out.mono hb5 (Nat.lt_succ_self _))
  have HB5 := Lib.hid (HB4.out.trans (hb5.mono (Nat.le_succ _)))
  have HO5 := Lib.hid hown5
  clear hown5 hb5 HX4 HO4 HB4 hs4
  obtain ⟨q0, q1, q2, q3, q4⟩ := HX5.out
  go_wp2_with fail
  refine (num_anyC cookie 4 _ (.inr (.inr (.inl rfl))) HC4.out).mono ?_
  rintro e w6 ⟨v6, rfl, hown6, hb6⟩
  have hs6 : w.heap.size + 1 ≤ w6.heap.size := Nat.le_trans hs5 hb6.size
  have HX6 := Lib.hid (HX5.out.mono hb6 hs5)
  have HB6 := Lib.hid (HB5.out.trans (hb6.mono (Nat.le_of_succ_le hs5)))
  have HO6 := Lib.hid (ownsRow_below HO5.out hb6 (Nat.le_refl _))
  have HN := Lib.hid (IsB.own hown6 (length_le _ _).symm)
  clear hown6 hb6 HX5 HO5 HB5 hs5
  clear q0 q1 q2 q3 q4
  go_wp2_with (at_builtin; refine wpList_append_B (by rfl) _ _ 27 rfl (w.heap.size + 1) 5 i0 Try.underlying27 hi hz0 hz1 hz2 _ (((le key 8 ++ le o 4) ++ le l 4)) _ rfl HO6.out rfl _ (le cookie 4) rfl HN.out (by simp [length_le]) hs6 ?_)
  intro v7 w7 hown7 hb7
  have hs7 : w.heap.size + 1 ≤ w7.heap.size := Nat.le_trans hs6 hb7.size
  have HX7 := Lib.hid (HX6.out.mono hb7 (Nat.lt_succ_self _))
  have HB7 := Lib.hid (HB6.out.trans (hb7.mono (Nat.le_succ _)))
  have HO7 := Lib.hid hown7
  clear hown7 hb7 HX6 HO6 HB6 hs6
  obtain ⟨q0, q1, q2, q3, q4⟩ := HX7.out
  go_wp2_with fail
  refine (num_anyC 1 4 _ (.inr (.inr (.inl rfl))) (by decide)).mono ?_
  rintro e w8 ⟨v8, rfl, hown8, hb8⟩
  have hs8 : w.heap.size + 1 ≤ w8.heap.size := Nat.le_trans hs7 hb8.size
  have HX8 := Lib.hid (HX7.out.mono hb8 hs7)
  have HB8 := Lib.hid (HB7.out.trans (hb8.mono (Nat.le_of_succ_le hs7)))
  have HO8 := Lib.hid (ownsRow_below HO7.out hb8 (Nat.le_refl _))
  have HN := Lib.hid (IsB.own hown8 (length_le _ _).symm)
  clear hown8 hb8 HX7 HO7 HB7 hs7
  clear q0 q1 q2 q3 q4
  go_wp2_with (at_builtin; refine wpList_append_B (by rfl) _ _ 27 rfl (w.heap.size + 1) 5 i0 Try.underlying27 hi hz0 hz1 hz2 _ ((((le key 8 ++ le o 4) ++ le l 4) ++ le cookie 4)) _ rfl HO8.out rfl _ (le 1 4) rfl HN.out (by simp [length_le]) hs8 ?_)
  intro v9 w9 hown9 hb9
  have hs9 : w.heap.size + 1 ≤ w9.heap.size := Nat.le_trans hs8 hb9.size
  have HX9 := Lib.hid (HX8.out.mono hb9 (Nat.lt_succ_self _))
  have HB9 := Lib.hid (HB8.out.trans (hb9.mono (Nat.le_succ _)))
  have HO9 := Lib.hid hown9
  clear hown9 hb9 HX8 HO8 HB8 hs8
  go_wp2
  go_ret
  refine ⟨v9, rfl, ?_, HB9.out⟩
  have h := ownsRow_base HO9.out (Nat.le_succ _)
  rw [show pbytes ⟨key, (o : Int), (l : Int), cookie, true⟩ = le key 8 ++ (le o 4 ++ (le l 4 ++ (le cookie 4 ++ le 1 4))) from by simp [pbytes, flagN]]
  simpa [length_le] using h

theorem laid_any (p : Pos) (w : World) (hf : p.fits) (hc : pcan p = true) :
    Calls Try.prog 17 #[pval p] w fun e w' =>
      ∃ v', e = .returned v' ∧ w'.ownsRow w.heap.size 5 1 v' 24 (bvs (pbytes p)) ∧ Below w.heap.size w w' := by
  have h := pcan_fits hc
  obtain ⟨key, off, len, cookie, gone⟩ := p
  obtain ⟨o, rfl⟩ := Int.eq_ofNat_of_zero_le h.1
  obtain ⟨l, rfl⟩ := Int.eq_ofNat_of_zero_le h.2.2.1
  have h1 := h.2.1
  have h2 := h.2.2.2.1
  simp only at h1 h2
  cases gone with
  | false => exact laid_false key o l cookie w hf.1 hf.2.1 (by omega) (by omega)
  | true => exact laid_true key o l cookie w hf.1 hf.2.1 (by omega) (by omega)

end Go.Proofs.Ytengfglopagdmaa
