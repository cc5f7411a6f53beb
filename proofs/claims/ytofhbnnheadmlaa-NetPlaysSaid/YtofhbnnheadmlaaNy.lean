/- Package corncriblaw15: NetPlays. -/
import Derived.Test.YtofhbnnheadmlaaNb
import Derived.Test.YtofhbnnheadmlaaRw
import Derived.Test.YtofhbnnheadmlaaNc
import Derived.Deep.CutBlock
set_option linter.unusedVariables false
set_option linter.unusedSimpArgs false
namespace Go.Proofs.Ytofhbnnheadmlaa
open Go.RowKit Go.Cor

theorem cutP_len (c : List (Int × Int)) (a b : Int) (q : Bool) : (cutP c a b q).length ≤ c.length + 1 := by
  unfold cutP
  rw [List.length_append]
  have := List.length_filter_le (fun p => ! pairB p a b) c
  split <;> simp <;> omega
theorem doN_c (n : NetP) (kd i k : Int) (m : Msg) : (doN n kd i k m).c.length ≤ n.c.length + 1 := by
  unfold doN sendN cutN takeN loseN twiceN
  (repeat' split) <;> first | exact cutP_len _ _ _ _ | exact Nat.le_succ _
theorem doK_le (n : NetP) (kd i k : Int) (m : Msg) : doK n kd i k m ≤ 17 := by
  unfold doK
  split
  · exact sendK_le n m
  split
  · exact cutK_le i k
  split
  · exact takeK_le n i
  split
  · exact peekK_le n i
  · exact twiceK_le n i
theorem Try.sizeWM15 : (Try.prog.info? 43).map (·.size) = some 12 := by kernel_rfl
set_option maxHeartbeats 1000000 in
/-- A message stored into a box, as one operation. -/
theorem wpList_store12 {P : Program} {w : World} {ops : Array Oper} {rest : List Oper} {o : Oper} {a : Act} {Q : Exit → Act → World → Prop} (hg : o.guard = none) (T : TypeId) (hs : (P.info? T).map (·.size) = some 12) (x y : Operand) (ho : o.op = .store T x y)
    (g : Nat) (T' : TypeId) {a0 a1 a2 a3 a4 a5 a6 a7 a8 a9 a10 a11 : Value} (hb : Blk w g #[a0, a1, a2, a3, a4, a5, a6, a7, a8, a9, a10, a11] T') {v0 v1 v2 v3 v4 v5 v6 v8 v9 : Int} {v7 v10 : Bool} {s : Option Addr} {n c : Nat}
    (hx : a.eval x = .pointer (some ⟨g, 0, none⟩)) (hy : a.eval y = .agg #[.int .i64 v0, .int .i64 v1, .int .i64 v2, .int .i64 v3, .int .i64 v4, .int .u64 v5, .int .i64 v6, .bool v7, .int .u64 v8, .int .u32 v9, .bool v10, .slice s n c])
    (h : ∀ w', Blk w' g #[.int .i64 v0, .int .i64 v1, .int .i64 v2, .int .i64 v3, .int .i64 v4, .int .u64 v5, .int .i64 v6, .bool v7, .int .u64 v8, .int .u32 v9, .bool v10, .slice s n c] T' → Kept (fun j => j = g) w w' → wpList P ops Q rest (a.put o.dst undef) w') : wpList P ops Q (o :: rest) a w := by
  refine wpList_plain hg fun K hK => ?_
  obtain ⟨j, hj1, hj2⟩ := Option.map_eq_some_iff.1 hs
  have hsz : ∀ W, (sizeOf T).run P W = .ok 12 W := fun W => by simp [sizeOf, typeInfo, hj1, hj2]
  have hF := fin12k hb (.int .i64 v0) (.int .i64 v1) (.int .i64 v2) (.int .i64 v3) (.int .i64 v4) (.int .u64 v5) (.int .i64 v6) (.bool v7) (.int .u64 v8) (.int .u32 v9) (.bool v10) (.slice s n c)
  have c0 := hb.cell 0 rfl
  have c1 := hb.cell 1 rfl
  have c2 := hb.cell 2 rfl
  have c3 := hb.cell 3 rfl
  have c4 := hb.cell 4 rfl
  have c5 := hb.cell 5 rfl
  have c6 := hb.cell 6 rfl
  have c7 := hb.cell 7 rfl
  have c8 := hb.cell 8 rfl
  have c9 := hb.cell 9 rfl
  have c10 := hb.cell 10 rfl
  have c11 := hb.cell 11 rfl
  have fz := fun j => hb.free j
  unfold set12 at hF
  have HF := Lib.hid hF
  clear hF
  unfold Oper.wp execOp
  rw [ho]
  simp only [hx, hy]
  go_simp
  exact hK _ _ (h _ HF.out.1 HF.out.2)
/-- What a round's boxes and the document's rows are, beside a net. -/
structure Lc (X5 X7 X9 X11 : Nat) (C5 C7 C9 C11 : Array Value) (L : Value) (ml : Nat) (ls : List (Msg × Value)) (C : Value) (cs : List (Int × Int)) (w : World) (S : Nat → Prop) : Prop where
  b5 : Blk w X5 C5 38
  b7 : Blk w X7 C7 32
  b9 : Blk w X9 C9 30
  b11 : Blk w X11 C11 43
  rl : IsX w 12 L ml (row mcl ls)
  rc : IsC w C cs
  nl : ∀ b, liesX L ml b → ¬ S b
  nc : ∀ b, liesX C cs.length b → ¬ S b
  n5 : ¬ S X5
  n7 : ¬ S X7
  n9 : ¬ S X9
  n11 : ¬ S X11
section
variable {X5 X7 X9 X11 : Nat} {C5 C7 C9 C11 : Array Value} {L : Value} {ml : Nat} {ls : List (Msg × Value)} {C : Value} {cs : List (Int × Int)} {w w' : World} {S S' : Nat → Prop}
theorem Lc.call (h : Lc X5 X7 X9 X11 C5 C7 C9 C11 L ml ls C cs w S) (hk : Kept S w w') (hs : ∀ b, b < w.heap.size → ¬ S b → ¬ S' b) : Lc X5 X7 X9 X11 C5 C7 C9 C11 L ml ls C cs w' S' :=
  ⟨h.b5.kept hk h.n5, h.b7.kept hk h.n7, h.b9.kept hk h.n9, h.b11.kept hk h.n11, h.rl.kept hk h.nl, IsX.kept h.rc hk h.nc, fun b hb => hs b (h.rl.lies_lt (by decide) hb) (h.nl b hb), fun b hb => hs b (IsX.lies_lt h.rc (by decide) hb) (h.nc b hb), hs _ h.b5.lt h.n5, hs _ h.b7.lt h.n7, hs _ h.b9.lt h.n9, hs _ h.b11.lt h.n11⟩
theorem Lc.below (h : Lc X5 X7 X9 X11 C5 C7 C9 C11 L ml ls C cs w S) (hb : Below w.heap.size w w') : Lc X5 X7 X9 X11 C5 C7 C9 C11 L ml ls C cs w' S :=
  ⟨h.b5.below hb h.b5.lt, h.b7.below hb h.b7.lt, h.b9.below hb h.b9.lt, h.b11.below hb h.b11.lt, h.rl.mono hb (Nat.le_refl _), IsX.mono h.rc hb (Nat.le_refl _), h.nl, h.nc, h.n5, h.n7, h.n9, h.n11⟩
theorem Lc.set11 {C' : Array Value} (h : Lc X5 X7 X9 X11 C5 C7 C9 C11 L ml ls C cs w S) (hb : Blk w' X11 C' 43) (hk : Kept (fun j => j = X11) w w') (h5 : X5 ≠ X11) (h7 : X7 ≠ X11) (h9 : X9 ≠ X11) (hl : ∀ b, liesX L ml b → b ≠ X11) (hc : ∀ b, liesX C cs.length b → b ≠ X11) : Lc X5 X7 X9 X11 C5 C7 C9 C' L ml ls C cs w' S :=
  ⟨h.b5.kept hk h5, h.b7.kept hk h7, h.b9.kept hk h9, hb, h.rl.kept hk hl, IsX.kept h.rc hk hc, h.nl, h.nc, h.n5, h.n7, h.n9, h.n11⟩
end
theorem doK_0 (n : NetP) (i k : Int) (m : Msg) : doK n 0 i k m = sendK n m := rfl
theorem doK_1 (n : NetP) (i k : Int) (m : Msg) : doK n 1 i k m = takeK n i := rfl
theorem doK_2 (n : NetP) (i k : Int) (m : Msg) : doK n 2 i k m = peekK n i := rfl
theorem doK_3 (n : NetP) (i k : Int) (m : Msg) : doK n 3 i k m = twiceK n i := rfl
theorem doK_4 (n : NetP) (i k : Int) (m : Msg) : doK n 4 i k m = cutK i k := rfl
theorem doK_5 (n : NetP) (i k : Int) (m : Msg) : doK n 5 i k m = cutK i k := rfl
theorem doN_0 (n : NetP) (i k : Int) (m : Msg) : doN n 0 i k m = sendN n m := rfl
theorem doN_1 (n : NetP) (i k : Int) (m : Msg) : doN n 1 i k m = takeN n i := rfl
theorem doN_2 (n : NetP) (i k : Int) (m : Msg) : doN n 2 i k m = loseN n i := rfl
theorem doN_3 (n : NetP) (i k : Int) (m : Msg) : doN n 3 i k m = twiceN n i := rfl
theorem doN_4 (n : NetP) (i k : Int) (m : Msg) : doN n 4 i k m = cutN n i k true := rfl
theorem doN_5 (n : NetP) (i k : Int) (m : Msg) : doN n 5 i k m = cutN n i k false := rfl
theorem oneB {w : World} {v : Value} {l : List UInt8} (h : IsB w v l) : v.oneCell' = true := by
  obtain ⟨x, c, rfl, _⟩ := h
  rfl
set_option maxRecDepth 100000 in
set_option maxHeartbeats 16000000 in
theorem netPlays_all (v : Value) (l : List A15) (w : World) (hA : IsA15 w v l) :
    Calls Try.prog 3 #[v] w fun e w' => e = .returned (.bool true) ∧ Below w.heap.size w w' := by
  obtain ⟨N, hN⟩ : ∃ z, l.length = z := ⟨_, rfl⟩
  have hlenA := fun W => len_X (P := Try.prog) hA.1 22 3 32 Try.underlying22 W
  rw [hN] at hlenA
  have HAL := Lib.hid (fun wx => alive15 wx)
  by_cases h60 : 60 < N
  · have k1 : (60 : Int) < (N : Int) := by omega
    clear hA hN
    go_enter Try.func3, Try.ntmps3
    go_wp2_with fail
    refine (HAL.out _).mono ?_
    rintro e w1 ⟨rfl, hb⟩
    have HB1 := Lib.hid hb
    clear hb
    go_wp2
    go_ret
    exact ⟨rfl, HB1.out⟩
  have k1 : ¬ (60 : Int) < (N : Int) := by omega
  have HACT := Lib.hid (fun (wx : World) (hb : Below w.heap.size w wx) (i : Nat) (hi : i < N) => show ∃ x : A15, l[i]? = some x ∧ Good15 w x ∧ ∃ b o, (∀ W, (Instr.indexAt 22 v (.int .i64 (i : Int))).run Try.prog W = .ok (.pointer (some ⟨b, o, none⟩)) W) ∧ ∀ j, j < 15 → wx.cell? ⟨b, o + j, none⟩ = (acl15 x)[j]? from by
    have h9 := hA.mono hb (Nat.le_refl _)
    have hx : l[i]? = some (l[i]'(by omega)) := List.getElem?_eq_getElem _
    obtain ⟨b, o, h1, h2⟩ := act15_at h9 hx
    exact ⟨_, hx, hA.2 _ (List.mem_of_getElem? hx), b, o, h1, h2⟩)
  clear hA hN
  go_enter Try.func3, Try.ntmps3
  go_wp2_with fail
  refine (HAL.out _).mono ?_
  rintro e w1 ⟨rfl, hb⟩
  have HB1 := Lib.hid hb
  clear hb
  go_wp2_with fail
  go_loopw [3] (fun q3 wr => ∃ i : Nat, i ≤ N ∧ q3 = .int .i64 i ∧ wr = w1 ∧ Hid (∀ j x, j < i → l[j]? = some x → x.1.m.n.data.length ≤ 300 ∧ 0 ≤ x.1.kd ∧ x.1.kd ≤ 5)) (fun q3 _ => N - (intOf q3).toNat)
  case atStart => exact ⟨0, Nat.zero_le _, rfl, rfl, Lib.hid (fun j x h => absurd h (Nat.not_lt_zero j))⟩
  case round =>
    obtain ⟨i, hiN, rfl, rfl, HOK⟩ := hrel
    by_cases hlt : i < N
    · obtain ⟨⟨⟨ak, ai, aK, m⟩, dv⟩, hx, hg, b, o, hidx, hcell⟩ := HACT.out wr HB1.out i hlt
      obtain ⟨hgB, _⟩ := hg
      dsimp only at hgB
      obtain ⟨dl, hdl⟩ : ∃ z, m.n.data.length = z := ⟨_, rfl⟩
      obtain ⟨dx, dc, rfl, _, _⟩ := hgB.at_len hdl
      have d0 : wr.cell? ⟨b, o, none⟩ = some (.int .i64 ak) := hcell 0 (by decide)
      have d14 : wr.cell? ⟨b, o + 14, none⟩ = some (.slice dx dl dc) := hcell 14 (by decide)
      have HXI := Lib.hid hx
      have HDL := Lib.hid hdl
      clear hcell hx hgB hdl
      by_cases h1 : 300 < dl
      · as_aux_lemma =>
          have k3 : (300 : Int) < (dl : Int) := by omega
          go_wp2
          go_ret
          exact ⟨rfl, HB1.out⟩
      have k3 : ¬ (300 : Int) < (dl : Int) := by omega
      by_cases h2 : ak < 0
      · as_aux_lemma =>
          go_wp2
          go_ret
          exact ⟨rfl, HB1.out⟩
      by_cases h3 : 5 < ak
      · as_aux_lemma =>
          go_wp2
          go_ret
          exact ⟨rfl, HB1.out⟩
      have HOK1 := Lib.hid (show ∀ j x, j < i + 1 → l[j]? = some x → x.1.m.n.data.length ≤ 300 ∧ 0 ≤ x.1.kd ∧ x.1.kd ≤ 5 from fun j x hj hx => by
        by_cases e : j = i
        · subst e
          rw [HXI.out] at hx
          cases hx
          exact ⟨by show m.n.data.length ≤ 300; rw [HDL.out]; omega, by show 0 ≤ ak; omega, by show ak ≤ 5; omega⟩
        · exact HOK.out j x (by omega) hx)
      as_aux_lemma =>
        go_wp2
        go_roundw
        case rel => exact ⟨i + 1, by omega, by go_num, by first | rfl | trivial, HOK1⟩
        case measure => simp [intOf]; omega
    · obtain ⟨w1, hw1⟩ : ∃ z, z = wr := ⟨_, rfl⟩
      subst hw1
      have HOKN := Lib.hid (show ∀ j x, j < N → l[j]? = some x → x.1.m.n.data.length ≤ 300 ∧ 0 ≤ x.1.kd ∧ x.1.kd ≤ 5 from fun j x hj => HOK.out j x (by omega))
      clear hiN HOK
      go_wp2_with fail
      refine (nnew_hd w w1 HB1.out).mono ?_
      rintro e w2 ⟨rfl, h2, hb⟩
      obtain ⟨g, hg⟩ : ∃ z, w1.heap.size = z := ⟨_, rfl⟩
      have hN5 : ¬ (fun k => k = w1.heap.size) w2.heap.size := h2.new (Nat.le_refl _)
      have HH3 := Lib.hid (h2.alloc (.cells #[.slice none 0 0, .slice none 0 0] 38))
      have HX3 := Lib.hid (Blk.new w2 #[.slice none 0 0, .slice none 0 0] 38)
      rw [hg] at HH3 hN5
      try rw [hg]
      obtain ⟨w3, hw3⟩ : ∃ z, w2.alloc (.cells #[.slice none 0 0, .slice none 0 0] 38) = z := ⟨_, rfl⟩
      obtain ⟨X5, hX5⟩ : ∃ z, w2.heap.size = z := ⟨_, rfl⟩
      rw [hw3] at HH3 HX3
      rw [hX5] at HX3 hN5
      have HN5 := Lib.hid hN5
      have HW3 := Lib.hid hw3
      have HX5 := Lib.hid hX5
      have HWX := Lib.hid (show w.heap.size ≤ X5 by have h8 := h2.bel.size; omega)
      clear hb h2 hg hw3 hX5 hN5
      go_upto_region 12 with fail
      try rw [HW3.out]
      try rw [HX5.out]
      go_wp2_with fail
      go_loopw [6] (fun q6 wr => ∃ (i : Nat) (n : NetP) (S : Nat → Prop) (ls : List (Msg × Value)) (cs : List (Int × Int)) (xl : Option Addr) (ll cl : Nat) (xc : Option Addr) (lc cc : Nat), i ≤ N ∧ q6 = .int .i64 i ∧ lc ≤ i ∧ Hid (Hd w wr g S n i) ∧ Hid (dnet ls cs = n) ∧ Hid (ls.length = ll) ∧ Hid (cs.length = lc) ∧ Hid (Blk wr X5 #[.slice xl ll cl, .slice xc lc cc] 38) ∧ Hid (IsX wr 12 (.slice xl ll cl) ll (row mcl ls)) ∧ Hid (∀ x ∈ ls, IsB w x.2 x.1.n.data) ∧ Hid (∀ x ∈ ls, x.1.n.data.length ≤ 1099511627776) ∧ Hid (IsC wr (.slice xc lc cc) cs) ∧ Hid (∀ b, liesX (.slice xl ll cl) ll b → ¬ S b ∧ b ≠ X5) ∧ Hid (∀ b, liesX (.slice xc lc cc) lc b → ¬ S b ∧ b ≠ X5) ∧ Hid (¬ S X5)) (fun q6 _ => N - (intOf q6).toNat)
      case atStart => exact ⟨0, ⟨[], []⟩, _, [], [], none, 0, 0, none, 0, 0, Nat.zero_le _, rfl, Nat.le_refl _, HH3, Lib.hid rfl, Lib.hid rfl, Lib.hid rfl, HX3, Lib.hid (IsX.nil _ _), Lib.hid (fun x hx => by cases hx), Lib.hid (fun x hx => by cases hx), Lib.hid (IsX.nil _ _), Lib.hid (fun b hb => absurd rfl hb.1), Lib.hid (fun b hb => absurd rfl hb.1), HN5⟩
      case round =>
        obtain ⟨i', n, S, ls, cs, xl, ll, cl, xc, lc, cc, hiN, rfl, hlci, HHr, HDN, HLL, HLC, HBX, HRL, HRD, HXS, HRC, HSL, HSC, HSX⟩ := hrel
        obtain ⟨i, hii⟩ : ∃ z, i' = z := ⟨_, rfl⟩
        subst hii
        by_cases hlt : i' < N
        · obtain ⟨⟨⟨ak, ai, aK, m⟩, dv⟩, hx, hg, b, o, hidx, hcell⟩ := HACT.out wr HHr.out.bel i' hlt
          obtain ⟨hgB, hgF, hgI, hgK, hgWi, hgWk⟩ := hg
          obtain ⟨hok1, hok2, hok3⟩ := HOKN.out i' _ hlt hx
          dsimp only at hgB hgF hgI hgK hgWi hgWk hok1 hok2 hok3
          obtain ⟨dl, hdl⟩ : ∃ z, m.n.data.length = z := ⟨_, rfl⟩
          obtain ⟨dx, dc, rfl, _, _⟩ := hgB.at_len hdl
          have d0 : wr.cell? ⟨b, o, none⟩ = some (.int .i64 ak) := hcell 0 (by decide)
          have d1 : wr.cell? ⟨b, o + 1, none⟩ = some (.int .i64 ai) := hcell 1 (by decide)
          have d2 : wr.cell? ⟨b, o + 2, none⟩ = some (.int .i64 aK) := hcell 2 (by decide)
          have d3 : wr.cell? ⟨b, o + 3, none⟩ = some (.int .i64 m.fr) := hcell 3 (by decide)
          have d4 : wr.cell? ⟨b, o + 4, none⟩ = some (.int .i64 m.to) := hcell 4 (by decide)
          have d5 : wr.cell? ⟨b, o + 5, none⟩ = some (.int .i64 m.kd) := hcell 5 (by decide)
          have d6 : wr.cell? ⟨b, o + 6, none⟩ = some (.int .i64 m.vo) := hcell 6 (by decide)
          have d7 : wr.cell? ⟨b, o + 7, none⟩ = some (.int .i64 m.li) := hcell 7 (by decide)
          have d8 : wr.cell? ⟨b, o + 8, none⟩ = some (.int .u64 (m.id : Int)) := hcell 8 (by decide)
          have d9 : wr.cell? ⟨b, o + 9, none⟩ = some (.int .i64 m.co) := hcell 9 (by decide)
          have d10 : wr.cell? ⟨b, o + 10, none⟩ = some (.bool m.has) := hcell 10 (by decide)
          have d11 : wr.cell? ⟨b, o + 11, none⟩ = some (.int .u64 (m.n.key : Int)) := hcell 11 (by decide)
          have d12 : wr.cell? ⟨b, o + 12, none⟩ = some (.int .u32 (m.n.cookie : Int)) := hcell 12 (by decide)
          have d13 : wr.cell? ⟨b, o + 13, none⟩ = some (.bool m.n.gone) := hcell 13 (by decide)
          have d14 : wr.cell? ⟨b, o + 14, none⟩ = some (.slice dx dl dc) := hcell 14 (by decide)
          have zb : b < wr.heap.size := cell_lt d0
          have HF := Lib.hid hgF
          have HID := Lib.hid hgI
          have HWI := Lib.hid hgWi
          have HWK := Lib.hid hgWk
          have HDB := Lib.hid hgB
          have HM300 := Lib.hid (show m.n.data.length ≤ 300 from hok1)
          have HHb := Lib.hid (HHr.out.alloc (.cells #[.int .i64 ak, .int .i64 ai, .int .i64 aK, .int .i64 m.fr, .int .i64 m.to, .int .i64 m.kd, .int .i64 m.vo, .int .i64 m.li, .int .u64 (m.id : Int), .int .i64 m.co, .bool m.has, .int .u64 (m.n.key : Int), .int .u32 (m.n.cookie : Int), .bool m.n.gone, .slice dx dl dc] 32))
          have HB5b := Lib.hid (HBX.out.alloc (.cells #[.int .i64 ak, .int .i64 ai, .int .i64 aK, .int .i64 m.fr, .int .i64 m.to, .int .i64 m.kd, .int .i64 m.vo, .int .i64 m.li, .int .u64 (m.id : Int), .int .i64 m.co, .bool m.has, .int .u64 (m.n.key : Int), .int .u32 (m.n.cookie : Int), .bool m.n.gone, .slice dx dl dc] 32))
          have hRLb := HRL.out.mono (below_new15 wr (.cells #[.int .i64 ak, .int .i64 ai, .int .i64 aK, .int .i64 m.fr, .int .i64 m.to, .int .i64 m.kd, .int .i64 m.vo, .int .i64 m.li, .int .u64 (m.id : Int), .int .i64 m.co, .bool m.has, .int .u64 (m.n.key : Int), .int .u32 (m.n.cookie : Int), .bool m.n.gone, .slice dx dl dc] 32)) (Nat.le_refl _)
          have hRCb : IsC (wr.alloc (.cells #[.int .i64 ak, .int .i64 ai, .int .i64 aK, .int .i64 m.fr, .int .i64 m.to, .int .i64 m.kd, .int .i64 m.vo, .int .i64 m.li, .int .u64 (m.id : Int), .int .i64 m.co, .bool m.has, .int .u64 (m.n.key : Int), .int .u32 (m.n.cookie : Int), .bool m.n.gone, .slice dx dl dc] 32)) (.slice xc lc cc) cs := IsX.mono HRC.out (below_new15 wr (.cells #[.int .i64 ak, .int .i64 ai, .int .i64 aK, .int .i64 m.fr, .int .i64 m.to, .int .i64 m.kd, .int .i64 m.vo, .int .i64 m.li, .int .u64 (m.id : Int), .int .i64 m.co, .bool m.has, .int .u64 (m.n.key : Int), .int .u32 (m.n.cookie : Int), .bool m.n.gone, .slice dx dl dc] 32)) (Nat.le_refl _)
          have HAb := Lib.hid (Blk.new wr #[.int .i64 ak, .int .i64 ai, .int .i64 aK, .int .i64 m.fr, .int .i64 m.to, .int .i64 m.kd, .int .i64 m.vo, .int .i64 m.li, .int .u64 (m.id : Int), .int .i64 m.co, .bool m.has, .int .u64 (m.n.key : Int), .int .u32 (m.n.cookie : Int), .bool m.n.gone, .slice dx dl dc] 32)
          have HNX7 := Lib.hid (show ¬ S wr.heap.size from HHr.out.new (Nat.le_refl _))
          have HX57 := Lib.hid (show X5 < wr.heap.size from HBX.out.lt)
          obtain ⟨wb, hwb⟩ : ∃ z, wr.alloc (.cells #[.int .i64 ak, .int .i64 ai, .int .i64 aK, .int .i64 m.fr, .int .i64 m.to, .int .i64 m.kd, .int .i64 m.vo, .int .i64 m.li, .int .u64 (m.id : Int), .int .i64 m.co, .bool m.has, .int .u64 (m.n.key : Int), .int .u32 (m.n.cookie : Int), .bool m.n.gone, .slice dx dl dc] 32) = z := ⟨_, rfl⟩
          obtain ⟨X7, hX7⟩ : ∃ z, wr.heap.size = z := ⟨_, rfl⟩
          rw [hwb] at HHb HB5b HAb hRLb hRCb
          rw [hX7] at HAb HNX7 HX57
          have HWB := Lib.hid hwb
          have HX7 := Lib.hid hX7
          obtain ⟨KK, hKK⟩ : ∃ z, doK n ak ai aK m = z := ⟨_, rfl⟩
          obtain ⟨n1, hn1⟩ : ∃ z, doN n ak ai aK m = z := ⟨_, rfl⟩
          have HKK := Lib.hid hKK
          have HN1 := Lib.hid hn1
          have HKL := Lib.hid (show KK ≤ 17 from hKK ▸ doK_le n ak ai aK m)
          have HCL1 := Lib.hid (show n1.c.length ≤ n.c.length + 1 from hn1 ▸ doN_c n ak ai aK m)
          have hdo := rdo_any xl ll cl xc lc cc ls cs ak ai aK m dx dl dc wb HLL.out (by
            have h8 := HHr.out.nt.good.1
            rw [← HDN.out, dnet_len, HLL.out] at h8
            exact h8) HLC.out (by omega) ⟨by rw [HLL.out]; exact hRLb, fun x hx => ⟨(HRD.out x hx).mono HHb.out.bel (Nat.le_refl _), oneB (HRD.out x hx)⟩⟩ hRCb (hgB.mono HHb.out.bel (Nat.le_refl _)) hok1 hok2 hok3
          have HDO := Lib.hid hdo
          clear hdo hwb hX7 hKK hn1 hRLb hRCb hcell hx hgF hgI hgK hgWi hgWk hgB hdl hok1
          go_upto_region 16 with fail
          try rw [HWB.out]
          try rw [HX7.out]
          clear hidx d0 d1 d2 d3 d4 d5 d6 d7 d8 d9 d10 d11 d12 d13 d14 zb
          have a0 := HAb.out.cell 0 rfl
          have a1 := HAb.out.cell 1 rfl
          have a2 := HAb.out.cell 2 rfl
          have a3 := HAb.out.cell 3 rfl
          have a4 := HAb.out.cell 4 rfl
          have a5 := HAb.out.cell 5 rfl
          have a6 := HAb.out.cell 6 rfl
          have a7 := HAb.out.cell 7 rfl
          have a8 := HAb.out.cell 8 rfl
          have a9 := HAb.out.cell 9 rfl
          have a10 := HAb.out.cell 10 rfl
          have a11 := HAb.out.cell 11 rfl
          have a12 := HAb.out.cell 12 rfl
          have a13 := HAb.out.cell 13 rfl
          have a14 := HAb.out.cell 14 rfl
          have p0 := HB5b.out.cell 0 rfl
          have p1 := HB5b.out.cell 1 rfl
          go_wp2_with fail
          refine HDO.out.mono ?_
          intro e wd hdo
          unfold DoT at hdo
          rw [HDN.out, HKK.out, HN1.out] at hdo
          obtain ⟨yl, ml, kl, yc, mc, kc, l', cs', M, mx, wl, wc, rfl, hMe, hl', hc', hIM, hIC, hDN1, hmem, hMm, hLL1, hCC1, hbd⟩ := hdo
          have HSZB := Lib.hid (show X5 < X7 ∧ X7 < wb.heap.size ∧ wb.heap.size ≤ wd.heap.size from ⟨HX57.out, HAb.out.lt, hbd.size⟩)
          have HRD1 := Lib.hid (show ∀ x ∈ l', IsB w x.2 x.1.n.data from fun x hx => by
            rcases hmem x hx with h | h
            · exact HRD.out x h
            · rw [h]; exact HDB.out)
          have HMB := Lib.hid (show IsB w (.slice mx wl wc) M.n.data from by
            rcases hMm with h | ⟨h1, h2⟩
            · exact HRD.out _ h
            · rw [h1, h2]; exact IsB.nil w)
          have HML := Lib.hid (show M.n.data.length ≤ 1099511627776 from by
            rcases hMm with h | ⟨h1, _⟩
            · exact HXS.out _ h
            · rw [h1]; exact Nat.zero_le _)
          have HXS1 := Lib.hid (show ∀ x ∈ l', x.1.n.data.length ≤ 1099511627776 from fun x hx => by
            rcases hmem x hx with h | h
            · exact HXS.out x h
            · rw [h]; exact Nat.le_trans HM300.out (by decide))
          have HSL1 := Lib.hid (show ∀ b, liesX (.slice yl ml kl) ml b → ¬ S b ∧ b ≠ X5 from fun b hb => by
            rcases hLL1 b hb with h | h
            · rw [HLL.out] at h; exact HSL.out b h
            · exact ⟨HHb.out.new h, by have := HSZB.out; omega⟩)
          have HSC1 := Lib.hid (show ∀ b, liesX (.slice yc mc kc) mc b → ¬ S b ∧ b ≠ X5 from fun b hb => by
            rcases hCC1 b hb with h | h
            · rw [HLC.out] at h; exact HSC.out b h
            · exact ⟨HHb.out.new h, by have := HSZB.out; omega⟩)
          have HLL1 := Lib.hid hl'
          have HLC1 := Lib.hid hc'
          have HDN1 := Lib.hid hDN1
          have HME := Lib.hid hMe
          have HMC := Lib.hid (show mc ≤ i' + 1 from by
            have h8 := HCL1.out
            rw [← hDN1, ← HDN.out] at h8
            have h9 : cs'.length ≤ cs.length + 1 := h8
            rw [hc', HLC.out] at h9
            omega)
          have hH16 := ((HHb.out.below hbd).alloc (.cells #[.slice yl ml kl, .slice yc mc kc] 38)).alloc (.cells #[.int .i64 M.fr, .int .i64 M.to, .int .i64 M.kd, .int .i64 M.vo, .int .i64 M.li, .int .u64 (M.id : Int), .int .i64 M.co, .bool M.has, .int .u64 (M.n.key : Int), .int .u32 (M.n.cookie : Int), .bool M.n.gone, .slice mx wl wc] 30)
          have h516 := ((HB5b.out.below hbd HB5b.out.lt).alloc (.cells #[.slice yl ml kl, .slice yc mc kc] 38)).alloc (.cells #[.int .i64 M.fr, .int .i64 M.to, .int .i64 M.kd, .int .i64 M.vo, .int .i64 M.li, .int .u64 (M.id : Int), .int .i64 M.co, .bool M.has, .int .u64 (M.n.key : Int), .int .u32 (M.n.cookie : Int), .bool M.n.gone, .slice mx wl wc] 30)
          have h716 := ((HAb.out.below hbd HAb.out.lt).alloc (.cells #[.slice yl ml kl, .slice yc mc kc] 38)).alloc (.cells #[.int .i64 M.fr, .int .i64 M.to, .int .i64 M.kd, .int .i64 M.vo, .int .i64 M.li, .int .u64 (M.id : Int), .int .i64 M.co, .bool M.has, .int .u64 (M.n.key : Int), .int .u32 (M.n.cookie : Int), .bool M.n.gone, .slice mx wl wc] 30)
          have h816 := (Blk.new wd #[.slice yl ml kl, .slice yc mc kc] 38).alloc (.cells #[.int .i64 M.fr, .int .i64 M.to, .int .i64 M.kd, .int .i64 M.vo, .int .i64 M.li, .int .u64 (M.id : Int), .int .i64 M.co, .bool M.has, .int .u64 (M.n.key : Int), .int .u32 (M.n.cookie : Int), .bool M.n.gone, .slice mx wl wc] 30)
          have h916 := Blk.new (wd.alloc (.cells #[.slice yl ml kl, .slice yc mc kc] 38)) #[.int .i64 M.fr, .int .i64 M.to, .int .i64 M.kd, .int .i64 M.vo, .int .i64 M.li, .int .u64 (M.id : Int), .int .i64 M.co, .bool M.has, .int .u64 (M.n.key : Int), .int .u32 (M.n.cookie : Int), .bool M.n.gone, .slice mx wl wc] 30
          rw [show (wd.alloc (.cells #[.slice yl ml kl, .slice yc mc kc] 38)).heap.size = wd.heap.size + 1 by simp] at h916
          have hbb : Below wd.heap.size wd ((wd.alloc (.cells #[.slice yl ml kl, .slice yc mc kc] 38)).alloc (.cells #[.int .i64 M.fr, .int .i64 M.to, .int .i64 M.kd, .int .i64 M.vo, .int .i64 M.li, .int .u64 (M.id : Int), .int .i64 M.co, .bool M.has, .int .u64 (M.n.key : Int), .int .u32 (M.n.cookie : Int), .bool M.n.gone, .slice mx wl wc] 30)) := ((Below.refl _ _).alloc (Nat.le_refl _) _).alloc (by simp) _
          have hl16 := hIM.1.mono hbb (Nat.le_refl _)
          rw [hl'] at hl16
          have hc16 : IsC _ _ cs' := IsX.mono hIC hbb (Nat.le_refl _)
          have HLD := Lib.hid (show ∀ b, liesX (.slice yl ml kl) ml b → b < wd.heap.size from fun b hb => hIM.1.lies_lt (by decide) (by rw [hl']; exact hb))
          have HCD := Lib.hid (show ∀ b, liesX (.slice yc mc kc) mc b → b < wd.heap.size from fun b hb => IsX.lies_lt hIC (by decide) (by rw [hc']; exact hb))
          have hN8 : ¬ S wd.heap.size := (HHb.out.below hbd).new (Nat.le_refl _)
          have hN9 : ¬ S (wd.heap.size + 1) := (HHb.out.below hbd).new (Nat.le_succ _)
          obtain ⟨w16, hw16⟩ : ∃ z, (wd.alloc (.cells #[.slice yl ml kl, .slice yc mc kc] 38)).alloc (.cells #[.int .i64 M.fr, .int .i64 M.to, .int .i64 M.kd, .int .i64 M.vo, .int .i64 M.li, .int .u64 (M.id : Int), .int .i64 M.co, .bool M.has, .int .u64 (M.n.key : Int), .int .u32 (M.n.cookie : Int), .bool M.n.gone, .slice mx wl wc] 30) = z := ⟨_, rfl⟩
          obtain ⟨X8, hX8⟩ : ∃ z, wd.heap.size = z := ⟨_, rfl⟩
          rw [hw16] at hH16 h516 h716 h816 h916 hl16 hc16
          rw [hX8] at h816 h916 hN8 hN9 HSZB HLD HCD
          have HW16 := Lib.hid hw16
          have HX8 := Lib.hid hX8
          have HH16 := Lib.hid hH16
          have H516 := Lib.hid h516
          have H716 := Lib.hid h716
          have H816 := Lib.hid h816
          have H916 := Lib.hid h916
          have HL16 := Lib.hid hl16
          have HC16 := Lib.hid hc16
          have HN8 := Lib.hid hN8
          have HN9 := Lib.hid hN9
          clear hbb hw16 hX8 hH16 h516 h716 h816 h916 hl16 hc16 hN8 hN9 hbd hMe hl' hc' hIM hIC hDN1 hmem hMm hLL1 hCC1 p0 p1
          clear a0 a1 a2 a3 a4 a5 a6 a7 a8 a9 a10 a11 a12 a13 a14
          go_upto_region 17 with fail
          try rw [HW16.out]
          try rw [HX8.out]
          have hk17 : Kept (fun q => q = X5) w16 ((w16.setCell ⟨X5, 0, none⟩ (.slice yl ml kl)).setCell ⟨X5, 1, none⟩ (.slice yc mc kc)) := ((Kept.refl (fun q => q = X5) w16).setCell (p := ⟨X5, 0, none⟩) (.inl rfl) _).setCell (p := ⟨X5, 1, none⟩) (.inl rfl) _
          have h517 := (H516.out.set 0 (.slice yl ml kl)).set 1 (.slice yc mc kc)
          simp at h517
          have HLT := Lib.hid (show X5 < X8 ∧ X7 < X8 ∧ X5 ≠ X7 from by have := HSZB.out; omega)
          have hH17 := HH16.out.turned hk17 (fun q hq e => HSX.out (e ▸ hq)) (fun q e => by rw [e]; exact HWX.out)
          have h717 := H716.out.kept hk17 (fun e => by have := HLT.out; omega)
          have h917 := H916.out.kept hk17 (fun e => by have := HLT.out; omega)
          have hl17 := HL16.out.kept hk17 (fun b hb => (HSL1.out b hb).2)
          have hc17 : IsC _ _ cs' := IsX.kept HC16.out hk17 (fun b hb => (HSC1.out b (by rw [HLC1.out] at hb; exact hb)).2)
          have p0 := H816.out.cell 0 rfl
          have p1 := H816.out.cell 1 rfl
          have q0 := H516.out.cell 0 rfl
          have q1 := H516.out.cell 1 rfl
          have qf := fun j => H516.out.free j
          obtain ⟨w17, hw17⟩ : ∃ z, (w16.setCell ⟨X5, 0, none⟩ (.slice yl ml kl)).setCell ⟨X5, 1, none⟩ (.slice yc mc kc) = z := ⟨_, rfl⟩
          rw [hw17] at h517 hH17 h717 h917 hl17 hc17
          have hs17 : w17.heap.size = w16.heap.size := by rw [← hw17]; simp [World.setCell]
          have h918 := H916.out.lt
          have HW17 := Lib.hid hw17
          have hlc : Lc X5 X7 (X8 + 1) w17.heap.size #[.slice yl ml kl, .slice yc mc kc] #[.int .i64 ak, .int .i64 ai, .int .i64 aK, .int .i64 m.fr, .int .i64 m.to, .int .i64 m.kd, .int .i64 m.vo, .int .i64 m.li, .int .u64 (m.id : Int), .int .i64 m.co, .bool m.has, .int .u64 (m.n.key : Int), .int .u32 (m.n.cookie : Int), .bool m.n.gone, .slice dx dl dc] #[.int .i64 M.fr, .int .i64 M.to, .int .i64 M.kd, .int .i64 M.vo, .int .i64 M.li, .int .u64 (M.id : Int), .int .i64 M.co, .bool M.has, .int .u64 (M.n.key : Int), .int .u32 (M.n.cookie : Int), .bool M.n.gone, .slice mx wl wc] #[.int .i64 0, .int .i64 0, .int .i64 0, .int .i64 0, .int .i64 0, .int .u64 0, .int .i64 0, .bool false, .int .u64 0, .int .u32 0, .bool false, .slice none 0 0] (.slice yl ml kl) ml l' (.slice yc mc kc) cs' (w17.alloc (.cells #[.int .i64 0, .int .i64 0, .int .i64 0, .int .i64 0, .int .i64 0, .int .u64 0, .int .i64 0, .bool false, .int .u64 0, .int .u32 0, .bool false, .slice none 0 0] 43)) S :=
            ⟨h517.alloc _, h717.alloc _, h917.alloc _, Blk.new w17 _ _, hl17.mono (below_new15 w17 _) (Nat.le_refl _), IsX.mono hc17 (below_new15 w17 _) (Nat.le_refl _), fun b hb => (HSL1.out b hb).1, fun b hb => (HSC1.out b (by rw [HLC1.out] at hb; exact hb)).1, HSX.out, HNX7.out, HN9.out, hH17.new (Nat.le_refl _)⟩
          have hH18 := hH17.alloc (.cells #[.int .i64 0, .int .i64 0, .int .i64 0, .int .i64 0, .int .i64 0, .int .u64 0, .int .i64 0, .bool false, .int .u64 0, .int .u32 0, .bool false, .slice none 0 0] 43)
          have HX11 := Lib.hid (show X8 + 1 < w17.heap.size by omega)
          obtain ⟨w18, hw18⟩ : ∃ z, w17.alloc (.cells #[.int .i64 0, .int .i64 0, .int .i64 0, .int .i64 0, .int .i64 0, .int .u64 0, .int .i64 0, .bool false, .int .u64 0, .int .u32 0, .bool false, .slice none 0 0] 43) = z := ⟨_, rfl⟩
          obtain ⟨X11, hX11⟩ : ∃ z, w17.heap.size = z := ⟨_, rfl⟩
          rw [hw18, hX11] at hlc
          rw [hw18] at hH18
          rw [hX11] at HX11
          have HW18 := Lib.hid hw18
          have HXE := Lib.hid hX11
          have HLC0 := Lib.hid hlc
          have HH18 := Lib.hid hH18
          clear hk17 h517 hH17 h717 h917 hl17 hc17 hw17 hs17 h918 hlc hH18 hw18 hX11
          go_upto_region 18 with fail
          try rw [HW17.out]
          clear p0 p1 q0 q1 qf
          go_upto_region 20 with fail
          try rw [HW18.out]
          try rw [HXE.out]
          clear HHr HDN HLL HLC HBX HRL HRD HXS HRC HSL HSC HHb HB5b HAb HNX7 HX57 HWB HX7 HDO HCL1 HW16 HX8 HH16 H516 H716 H816 H916 HL16 HC16 HN8 HN9 HW17 HW18 HXE HSX
          have a0 := HLC0.out.b7.cell 0 rfl
          have a1 := HLC0.out.b7.cell 1 rfl
          have a2 := HLC0.out.b7.cell 2 rfl
          have a3 := HLC0.out.b7.cell 3 rfl
          have a4 := HLC0.out.b7.cell 4 rfl
          have a5 := HLC0.out.b7.cell 5 rfl
          have a6 := HLC0.out.b7.cell 6 rfl
          have a7 := HLC0.out.b7.cell 7 rfl
          have a8 := HLC0.out.b7.cell 8 rfl
          have a9 := HLC0.out.b7.cell 9 rfl
          have a10 := HLC0.out.b7.cell 10 rfl
          have a11 := HLC0.out.b7.cell 11 rfl
          have a12 := HLC0.out.b7.cell 12 rfl
          have a13 := HLC0.out.b7.cell 13 rfl
          have a14 := HLC0.out.b7.cell 14 rfl
          go_upto_block 4 with fail
          go_cut [12] from 76 to 143 (fun q12 wx => ∃ (S1 : Nat → Prop) (gx : Option Addr) (gl gc : Nat), q12 = cerr KK ∧ Hid (Hd w wx g S1 n1 (i' + 1)) ∧ Hid (Lc X5 X7 (X8 + 1) X11 #[.slice yl ml kl, .slice yc mc kc] #[.int .i64 ak, .int .i64 ai, .int .i64 aK, .int .i64 m.fr, .int .i64 m.to, .int .i64 m.kd, .int .i64 m.vo, .int .i64 m.li, .int .u64 (m.id : Int), .int .i64 m.co, .bool m.has, .int .u64 (m.n.key : Int), .int .u32 (m.n.cookie : Int), .bool m.n.gone, .slice dx dl dc] #[.int .i64 M.fr, .int .i64 M.to, .int .i64 M.kd, .int .i64 M.vo, .int .i64 M.li, .int .u64 (M.id : Int), .int .i64 M.co, .bool M.has, .int .u64 (M.n.key : Int), .int .u32 (M.n.cookie : Int), .bool M.n.gone, .slice mx wl wc] #[.int .i64 M.fr, .int .i64 M.to, .int .i64 M.kd, .int .i64 M.vo, .int .i64 M.li, .int .u64 (M.id : Int), .int .i64 M.co, .bool M.has, .int .u64 (M.n.key : Int), .int .u32 (M.n.cookie : Int), .bool M.n.gone, .slice gx gl gc] (.slice yl ml kl) ml l' (.slice yc mc kc) cs' wx S1) ∧ Hid (IsB wx (.slice gx gl gc) M.n.data))
          case first =>
            by_cases hk0 : ak = 0
            · subst hk0
              as_aux_lemma =>
                have HMZ := Lib.hid (show M = mz from HME.out)
                go_wp2_with fail
                refine (of_any14 m dx dl dc _).mono ?_
                rintro e wo ⟨rfl, hb⟩
                have HHo := Lib.hid (HH18.out.below hb)
                have HLo := Lib.hid (HLC0.out.below hb)
                have hs := nsend_any m dx dl dc wo (HH18.out.below hb).nt (HDB.out.mono (HH18.out.below hb).bel (Nat.le_refl _)) HF.out HID.out
                rw [← doK_0 n ai aK m, HKK.out, ← doN_0 n ai aK m, HN1.out] at hs
                have HS := Lib.hid hs
                clear hb hs a0 a1 a2 a3 a4 a5 a6 a7 a8 a9 a10 a11 a12 a13 a14
                go_wp2_with fail
                refine HS.out.mono ?_
                rintro e wz ⟨rfl, ht⟩
                obtain ⟨S1, h1, hk1, hs1⟩ := HHo.out.call ht
                have HH1 := Lib.hid h1
                have HL1 := Lib.hid (HLo.out.call hk1 hs1)
                clear ht h1 hk1 hs1
                go_wp2
                go_meet
                exact ⟨S1, none, 0, 0, rfl, Lib.hid (HH1.out.more (by omega)), Lib.hid (by rw [HMZ.out]; rw [HMZ.out] at HL1; exact HL1.out), Lib.hid (by rw [HMZ.out]; exact IsB.nil _)⟩
            · have kk0 : (ak == 0) = false := beq_eq_false_iff_ne.2 hk0
              have HK0 := Lib.hid hk0
              clear hk0
              by_cases hk1 : ak = 1
              · subst hk1
                as_aux_lemma =>
                  have HMT := Lib.hid (show M = takeM n ai from HME.out)
                  have hs := ntake_any ai w18 HH18.out.nt
                  rw [← doK_1 n ai aK m, HKK.out, ← doN_1 n ai aK m, HN1.out, ← HMT.out] at hs
                  have HS := Lib.hid hs
                  clear hs
                  go_wp2_with fail
                  refine HS.out.mono ?_
                  rintro e wz ⟨tx, tc, rfl, hf2, hl2, ht⟩
                  clear a0 a1 a2 a3 a4 a5 a6 a7 a8 a9 a10 a11 a12 a13 a14
                  obtain ⟨S1, h1, hk1, hs1⟩ := HH18.out.call ht
                  have HH1 := Lib.hid h1
                  have HL1 := Lib.hid (HLC0.out.call hk1 hs1)
                  clear ht h1 hk1 hs1
                  have hX18 := HLC0.out.b11.lt
                  have HNE := Lib.hid (show (∀ b, liesX (.slice yl ml kl) ml b → b ≠ X11) ∧ (∀ b, liesX (.slice yc mc kc) cs'.length b → b ≠ X11) from ⟨fun b hb e => by have h8 := HLD.out b hb; have h9 := HX11.out; omega, fun b hb e => by rw [HLC1.out] at hb; have h8 := HCD.out b hb; have h9 := HX11.out; omega⟩)
                  have HFB := Lib.hid (And.intro hf2.1 (show ∀ b, liesB (.slice tx M.n.data.length tc) M.n.data b → b ≠ X11 from fun b hb e => by have h8 := hl2 b hb; omega))
                  clear hX18 hf2 hl2
                  go_wp2_with (refine wpList_store12 rfl 43 Try.sizeWM15 (.tmp 11) (.tmp 90) rfl X11 _ HL1.out.b11 rfl rfl ?_)
                  intro wf hbf hkf
                  have HL2 := Lib.hid (HL1.out.set11 hbf hkf (by have h8 := HLT.out; have h9 := HX11.out; omega) (by have h8 := HLT.out; have h9 := HX11.out; omega) (by have h9 := HX11.out; omega) HNE.out.1 HNE.out.2)
                  have HH2 := Lib.hid ((HH1.out.turned hkf (fun q hq e => HL1.out.n11 (e ▸ hq)) (fun q e => by have h8 := HLT.out; have h9 := HX11.out; have h7 := HWX.out; omega)).more (K' := i' + 1) (by omega))
                  have HG2 := Lib.hid (HFB.out.1.kept hkf (fun b hb e => HFB.out.2 b hb e))
                  clear hbf hkf
                  go_wp2
                  go_meet
                  exact ⟨S1, tx, M.n.data.length, tc, rfl, HH2, HL2, HG2⟩
              · have kk1 : (ak == 1) = false := beq_eq_false_iff_ne.2 hk1
                have HK1 := Lib.hid hk1
                clear hk1
                by_cases hk2 : ak = 2
                · subst hk2
                  as_aux_lemma =>
                    have HMZ := Lib.hid (show M = mz from HME.out)
                    have hs := nlose_any ai w18 HH18.out.nt
                    rw [← doK_2 n ai aK m, HKK.out, ← doN_2 n ai aK m, HN1.out] at hs
                    have HS := Lib.hid hs
                    clear hs
                    go_wp2_with fail
                    refine HS.out.mono ?_
                    rintro e wz ⟨rfl, ht⟩
                    clear a0 a1 a2 a3 a4 a5 a6 a7 a8 a9 a10 a11 a12 a13 a14
                    obtain ⟨S1, h1, hk1, hs1⟩ := HH18.out.call ht
                    have HH1 := Lib.hid h1
                    have HL1 := Lib.hid (HLC0.out.call hk1 hs1)
                    clear ht h1 hk1 hs1
                    go_wp2
                    go_meet
                    exact ⟨S1, none, 0, 0, rfl, Lib.hid (HH1.out.more (by omega)), Lib.hid (by rw [HMZ.out]; rw [HMZ.out] at HL1; exact HL1.out), Lib.hid (by rw [HMZ.out]; exact IsB.nil _)⟩
                · have kk2 : (ak == 2) = false := beq_eq_false_iff_ne.2 hk2
                  have HK2 := Lib.hid hk2
                  clear hk2
                  by_cases hk3 : ak = 3
                  · subst hk3
                    as_aux_lemma =>
                      have HMZ := Lib.hid (show M = mz from HME.out)
                      have hs := ntwice_any ai w18 HH18.out.nt
                      rw [← doK_3 n ai aK m, HKK.out, ← doN_3 n ai aK m, HN1.out] at hs
                      have HS := Lib.hid hs
                      clear hs
                      go_wp2_with fail
                      refine HS.out.mono ?_
                      rintro e wz ⟨rfl, ht⟩
                      clear a0 a1 a2 a3 a4 a5 a6 a7 a8 a9 a10 a11 a12 a13 a14
                      obtain ⟨S1, h1, hk1, hs1⟩ := HH18.out.call ht
                      have HH1 := Lib.hid h1
                      have HL1 := Lib.hid (HLC0.out.call hk1 hs1)
                      clear ht h1 hk1 hs1
                      go_wp2
                      go_meet
                      exact ⟨S1, none, 0, 0, rfl, Lib.hid (HH1.out.more (by omega)), Lib.hid (by rw [HMZ.out]; rw [HMZ.out] at HL1; exact HL1.out), Lib.hid (by rw [HMZ.out]; exact IsB.nil _)⟩
                  · have kk3 : (ak == 3) = false := beq_eq_false_iff_ne.2 hk3
                    have HK3 := Lib.hid hk3
                    clear hk3
                    by_cases hk4 : ak = 4
                    · subst hk4
                      as_aux_lemma =>
                        have HMZ := Lib.hid (show M = mz from HME.out)
                        have hs := ncut_any ai aK true w18 HH18.out.nt (by unfold maxLen; omega) HWI.out HWK.out
                        rw [← doK_4 n ai aK m, HKK.out, ← doN_4 n ai aK m, HN1.out] at hs
                        have HS := Lib.hid hs
                        clear hs
                        go_wp2_with fail
                        refine HS.out.mono ?_
                        rintro e wz ⟨rfl, ht⟩
                        clear a0 a1 a2 a3 a4 a5 a6 a7 a8 a9 a10 a11 a12 a13 a14
                        obtain ⟨S1, h1, hk1, hs1⟩ := HH18.out.call ht
                        have HH1 := Lib.hid h1
                        have HL1 := Lib.hid (HLC0.out.call hk1 hs1)
                        clear ht h1 hk1 hs1
                        have HNC := Lib.hid (show n1.c = cs' from by rw [← HDN1.out]; rfl)
                        obtain ⟨R, hR⟩ : ∃ z, apartP n1.c ai aK = z := ⟨_, rfl⟩
                        have hR2 : apartP n1.c aK ai = R := by rw [apartP_comm]; exact hR
                        have HA1 := Lib.hid (fun (wx : World) (hb : Below wz.heap.size wz wx) => show Calls Try.prog 16 #[.pointer (some ⟨g, 0, none⟩), .int .i64 ai, .int .i64 aK] wx fun e w' => e = .returned (.bool R) ∧ Below wx.heap.size wx w' from by
                          have h9 := napart_any ai aK wx (HH1.out.below hb).nt HWI.out HWK.out
                          rwa [hR] at h9)
                        have HA3 := Lib.hid (fun (wx : World) (hb : Below wz.heap.size wz wx) => show Calls Try.prog 16 #[.pointer (some ⟨g, 0, none⟩), .int .i64 aK, .int .i64 ai] wx fun e w' => e = .returned (.bool R) ∧ Below wx.heap.size wx w' from by
                          have h9 := napart_any aK ai wx (HH1.out.below hb).nt HWK.out HWI.out
                          rwa [hR2] at h9)
                        have HA2 := Lib.hid (fun (wx : World) (hb : Below wz.heap.size wz wx) => show Calls Try.prog 17 #[.agg #[.slice yl ml kl, .slice yc mc kc], .int .i64 ai, .int .i64 aK] wx fun e w' => e = .returned (.bool R) ∧ Below wx.heap.size wx w' from by
                          have h9 := rapart_any yl ml kl yc kc cs' ai aK wx (by rw [HLC1.out]; exact (HL1.out.below hb).rc) (by have h8 := HMC.out; rw [HLC1.out]; omega)
                          rw [HLC1.out, ← HNC.out, hR] at h9
                          exact h9)
                        have kR : (R != R) = false := by simp
                        have HC7 := Lib.hid (fun (wx : World) (hb : Below wz.heap.size wz wx) => show wx.cell? ⟨X7, 1, none⟩ = some (.int .i64 ai) ∧ wx.cell? ⟨X7, 2, none⟩ = some (.int .i64 aK) ∧ wx.cell? ⟨X5, 0, none⟩ = some (.slice yl ml kl) ∧ wx.cell? ⟨X5, 1, none⟩ = some (.slice yc mc kc) from
                          have h := HL1.out.below hb
                          ⟨h.b7.cell 1 rfl, h.b7.cell 2 rfl, h.b5.cell 0 rfl, h.b5.cell 1 rfl⟩)
                        have HUX := Lib.hid (show Below wz.heap.size wz wz.drew from (Below.refl _ _).drew)
                        clear hR hR2
                        go_upto_region 32 with fail
                        refine wp_region_held_drew (S := (fun wx => Below wz.heap.size wz wx)) (by kernel_rfl) (HUX.out) (fun hHeld => ?_)
                        obtain ⟨q0w, hq0w⟩ : ∃ q, wz.drew = q := ⟨_, rfl⟩
                        rw [hq0w] at HUX hHeld
                        rw [hq0w]
                        clear hq0w
                        refine wpAnyH_take (i := 0) (v := ?_) rfl (by kernel_rfl) (by kernel_rfl) (by kernel_rfl) (fun _ _ _ h => h) (Or.inl ⟨by rfl, ?_⟩) (by assumption) ?_
                        rotate_left 1
                        · intro w hSw
                          (try dsimp only at hSw)
                          go_simp
                          all_goals (with_reducible rfl)
                        try simp only [Act.put, List.getElem_toArray, List.getElem_cons_zero, List.getElem_cons_succ, List.setIfInBounds_toArray, List.set_cons_zero, List.set_cons_succ]
                        refine wpAnyH_take (i := 1) (v := ?_) rfl (by kernel_rfl) (by kernel_rfl) (by kernel_rfl) (fun _ _ _ h => h) (Or.inl ⟨by rfl, ?_⟩) (by assumption) ?_
                        rotate_left 1
                        · intro w hSw
                          (try dsimp only at hSw)
                          go_simp
                          all_goals (with_reducible rfl)
                        try simp only [Act.put, List.getElem_toArray, List.getElem_cons_zero, List.getElem_cons_succ, List.setIfInBounds_toArray, List.set_cons_zero, List.set_cons_succ]
                        refine wpAnyH_take (i := 2) (v := ?_) rfl (by kernel_rfl) (by kernel_rfl) (by kernel_rfl) (fun _ _ _ h => h) (Or.inl ⟨by rfl, ?_⟩) (by assumption) ?_
                        rotate_left 1
                        · intro w hSw
                          obtain ⟨p1, p2, p3, p4⟩ := HC7.out w hSw
                          go_simp
                          all_goals (with_reducible rfl)
                        try simp only [Act.put, List.getElem_toArray, List.getElem_cons_zero, List.getElem_cons_succ, List.setIfInBounds_toArray, List.set_cons_zero, List.set_cons_succ]
                        refine wpAnyH_take (i := 3) (v := ?_) rfl (by kernel_rfl) (by kernel_rfl) (by kernel_rfl) (fun _ _ _ h => h) (Or.inl ⟨by rfl, ?_⟩) (by assumption) ?_
                        rotate_left 1
                        · intro w hSw
                          (try dsimp only at hSw)
                          go_simp
                          all_goals (with_reducible rfl)
                        try simp only [Act.put, List.getElem_toArray, List.getElem_cons_zero, List.getElem_cons_succ, List.setIfInBounds_toArray, List.set_cons_zero, List.set_cons_succ]
                        refine wpAnyH_take (i := 4) (v := ?_) rfl (by kernel_rfl) (by kernel_rfl) (by kernel_rfl) (fun _ _ _ h => h) (Or.inl ⟨by rfl, ?_⟩) (by assumption) ?_
                        rotate_left 1
                        · intro w hSw
                          obtain ⟨p1, p2, p3, p4⟩ := HC7.out w hSw
                          go_simp
                          all_goals (with_reducible rfl)
                        try simp only [Act.put, List.getElem_toArray, List.getElem_cons_zero, List.getElem_cons_succ, List.setIfInBounds_toArray, List.set_cons_zero, List.set_cons_succ]
                        refine wpAnyH_take (i := 6) (v := ?_) rfl (by kernel_rfl) (by kernel_rfl) (by kernel_rfl) (fun _ _ _ h => h) (Or.inl ⟨by rfl, ?_⟩) (by assumption) ?_
                        rotate_left 1
                        · intro w hSw
                          obtain ⟨p1, p2, p3, p4⟩ := HC7.out w hSw
                          go_simp
                          all_goals (with_reducible rfl)
                        try simp only [Act.put, List.getElem_toArray, List.getElem_cons_zero, List.getElem_cons_succ, List.setIfInBounds_toArray, List.set_cons_zero, List.set_cons_succ]
                        refine wpAnyH_take (i := 7) (v := ?_) rfl (by kernel_rfl) (by kernel_rfl) (by kernel_rfl) (fun _ _ _ h => h) (Or.inl ⟨by rfl, ?_⟩) (by assumption) ?_
                        rotate_left 1
                        · intro w hSw
                          (try dsimp only at hSw)
                          go_simp
                          all_goals (with_reducible rfl)
                        try simp only [Act.put, List.getElem_toArray, List.getElem_cons_zero, List.getElem_cons_succ, List.setIfInBounds_toArray, List.set_cons_zero, List.set_cons_succ]
                        refine wpAnyH_take (i := 8) (v := ?_) rfl (by kernel_rfl) (by kernel_rfl) (by kernel_rfl) (fun _ _ _ h => h) (Or.inl ⟨by rfl, ?_⟩) (by assumption) ?_
                        rotate_left 1
                        · intro w hSw
                          obtain ⟨p1, p2, p3, p4⟩ := HC7.out w hSw
                          go_simp
                          all_goals (with_reducible rfl)
                        try simp only [Act.put, List.getElem_toArray, List.getElem_cons_zero, List.getElem_cons_succ, List.setIfInBounds_toArray, List.set_cons_zero, List.set_cons_succ]
                        refine wpAnyH_take (i := 9) (v := ?_) rfl (by kernel_rfl) (by kernel_rfl) (by kernel_rfl) (fun _ _ _ h => h) (Or.inl ⟨by rfl, ?_⟩) (by assumption) ?_
                        rotate_left 1
                        · intro w hSw
                          (try dsimp only at hSw)
                          go_simp
                          all_goals (with_reducible rfl)
                        try simp only [Act.put, List.getElem_toArray, List.getElem_cons_zero, List.getElem_cons_succ, List.setIfInBounds_toArray, List.set_cons_zero, List.set_cons_succ]
                        refine wpAnyH_take (i := 10) (v := ?_) rfl (by kernel_rfl) (by kernel_rfl) (by kernel_rfl) (fun _ _ _ h => h) (Or.inl ⟨by rfl, ?_⟩) (by assumption) ?_
                        rotate_left 1
                        · intro w hSw
                          obtain ⟨p1, p2, p3, p4⟩ := HC7.out w hSw
                          go_simp
                          all_goals (with_reducible rfl)
                        try simp only [Act.put, List.getElem_toArray, List.getElem_cons_zero, List.getElem_cons_succ, List.setIfInBounds_toArray, List.set_cons_zero, List.set_cons_succ]
                        refine wpAnyH_ready (rs := [5]) (by kernel_rfl) (by simp) ?_
                        refine AllReadyH.cons rfl (fun K hK => ?_) AllReadyH.nil
                        go_simp
                        refine (HA1.out _ HUX.out).mono ?_
                        rintro e u1 ⟨rfl, hbx⟩
                        have HUn := Lib.hid (HUX.out.trans (hbx.mono HUX.out.size))
                        clear hbx HUX
                        have HUX := HUn
                        clear HUn
                        refine hK.out _ _ (by first | exact hHeld | exact HUX.out) (fun hHeld => ?_)
                        clear hK K
                        try simp only [Act.put, List.getElem_toArray, List.getElem_cons_zero, List.getElem_cons_succ, List.setIfInBounds_toArray, List.set_cons_zero, List.set_cons_succ]
                        refine wpAnyH_ready (rs := [11]) (by kernel_rfl) (by simp) ?_
                        refine AllReadyH.cons rfl (fun K hK => ?_) AllReadyH.nil
                        go_simp
                        refine (HA2.out _ HUX.out).mono ?_
                        rintro e u1 ⟨rfl, hbx⟩
                        have HUn := Lib.hid (HUX.out.trans (hbx.mono HUX.out.size))
                        clear hbx HUX
                        have HUX := HUn
                        clear HUn
                        refine hK.out _ _ (by first | exact hHeld | exact HUX.out) (fun hHeld => ?_)
                        clear hK K
                        try simp only [Act.put, List.getElem_toArray, List.getElem_cons_zero, List.getElem_cons_succ, List.setIfInBounds_toArray, List.set_cons_zero, List.set_cons_succ]
                        refine wpAnyH_take (i := 12) (v := ?_) rfl (by kernel_rfl) (by kernel_rfl) (by kernel_rfl) (fun _ _ _ h => h) (Or.inl ⟨by rfl, ?_⟩) (by assumption) ?_
                        rotate_left 1
                        · intro w hSw
                          (try dsimp only at hSw)
                          go_simp
                          all_goals (with_reducible rfl)
                        try simp only [Act.put, List.getElem_toArray, List.getElem_cons_zero, List.getElem_cons_succ, List.setIfInBounds_toArray, List.set_cons_zero, List.set_cons_succ]
                        refine wpAnyH_take (i := 13) (v := ?_) rfl (by kernel_rfl) (by kernel_rfl) (by kernel_rfl) (fun _ _ _ h => h) (Or.inl ⟨by rfl, ?_⟩) (by assumption) ?_
                        rotate_left 1
                        · intro w hSw
                          (try dsimp only at hSw)
                          go_simp
                          all_goals (with_reducible rfl)
                        try simp only [Act.put, List.getElem_toArray, List.getElem_cons_zero, List.getElem_cons_succ, List.setIfInBounds_toArray, List.set_cons_zero, List.set_cons_succ]
                        refine wpAnyH_take (i := 14) (v := ?_) rfl (by kernel_rfl) (by kernel_rfl) (by kernel_rfl) (fun _ _ _ h => h) (Or.inl ⟨by rfl, ?_⟩) (by assumption) ?_
                        rotate_left 1
                        · intro w hSw
                          (try dsimp only at hSw)
                          go_simp
                          all_goals (with_reducible rfl)
                        try simp only [Act.put, List.getElem_toArray, List.getElem_cons_zero, List.getElem_cons_succ, List.setIfInBounds_toArray, List.set_cons_zero, List.set_cons_succ]
                        refine wpAnyH_take (i := 15) (v := ?_) rfl (by kernel_rfl) (by kernel_rfl) (by kernel_rfl) (fun _ _ _ h => h) (Or.inl ⟨by rfl, ?_⟩) (by assumption) ?_
                        rotate_left 1
                        · intro w hSw
                          (try dsimp only at hSw)
                          go_simp
                          all_goals (with_reducible rfl)
                        try simp only [Act.put, List.getElem_toArray, List.getElem_cons_zero, List.getElem_cons_succ, List.setIfInBounds_toArray, List.set_cons_zero, List.set_cons_succ]
                        refine wpAnyH_take (i := 16) (v := ?_) rfl (by kernel_rfl) (by kernel_rfl) (by kernel_rfl) (fun _ _ _ h => h) (Or.inl ⟨by rfl, ?_⟩) (by assumption) ?_
                        rotate_left 1
                        · intro w hSw
                          obtain ⟨p1, p2, p3, p4⟩ := HC7.out w hSw
                          go_simp
                          all_goals (with_reducible rfl)
                        try simp only [Act.put, List.getElem_toArray, List.getElem_cons_zero, List.getElem_cons_succ, List.setIfInBounds_toArray, List.set_cons_zero, List.set_cons_succ]
                        refine wpAnyH_take (i := 17) (v := ?_) rfl (by kernel_rfl) (by kernel_rfl) (by kernel_rfl) (fun _ _ _ h => h) (Or.inl ⟨by rfl, ?_⟩) (by assumption) ?_
                        rotate_left 1
                        · intro w hSw
                          (try dsimp only at hSw)
                          go_simp
                          all_goals (with_reducible rfl)
                        try simp only [Act.put, List.getElem_toArray, List.getElem_cons_zero, List.getElem_cons_succ, List.setIfInBounds_toArray, List.set_cons_zero, List.set_cons_succ]
                        refine wpAnyH_take (i := 18) (v := ?_) rfl (by kernel_rfl) (by kernel_rfl) (by kernel_rfl) (fun _ _ _ h => h) (Or.inl ⟨by rfl, ?_⟩) (by assumption) ?_
                        rotate_left 1
                        · intro w hSw
                          obtain ⟨p1, p2, p3, p4⟩ := HC7.out w hSw
                          go_simp
                          all_goals (with_reducible rfl)
                        try simp only [Act.put, List.getElem_toArray, List.getElem_cons_zero, List.getElem_cons_succ, List.setIfInBounds_toArray, List.set_cons_zero, List.set_cons_succ]
                        refine wpAnyH_take (i := 20) (v := ?_) rfl (by kernel_rfl) (by kernel_rfl) (by kernel_rfl) (fun _ _ _ h => h) (Or.inl ⟨by rfl, ?_⟩) (by assumption) ?_
                        rotate_left 1
                        · intro w hSw
                          (try dsimp only at hSw)
                          go_simp
                          all_goals (with_reducible rfl)
                        try simp only [Act.put, List.getElem_toArray, List.getElem_cons_zero, List.getElem_cons_succ, List.setIfInBounds_toArray, List.set_cons_zero, List.set_cons_succ]
                        refine wpAnyH_take (i := 21) (v := ?_) rfl (by kernel_rfl) (by kernel_rfl) (by kernel_rfl) (fun _ _ _ h => h) (Or.inl ⟨by rfl, ?_⟩) (by assumption) ?_
                        rotate_left 1
                        · intro w hSw
                          (try dsimp only at hSw)
                          go_simp
                          all_goals (with_reducible rfl)
                        try simp only [Act.put, List.getElem_toArray, List.getElem_cons_zero, List.getElem_cons_succ, List.setIfInBounds_toArray, List.set_cons_zero, List.set_cons_succ]
                        refine wpAnyH_take (i := 22) (v := ?_) rfl (by kernel_rfl) (by kernel_rfl) (by kernel_rfl) (fun _ _ _ h => h) (Or.inl ⟨by rfl, ?_⟩) (by assumption) ?_
                        rotate_left 1
                        · intro w hSw
                          obtain ⟨p1, p2, p3, p4⟩ := HC7.out w hSw
                          go_simp
                          all_goals (with_reducible rfl)
                        try simp only [Act.put, List.getElem_toArray, List.getElem_cons_zero, List.getElem_cons_succ, List.setIfInBounds_toArray, List.set_cons_zero, List.set_cons_succ]
                        refine wpAnyH_take (i := 23) (v := ?_) rfl (by kernel_rfl) (by kernel_rfl) (by kernel_rfl) (fun _ _ _ h => h) (Or.inl ⟨by rfl, ?_⟩) (by assumption) ?_
                        rotate_left 1
                        · intro w hSw
                          (try dsimp only at hSw)
                          go_simp
                          all_goals (with_reducible rfl)
                        try simp only [Act.put, List.getElem_toArray, List.getElem_cons_zero, List.getElem_cons_succ, List.setIfInBounds_toArray, List.set_cons_zero, List.set_cons_succ]
                        refine wpAnyH_take (i := 24) (v := ?_) rfl (by kernel_rfl) (by kernel_rfl) (by kernel_rfl) (fun _ _ _ h => h) (Or.inl ⟨by rfl, ?_⟩) (by assumption) ?_
                        rotate_left 1
                        · intro w hSw
                          obtain ⟨p1, p2, p3, p4⟩ := HC7.out w hSw
                          go_simp
                          all_goals (with_reducible rfl)
                        try simp only [Act.put, List.getElem_toArray, List.getElem_cons_zero, List.getElem_cons_succ, List.setIfInBounds_toArray, List.set_cons_zero, List.set_cons_succ]
                        refine wpAnyH_ready (rs := [19]) (by kernel_rfl) (by simp) ?_
                        refine AllReadyH.cons rfl (fun K hK => ?_) AllReadyH.nil
                        go_simp
                        refine (HA3.out _ HUX.out).mono ?_
                        rintro e u1 ⟨rfl, hbx⟩
                        have HUn := Lib.hid (HUX.out.trans (hbx.mono HUX.out.size))
                        clear hbx HUX
                        have HUX := HUn
                        clear HUn
                        refine hK.out _ _ (by first | exact hHeld | exact HUX.out) (fun hHeld => ?_)
                        clear hK K
                        try simp only [Act.put, List.getElem_toArray, List.getElem_cons_zero, List.getElem_cons_succ, List.setIfInBounds_toArray, List.set_cons_zero, List.set_cons_succ]
                        refine wpAnyH_ready (rs := [25]) (by kernel_rfl) (by simp) ?_
                        refine AllReadyH.cons rfl (fun K hK => ?_) AllReadyH.nil
                        go_simp
                        refine (HA1.out _ HUX.out).mono ?_
                        rintro e u1 ⟨rfl, hbx⟩
                        have HUn := Lib.hid (HUX.out.trans (hbx.mono HUX.out.size))
                        clear hbx HUX
                        have HUX := HUn
                        clear HUn
                        refine hK.out _ _ (by first | exact hHeld | exact HUX.out) (fun hHeld => ?_)
                        clear hK K
                        try simp only [Act.put, List.getElem_toArray, List.getElem_cons_zero, List.getElem_cons_succ, List.setIfInBounds_toArray, List.set_cons_zero, List.set_cons_succ]
                        refine wpAnyH_take (i := 26) (v := ?_) rfl (by kernel_rfl) (by kernel_rfl) (by kernel_rfl) (fun _ _ _ h => h) (Or.inl ⟨by rfl, ?_⟩) (by assumption) ?_
                        rotate_left 1
                        · intro w hSw
                          (try dsimp only at hSw)
                          go_simp
                          all_goals (with_reducible rfl)
                        try simp only [Act.put, List.getElem_toArray, List.getElem_cons_zero, List.getElem_cons_succ, List.setIfInBounds_toArray, List.set_cons_zero, List.set_cons_succ]
                        refine wpAnyH_take (i := 27) (v := ?_) rfl (by kernel_rfl) (by kernel_rfl) (by kernel_rfl) (fun _ _ _ h => h) (Or.inl ⟨by rfl, ?_⟩) (by assumption) ?_
                        rotate_left 1
                        · intro w hSw
                          (try dsimp only at hSw)
                          go_simp
                          all_goals (with_reducible rfl)
                        try simp only [Act.put, List.getElem_toArray, List.getElem_cons_zero, List.getElem_cons_succ, List.setIfInBounds_toArray, List.set_cons_zero, List.set_cons_succ]
                        refine wpAnyH_done (by kernel_rfl) ?_ _
                        have HHe := Lib.hid (HH1.out.below HUX.out)
                        have HLe := Lib.hid (HL1.out.below HUX.out)
                        go_wp2
                        go_meet
                        exact ⟨S1, none, 0, 0, rfl, Lib.hid (HHe.out.more (by omega)), Lib.hid (by rw [HMZ.out]; rw [HMZ.out] at HLe; exact HLe.out), Lib.hid (by rw [HMZ.out]; exact IsB.nil _)⟩
                    · have kk4 : (ak == 4) = false := beq_eq_false_iff_ne.2 hk4
                      have HK4 := Lib.hid hk4
                      clear hk4
                      obtain rfl : ak = 5 := by have h9 := HK0.out; have h8 := HK1.out; have h7 := HK2.out; have h6 := HK3.out; have h5 := HK4.out; omega
                      as_aux_lemma =>
                        have HMZ := Lib.hid (show M = mz from HME.out)
                        have hs := ncut_any ai aK false w18 HH18.out.nt (by unfold maxLen; omega) HWI.out HWK.out
                        rw [← doK_5 n ai aK m, HKK.out, ← doN_5 n ai aK m, HN1.out] at hs
                        have HS := Lib.hid hs
                        clear hs
                        go_wp2_with fail
                        refine HS.out.mono ?_
                        rintro e wz ⟨rfl, ht⟩
                        clear a0 a1 a2 a3 a4 a5 a6 a7 a8 a9 a10 a11 a12 a13 a14
                        obtain ⟨S1, h1, hk1, hs1⟩ := HH18.out.call ht
                        have HH1 := Lib.hid h1
                        have HL1 := Lib.hid (HLC0.out.call hk1 hs1)
                        clear ht h1 hk1 hs1
                        have HNC := Lib.hid (show n1.c = cs' from by rw [← HDN1.out]; rfl)
                        obtain ⟨R, hR⟩ : ∃ z, apartP n1.c ai aK = z := ⟨_, rfl⟩
                        have hR2 : apartP n1.c aK ai = R := by rw [apartP_comm]; exact hR
                        have HA1 := Lib.hid (fun (wx : World) (hb : Below wz.heap.size wz wx) => show Calls Try.prog 16 #[.pointer (some ⟨g, 0, none⟩), .int .i64 ai, .int .i64 aK] wx fun e w' => e = .returned (.bool R) ∧ Below wx.heap.size wx w' from by
                          have h9 := napart_any ai aK wx (HH1.out.below hb).nt HWI.out HWK.out
                          rwa [hR] at h9)
                        have HA3 := Lib.hid (fun (wx : World) (hb : Below wz.heap.size wz wx) => show Calls Try.prog 16 #[.pointer (some ⟨g, 0, none⟩), .int .i64 aK, .int .i64 ai] wx fun e w' => e = .returned (.bool R) ∧ Below wx.heap.size wx w' from by
                          have h9 := napart_any aK ai wx (HH1.out.below hb).nt HWK.out HWI.out
                          rwa [hR2] at h9)
                        have HA2 := Lib.hid (fun (wx : World) (hb : Below wz.heap.size wz wx) => show Calls Try.prog 17 #[.agg #[.slice yl ml kl, .slice yc mc kc], .int .i64 ai, .int .i64 aK] wx fun e w' => e = .returned (.bool R) ∧ Below wx.heap.size wx w' from by
                          have h9 := rapart_any yl ml kl yc kc cs' ai aK wx (by rw [HLC1.out]; exact (HL1.out.below hb).rc) (by have h8 := HMC.out; rw [HLC1.out]; omega)
                          rw [HLC1.out, ← HNC.out, hR] at h9
                          exact h9)
                        have kR : (R != R) = false := by simp
                        have HC7 := Lib.hid (fun (wx : World) (hb : Below wz.heap.size wz wx) => show wx.cell? ⟨X7, 1, none⟩ = some (.int .i64 ai) ∧ wx.cell? ⟨X7, 2, none⟩ = some (.int .i64 aK) ∧ wx.cell? ⟨X5, 0, none⟩ = some (.slice yl ml kl) ∧ wx.cell? ⟨X5, 1, none⟩ = some (.slice yc mc kc) from
                          have h := HL1.out.below hb
                          ⟨h.b7.cell 1 rfl, h.b7.cell 2 rfl, h.b5.cell 0 rfl, h.b5.cell 1 rfl⟩)
                        have HUX := Lib.hid (show Below wz.heap.size wz wz.drew from (Below.refl _ _).drew)
                        clear hR hR2
                        go_upto_region 32 with fail
                        refine wp_region_held_drew (S := (fun wx => Below wz.heap.size wz wx)) (by kernel_rfl) (HUX.out) (fun hHeld => ?_)
                        obtain ⟨q0w, hq0w⟩ : ∃ q, wz.drew = q := ⟨_, rfl⟩
                        rw [hq0w] at HUX hHeld
                        rw [hq0w]
                        clear hq0w
                        refine wpAnyH_take (i := 0) (v := ?_) rfl (by kernel_rfl) (by kernel_rfl) (by kernel_rfl) (fun _ _ _ h => h) (Or.inl ⟨by rfl, ?_⟩) (by assumption) ?_
                        rotate_left 1
                        · intro w hSw
                          (try dsimp only at hSw)
                          go_simp
                          all_goals (with_reducible rfl)
                        try simp only [Act.put, List.getElem_toArray, List.getElem_cons_zero, List.getElem_cons_succ, List.setIfInBounds_toArray, List.set_cons_zero, List.set_cons_succ]
                        refine wpAnyH_take (i := 1) (v := ?_) rfl (by kernel_rfl) (by kernel_rfl) (by kernel_rfl) (fun _ _ _ h => h) (Or.inl ⟨by rfl, ?_⟩) (by assumption) ?_
                        rotate_left 1
                        · intro w hSw
                          (try dsimp only at hSw)
                          go_simp
                          all_goals (with_reducible rfl)
                        try simp only [Act.put, List.getElem_toArray, List.getElem_cons_zero, List.getElem_cons_succ, List.setIfInBounds_toArray, List.set_cons_zero, List.set_cons_succ]
                        refine wpAnyH_take (i := 2) (v := ?_) rfl (by kernel_rfl) (by kernel_rfl) (by kernel_rfl) (fun _ _ _ h => h) (Or.inl ⟨by rfl, ?_⟩) (by assumption) ?_
                        rotate_left 1
                        · intro w hSw
                          obtain ⟨p1, p2, p3, p4⟩ := HC7.out w hSw
                          go_simp
                          all_goals (with_reducible rfl)
                        try simp only [Act.put, List.getElem_toArray, List.getElem_cons_zero, List.getElem_cons_succ, List.setIfInBounds_toArray, List.set_cons_zero, List.set_cons_succ]
                        refine wpAnyH_take (i := 3) (v := ?_) rfl (by kernel_rfl) (by kernel_rfl) (by kernel_rfl) (fun _ _ _ h => h) (Or.inl ⟨by rfl, ?_⟩) (by assumption) ?_
                        rotate_left 1
                        · intro w hSw
                          (try dsimp only at hSw)
                          go_simp
                          all_goals (with_reducible rfl)
                        try simp only [Act.put, List.getElem_toArray, List.getElem_cons_zero, List.getElem_cons_succ, List.setIfInBounds_toArray, List.set_cons_zero, List.set_cons_succ]
                        refine wpAnyH_take (i := 4) (v := ?_) rfl (by kernel_rfl) (by kernel_rfl) (by kernel_rfl) (fun _ _ _ h => h) (Or.inl ⟨by rfl, ?_⟩) (by assumption) ?_
                        rotate_left 1
                        · intro w hSw
                          obtain ⟨p1, p2, p3, p4⟩ := HC7.out w hSw
                          go_simp
                          all_goals (with_reducible rfl)
                        try simp only [Act.put, List.getElem_toArray, List.getElem_cons_zero, List.getElem_cons_succ, List.setIfInBounds_toArray, List.set_cons_zero, List.set_cons_succ]
                        refine wpAnyH_take (i := 6) (v := ?_) rfl (by kernel_rfl) (by kernel_rfl) (by kernel_rfl) (fun _ _ _ h => h) (Or.inl ⟨by rfl, ?_⟩) (by assumption) ?_
                        rotate_left 1
                        · intro w hSw
                          obtain ⟨p1, p2, p3, p4⟩ := HC7.out w hSw
                          go_simp
                          all_goals (with_reducible rfl)
                        try simp only [Act.put, List.getElem_toArray, List.getElem_cons_zero, List.getElem_cons_succ, List.setIfInBounds_toArray, List.set_cons_zero, List.set_cons_succ]
                        refine wpAnyH_take (i := 7) (v := ?_) rfl (by kernel_rfl) (by kernel_rfl) (by kernel_rfl) (fun _ _ _ h => h) (Or.inl ⟨by rfl, ?_⟩) (by assumption) ?_
                        rotate_left 1
                        · intro w hSw
                          (try dsimp only at hSw)
                          go_simp
                          all_goals (with_reducible rfl)
                        try simp only [Act.put, List.getElem_toArray, List.getElem_cons_zero, List.getElem_cons_succ, List.setIfInBounds_toArray, List.set_cons_zero, List.set_cons_succ]
                        refine wpAnyH_take (i := 8) (v := ?_) rfl (by kernel_rfl) (by kernel_rfl) (by kernel_rfl) (fun _ _ _ h => h) (Or.inl ⟨by rfl, ?_⟩) (by assumption) ?_
                        rotate_left 1
                        · intro w hSw
                          obtain ⟨p1, p2, p3, p4⟩ := HC7.out w hSw
                          go_simp
                          all_goals (with_reducible rfl)
                        try simp only [Act.put, List.getElem_toArray, List.getElem_cons_zero, List.getElem_cons_succ, List.setIfInBounds_toArray, List.set_cons_zero, List.set_cons_succ]
                        refine wpAnyH_take (i := 9) (v := ?_) rfl (by kernel_rfl) (by kernel_rfl) (by kernel_rfl) (fun _ _ _ h => h) (Or.inl ⟨by rfl, ?_⟩) (by assumption) ?_
                        rotate_left 1
                        · intro w hSw
                          (try dsimp only at hSw)
                          go_simp
                          all_goals (with_reducible rfl)
                        try simp only [Act.put, List.getElem_toArray, List.getElem_cons_zero, List.getElem_cons_succ, List.setIfInBounds_toArray, List.set_cons_zero, List.set_cons_succ]
                        refine wpAnyH_take (i := 10) (v := ?_) rfl (by kernel_rfl) (by kernel_rfl) (by kernel_rfl) (fun _ _ _ h => h) (Or.inl ⟨by rfl, ?_⟩) (by assumption) ?_
                        rotate_left 1
                        · intro w hSw
                          obtain ⟨p1, p2, p3, p4⟩ := HC7.out w hSw
                          go_simp
                          all_goals (with_reducible rfl)
                        try simp only [Act.put, List.getElem_toArray, List.getElem_cons_zero, List.getElem_cons_succ, List.setIfInBounds_toArray, List.set_cons_zero, List.set_cons_succ]
                        refine wpAnyH_ready (rs := [5]) (by kernel_rfl) (by simp) ?_
                        refine AllReadyH.cons rfl (fun K hK => ?_) AllReadyH.nil
                        go_simp
                        refine (HA1.out _ HUX.out).mono ?_
                        rintro e u1 ⟨rfl, hbx⟩
                        have HUn := Lib.hid (HUX.out.trans (hbx.mono HUX.out.size))
                        clear hbx HUX
                        have HUX := HUn
                        clear HUn
                        refine hK.out _ _ (by first | exact hHeld | exact HUX.out) (fun hHeld => ?_)
                        clear hK K
                        try simp only [Act.put, List.getElem_toArray, List.getElem_cons_zero, List.getElem_cons_succ, List.setIfInBounds_toArray, List.set_cons_zero, List.set_cons_succ]
                        refine wpAnyH_ready (rs := [11]) (by kernel_rfl) (by simp) ?_
                        refine AllReadyH.cons rfl (fun K hK => ?_) AllReadyH.nil
                        go_simp
                        refine (HA2.out _ HUX.out).mono ?_
                        rintro e u1 ⟨rfl, hbx⟩
                        have HUn := Lib.hid (HUX.out.trans (hbx.mono HUX.out.size))
                        clear hbx HUX
                        have HUX := HUn
                        clear HUn
                        refine hK.out _ _ (by first | exact hHeld | exact HUX.out) (fun hHeld => ?_)
                        clear hK K
                        try simp only [Act.put, List.getElem_toArray, List.getElem_cons_zero, List.getElem_cons_succ, List.setIfInBounds_toArray, List.set_cons_zero, List.set_cons_succ]
                        refine wpAnyH_take (i := 12) (v := ?_) rfl (by kernel_rfl) (by kernel_rfl) (by kernel_rfl) (fun _ _ _ h => h) (Or.inl ⟨by rfl, ?_⟩) (by assumption) ?_
                        rotate_left 1
                        · intro w hSw
                          (try dsimp only at hSw)
                          go_simp
                          all_goals (with_reducible rfl)
                        try simp only [Act.put, List.getElem_toArray, List.getElem_cons_zero, List.getElem_cons_succ, List.setIfInBounds_toArray, List.set_cons_zero, List.set_cons_succ]
                        refine wpAnyH_take (i := 13) (v := ?_) rfl (by kernel_rfl) (by kernel_rfl) (by kernel_rfl) (fun _ _ _ h => h) (Or.inl ⟨by rfl, ?_⟩) (by assumption) ?_
                        rotate_left 1
                        · intro w hSw
                          (try dsimp only at hSw)
                          go_simp
                          all_goals (with_reducible rfl)
                        try simp only [Act.put, List.getElem_toArray, List.getElem_cons_zero, List.getElem_cons_succ, List.setIfInBounds_toArray, List.set_cons_zero, List.set_cons_succ]
                        refine wpAnyH_take (i := 14) (v := ?_) rfl (by kernel_rfl) (by kernel_rfl) (by kernel_rfl) (fun _ _ _ h => h) (Or.inl ⟨by rfl, ?_⟩) (by assumption) ?_
                        rotate_left 1
                        · intro w hSw
                          (try dsimp only at hSw)
                          go_simp
                          all_goals (with_reducible rfl)
                        try simp only [Act.put, List.getElem_toArray, List.getElem_cons_zero, List.getElem_cons_succ, List.setIfInBounds_toArray, List.set_cons_zero, List.set_cons_succ]
                        refine wpAnyH_take (i := 15) (v := ?_) rfl (by kernel_rfl) (by kernel_rfl) (by kernel_rfl) (fun _ _ _ h => h) (Or.inl ⟨by rfl, ?_⟩) (by assumption) ?_
                        rotate_left 1
                        · intro w hSw
                          (try dsimp only at hSw)
                          go_simp
                          all_goals (with_reducible rfl)
                        try simp only [Act.put, List.getElem_toArray, List.getElem_cons_zero, List.getElem_cons_succ, List.setIfInBounds_toArray, List.set_cons_zero, List.set_cons_succ]
                        refine wpAnyH_take (i := 16) (v := ?_) rfl (by kernel_rfl) (by kernel_rfl) (by kernel_rfl) (fun _ _ _ h => h) (Or.inl ⟨by rfl, ?_⟩) (by assumption) ?_
                        rotate_left 1
                        · intro w hSw
                          obtain ⟨p1, p2, p3, p4⟩ := HC7.out w hSw
                          go_simp
                          all_goals (with_reducible rfl)
                        try simp only [Act.put, List.getElem_toArray, List.getElem_cons_zero, List.getElem_cons_succ, List.setIfInBounds_toArray, List.set_cons_zero, List.set_cons_succ]
                        refine wpAnyH_take (i := 17) (v := ?_) rfl (by kernel_rfl) (by kernel_rfl) (by kernel_rfl) (fun _ _ _ h => h) (Or.inl ⟨by rfl, ?_⟩) (by assumption) ?_
                        rotate_left 1
                        · intro w hSw
                          (try dsimp only at hSw)
                          go_simp
                          all_goals (with_reducible rfl)
                        try simp only [Act.put, List.getElem_toArray, List.getElem_cons_zero, List.getElem_cons_succ, List.setIfInBounds_toArray, List.set_cons_zero, List.set_cons_succ]
                        refine wpAnyH_take (i := 18) (v := ?_) rfl (by kernel_rfl) (by kernel_rfl) (by kernel_rfl) (fun _ _ _ h => h) (Or.inl ⟨by rfl, ?_⟩) (by assumption) ?_
                        rotate_left 1
                        · intro w hSw
                          obtain ⟨p1, p2, p3, p4⟩ := HC7.out w hSw
                          go_simp
                          all_goals (with_reducible rfl)
                        try simp only [Act.put, List.getElem_toArray, List.getElem_cons_zero, List.getElem_cons_succ, List.setIfInBounds_toArray, List.set_cons_zero, List.set_cons_succ]
                        refine wpAnyH_take (i := 20) (v := ?_) rfl (by kernel_rfl) (by kernel_rfl) (by kernel_rfl) (fun _ _ _ h => h) (Or.inl ⟨by rfl, ?_⟩) (by assumption) ?_
                        rotate_left 1
                        · intro w hSw
                          (try dsimp only at hSw)
                          go_simp
                          all_goals (with_reducible rfl)
                        try simp only [Act.put, List.getElem_toArray, List.getElem_cons_zero, List.getElem_cons_succ, List.setIfInBounds_toArray, List.set_cons_zero, List.set_cons_succ]
                        refine wpAnyH_take (i := 21) (v := ?_) rfl (by kernel_rfl) (by kernel_rfl) (by kernel_rfl) (fun _ _ _ h => h) (Or.inl ⟨by rfl, ?_⟩) (by assumption) ?_
                        rotate_left 1
                        · intro w hSw
                          (try dsimp only at hSw)
                          go_simp
                          all_goals (with_reducible rfl)
                        try simp only [Act.put, List.getElem_toArray, List.getElem_cons_zero, List.getElem_cons_succ, List.setIfInBounds_toArray, List.set_cons_zero, List.set_cons_succ]
                        refine wpAnyH_take (i := 22) (v := ?_) rfl (by kernel_rfl) (by kernel_rfl) (by kernel_rfl) (fun _ _ _ h => h) (Or.inl ⟨by rfl, ?_⟩) (by assumption) ?_
                        rotate_left 1
                        · intro w hSw
                          obtain ⟨p1, p2, p3, p4⟩ := HC7.out w hSw
                          go_simp
                          all_goals (with_reducible rfl)
                        try simp only [Act.put, List.getElem_toArray, List.getElem_cons_zero, List.getElem_cons_succ, List.setIfInBounds_toArray, List.set_cons_zero, List.set_cons_succ]
                        refine wpAnyH_take (i := 23) (v := ?_) rfl (by kernel_rfl) (by kernel_rfl) (by kernel_rfl) (fun _ _ _ h => h) (Or.inl ⟨by rfl, ?_⟩) (by assumption) ?_
                        rotate_left 1
                        · intro w hSw
                          (try dsimp only at hSw)
                          go_simp
                          all_goals (with_reducible rfl)
                        try simp only [Act.put, List.getElem_toArray, List.getElem_cons_zero, List.getElem_cons_succ, List.setIfInBounds_toArray, List.set_cons_zero, List.set_cons_succ]
                        refine wpAnyH_take (i := 24) (v := ?_) rfl (by kernel_rfl) (by kernel_rfl) (by kernel_rfl) (fun _ _ _ h => h) (Or.inl ⟨by rfl, ?_⟩) (by assumption) ?_
                        rotate_left 1
                        · intro w hSw
                          obtain ⟨p1, p2, p3, p4⟩ := HC7.out w hSw
                          go_simp
                          all_goals (with_reducible rfl)
                        try simp only [Act.put, List.getElem_toArray, List.getElem_cons_zero, List.getElem_cons_succ, List.setIfInBounds_toArray, List.set_cons_zero, List.set_cons_succ]
                        refine wpAnyH_ready (rs := [19]) (by kernel_rfl) (by simp) ?_
                        refine AllReadyH.cons rfl (fun K hK => ?_) AllReadyH.nil
                        go_simp
                        refine (HA3.out _ HUX.out).mono ?_
                        rintro e u1 ⟨rfl, hbx⟩
                        have HUn := Lib.hid (HUX.out.trans (hbx.mono HUX.out.size))
                        clear hbx HUX
                        have HUX := HUn
                        clear HUn
                        refine hK.out _ _ (by first | exact hHeld | exact HUX.out) (fun hHeld => ?_)
                        clear hK K
                        try simp only [Act.put, List.getElem_toArray, List.getElem_cons_zero, List.getElem_cons_succ, List.setIfInBounds_toArray, List.set_cons_zero, List.set_cons_succ]
                        refine wpAnyH_ready (rs := [25]) (by kernel_rfl) (by simp) ?_
                        refine AllReadyH.cons rfl (fun K hK => ?_) AllReadyH.nil
                        go_simp
                        refine (HA1.out _ HUX.out).mono ?_
                        rintro e u1 ⟨rfl, hbx⟩
                        have HUn := Lib.hid (HUX.out.trans (hbx.mono HUX.out.size))
                        clear hbx HUX
                        have HUX := HUn
                        clear HUn
                        refine hK.out _ _ (by first | exact hHeld | exact HUX.out) (fun hHeld => ?_)
                        clear hK K
                        try simp only [Act.put, List.getElem_toArray, List.getElem_cons_zero, List.getElem_cons_succ, List.setIfInBounds_toArray, List.set_cons_zero, List.set_cons_succ]
                        refine wpAnyH_take (i := 26) (v := ?_) rfl (by kernel_rfl) (by kernel_rfl) (by kernel_rfl) (fun _ _ _ h => h) (Or.inl ⟨by rfl, ?_⟩) (by assumption) ?_
                        rotate_left 1
                        · intro w hSw
                          (try dsimp only at hSw)
                          go_simp
                          all_goals (with_reducible rfl)
                        try simp only [Act.put, List.getElem_toArray, List.getElem_cons_zero, List.getElem_cons_succ, List.setIfInBounds_toArray, List.set_cons_zero, List.set_cons_succ]
                        refine wpAnyH_take (i := 27) (v := ?_) rfl (by kernel_rfl) (by kernel_rfl) (by kernel_rfl) (fun _ _ _ h => h) (Or.inl ⟨by rfl, ?_⟩) (by assumption) ?_
                        rotate_left 1
                        · intro w hSw
                          (try dsimp only at hSw)
                          go_simp
                          all_goals (with_reducible rfl)
                        try simp only [Act.put, List.getElem_toArray, List.getElem_cons_zero, List.getElem_cons_succ, List.setIfInBounds_toArray, List.set_cons_zero, List.set_cons_succ]
                        refine wpAnyH_done (by kernel_rfl) ?_ _
                        have HHe := Lib.hid (HH1.out.below HUX.out)
                        have HLe := Lib.hid (HL1.out.below HUX.out)
                        go_wp2
                        go_meet
                        exact ⟨S1, none, 0, 0, rfl, Lib.hid (HHe.out.more (by omega)), Lib.hid (by rw [HMZ.out]; rw [HMZ.out] at HLe; exact HLe.out), Lib.hid (by rw [HMZ.out]; exact IsB.nil _)⟩
          case rest =>
            obtain ⟨S1, gx, gl, gc, rfl, HH1, HL1, HGB⟩ := hcut
            obtain ⟨w20, hw20⟩ : ∃ z, z = wc := ⟨_, rfl⟩
            subst hw20
            clear a0 a1 a2 a3 a4 a5 a6 a7 a8 a9 a10 a11 a12 a13 a14
            have HTO1 := Lib.hid (fun wx => to_any M gx gl gc wx)
            have HSM1 := Lib.hid (fun (wx : World) (hb : Below w20.heap.size w20 wx) => show Calls Try.prog 19 #[mval M (.slice gx gl gc), mval M (.slice mx wl wc)] wx fun e w' => e = .returned (.bool true) ∧ Below wx.heap.size wx w' from by
              have h9 := rsame_any M M (.slice gx gl gc) (.slice mx wl wc) wx (HGB.out.mono hb (Nat.le_refl _)) (HMB.out.mono (HH1.out.bel.trans (hb.mono HH1.out.bel.size)) (Nat.le_refl _)) HML.out
              rwa [sameM_self] at h9)
            have HLE := Lib.hid (fun (wx : World) (hb : Below w20.heap.size w20 wx) => show Calls Try.prog 21 #[.pointer (some ⟨g, 0, none⟩)] wx fun e w' => e = .returned (.int .i64 (ml : Int)) ∧ wx = w' from by
              have h9 := nlen_any wx (HH1.out.below hb).nt
              rw [← HDN1.out, dnet_len, HLL1.out] at h9
              exact h9)
            have kNE : ((KK : Int) != (KK : Int)) = false := by simp
            have kNL : ((ml : Int) != (ml : Int)) = false := by simp
            have HUX := Lib.hid (show Below w20.heap.size w20 w20.drew from (Below.refl _ _).drew)
            have HC5 := Lib.hid (fun (wx : World) (hb : Below w20.heap.size w20 wx) => show wx.cell? ⟨X5, 0, none⟩ = some (.slice yl ml kl) from (HL1.out.below hb).b5.cell 0 rfl)
            have HC11 := Lib.hid (fun (wx : World) (hb : Below w20.heap.size w20 wx) => show wx.cell? ⟨X11, 0, none⟩ = some (.int .i64 M.fr) ∧ wx.cell? ⟨X11, 1, none⟩ = some (.int .i64 M.to) ∧ wx.cell? ⟨X11, 2, none⟩ = some (.int .i64 M.kd) ∧ wx.cell? ⟨X11, 3, none⟩ = some (.int .i64 M.vo) ∧ wx.cell? ⟨X11, 4, none⟩ = some (.int .i64 M.li) ∧ wx.cell? ⟨X11, 5, none⟩ = some (.int .u64 (M.id : Int)) ∧ wx.cell? ⟨X11, 6, none⟩ = some (.int .i64 M.co) ∧ wx.cell? ⟨X11, 7, none⟩ = some (.bool M.has) ∧ wx.cell? ⟨X11, 8, none⟩ = some (.int .u64 (M.n.key : Int)) ∧ wx.cell? ⟨X11, 9, none⟩ = some (.int .u32 (M.n.cookie : Int)) ∧ wx.cell? ⟨X11, 10, none⟩ = some (.bool M.n.gone) ∧ wx.cell? ⟨X11, 11, none⟩ = some (.slice gx gl gc) from
              have h := HL1.out.b11.below hb HL1.out.b11.lt
              ⟨h.cell 0 rfl, h.cell 1 rfl, h.cell 2 rfl, h.cell 3 rfl, h.cell 4 rfl, h.cell 5 rfl, h.cell 6 rfl, h.cell 7 rfl, h.cell 8 rfl, h.cell 9 rfl, h.cell 10 rfl, h.cell 11 rfl⟩)
            have HC9 := Lib.hid (fun (wx : World) (hb : Below w20.heap.size w20 wx) => show wx.cell? ⟨X8 + 1, 0, none⟩ = some (.int .i64 M.fr) ∧ wx.cell? ⟨X8 + 1, 1, none⟩ = some (.int .i64 M.to) ∧ wx.cell? ⟨X8 + 1, 2, none⟩ = some (.int .i64 M.kd) ∧ wx.cell? ⟨X8 + 1, 3, none⟩ = some (.int .i64 M.vo) ∧ wx.cell? ⟨X8 + 1, 4, none⟩ = some (.int .i64 M.li) ∧ wx.cell? ⟨X8 + 1, 5, none⟩ = some (.int .u64 (M.id : Int)) ∧ wx.cell? ⟨X8 + 1, 6, none⟩ = some (.int .i64 M.co) ∧ wx.cell? ⟨X8 + 1, 7, none⟩ = some (.bool M.has) ∧ wx.cell? ⟨X8 + 1, 8, none⟩ = some (.int .u64 (M.n.key : Int)) ∧ wx.cell? ⟨X8 + 1, 9, none⟩ = some (.int .u32 (M.n.cookie : Int)) ∧ wx.cell? ⟨X8 + 1, 10, none⟩ = some (.bool M.n.gone) ∧ wx.cell? ⟨X8 + 1, 11, none⟩ = some (.slice mx wl wc) from
              have h := HL1.out.b9.below hb HL1.out.b9.lt
              ⟨h.cell 0 rfl, h.cell 1 rfl, h.cell 2 rfl, h.cell 3 rfl, h.cell 4 rfl, h.cell 5 rfl, h.cell 6 rfl, h.cell 7 rfl, h.cell 8 rfl, h.cell 9 rfl, h.cell 10 rfl, h.cell 11 rfl⟩)
            go_upto_region 34 with fail
            refine wp_region_held_drew (S := (fun wx => Below w20.heap.size w20 wx)) (by kernel_rfl) (HUX.out) (fun hHeld => ?_)
            obtain ⟨q0w, hq0w⟩ : ∃ q, w20.drew = q := ⟨_, rfl⟩
            rw [hq0w] at HUX hHeld
            rw [hq0w]
            clear hq0w
            refine wpAnyH_take (i := 0) (v := ?_) rfl (by kernel_rfl) (by kernel_rfl) (by kernel_rfl) (fun _ _ _ h => h) (Or.inl ⟨by rfl, ?_⟩) (by assumption) ?_
            rotate_left 1
            · intro w hSw
              (try dsimp only at hSw)
              go_simp
              all_goals (with_reducible rfl)
            try simp only [Act.put, List.getElem_toArray, List.getElem_cons_zero, List.getElem_cons_succ, List.setIfInBounds_toArray, List.set_cons_zero, List.set_cons_succ]
            refine wpAnyH_take (i := 2) (v := ?_) rfl (by kernel_rfl) (by kernel_rfl) (by kernel_rfl) (fun _ _ _ h => h) (Or.inl ⟨by rfl, ?_⟩) (by assumption) ?_
            rotate_left 1
            · intro w hSw
              (try dsimp only at hSw)
              go_simp
              all_goals (with_reducible rfl)
            try simp only [Act.put, List.getElem_toArray, List.getElem_cons_zero, List.getElem_cons_succ, List.setIfInBounds_toArray, List.set_cons_zero, List.set_cons_succ]
            refine wpAnyH_ready (rs := [1]) (by kernel_rfl) (by simp) ?_
            refine AllReadyH.cons rfl (fun K hK => ?_) AllReadyH.nil
            go_simp
            refine (code_cerr KK _ HKL.out).mono ?_
            rintro e u ⟨rfl, rfl⟩
            refine hK.out _ _ (by first | exact hHeld | exact HUX.out) (fun hHeld => ?_)
            clear hK K
            try simp only [Act.put, List.getElem_toArray, List.getElem_cons_zero, List.getElem_cons_succ, List.setIfInBounds_toArray, List.set_cons_zero, List.set_cons_succ]
            refine wpAnyH_take (i := 3) (v := ?_) rfl (by kernel_rfl) (by kernel_rfl) (by kernel_rfl) (fun _ _ _ h => h) (Or.inl ⟨by rfl, ?_⟩) (by assumption) ?_
            rotate_left 1
            · intro w hSw
              (try dsimp only at hSw)
              go_simp
              all_goals (with_reducible rfl)
            try simp only [Act.put, List.getElem_toArray, List.getElem_cons_zero, List.getElem_cons_succ, List.setIfInBounds_toArray, List.set_cons_zero, List.set_cons_succ]
            refine wpAnyH_take (i := 4) (v := ?_) rfl (by kernel_rfl) (by kernel_rfl) (by kernel_rfl) (fun _ _ _ h => h) (Or.inl ⟨by rfl, ?_⟩) (by assumption) ?_
            rotate_left 1
            · intro w hSw
              (try dsimp only at hSw)
              go_simp
              all_goals (with_reducible rfl)
            try simp only [Act.put, List.getElem_toArray, List.getElem_cons_zero, List.getElem_cons_succ, List.setIfInBounds_toArray, List.set_cons_zero, List.set_cons_succ]
            refine wpAnyH_take (i := 5) (v := ?_) rfl (by kernel_rfl) (by kernel_rfl) (by kernel_rfl) (fun _ _ _ h => h) (Or.inl ⟨by rfl, ?_⟩) (by assumption) ?_
            rotate_left 1
            · intro w hSw
              obtain ⟨p0, p1, p2, p3, p4, p5, p6, p7, p8, p9, p10, p11⟩ := HC11.out w hSw
              go_simp
              all_goals (with_reducible rfl)
            try simp only [Act.put, List.getElem_toArray, List.getElem_cons_zero, List.getElem_cons_succ, List.setIfInBounds_toArray, List.set_cons_zero, List.set_cons_succ]
            refine wpAnyH_take (i := 7) (v := ?_) rfl (by kernel_rfl) (by kernel_rfl) (by kernel_rfl) (fun _ _ _ h => h) (Or.inl ⟨by rfl, ?_⟩) (by assumption) ?_
            rotate_left 1
            · intro w hSw
              obtain ⟨p0, p1, p2, p3, p4, p5, p6, p7, p8, p9, p10, p11⟩ := HC9.out w hSw
              go_simp
              all_goals (with_reducible rfl)
            try simp only [Act.put, List.getElem_toArray, List.getElem_cons_zero, List.getElem_cons_succ, List.setIfInBounds_toArray, List.set_cons_zero, List.set_cons_succ]
            refine wpAnyH_ready (rs := [6]) (by kernel_rfl) (by simp) ?_
            refine AllReadyH.cons rfl (fun K hK => ?_) AllReadyH.nil
            go_simp
            refine (HTO1.out _).mono ?_
            rintro e u1 ⟨rfl, hbx⟩
            have HUn := Lib.hid (HUX.out.trans (hbx.mono HUX.out.size))
            clear hbx HUX
            have HUX := HUn
            clear HUn
            refine hK.out _ _ (by first | exact hHeld | exact HUX.out) (fun hHeld => ?_)
            clear hK K
            try simp only [Act.put, List.getElem_toArray, List.getElem_cons_zero, List.getElem_cons_succ, List.setIfInBounds_toArray, List.set_cons_zero, List.set_cons_succ]
            refine wpAnyH_ready (rs := [8]) (by kernel_rfl) (by simp) ?_
            refine AllReadyH.cons rfl (fun K hK => ?_) AllReadyH.nil
            go_simp
            refine (HSM1.out _ HUX.out).mono ?_
            rintro e u1 ⟨rfl, hbx⟩
            have HUn := Lib.hid (HUX.out.trans (hbx.mono HUX.out.size))
            clear hbx HUX
            have HUX := HUn
            clear HUn
            refine hK.out _ _ (by first | exact hHeld | exact HUX.out) (fun hHeld => ?_)
            clear hK K
            try simp only [Act.put, List.getElem_toArray, List.getElem_cons_zero, List.getElem_cons_succ, List.setIfInBounds_toArray, List.set_cons_zero, List.set_cons_succ]
            refine wpAnyH_take (i := 9) (v := ?_) rfl (by kernel_rfl) (by kernel_rfl) (by kernel_rfl) (fun _ _ _ h => h) (Or.inl ⟨by rfl, ?_⟩) (by assumption) ?_
            rotate_left 1
            · intro w hSw
              (try dsimp only at hSw)
              go_simp
              all_goals (with_reducible rfl)
            try simp only [Act.put, List.getElem_toArray, List.getElem_cons_zero, List.getElem_cons_succ, List.setIfInBounds_toArray, List.set_cons_zero, List.set_cons_succ]
            refine wpAnyH_take (i := 10) (v := ?_) rfl (by kernel_rfl) (by kernel_rfl) (by kernel_rfl) (fun _ _ _ h => h) (Or.inl ⟨by rfl, ?_⟩) (by assumption) ?_
            rotate_left 1
            · intro w hSw
              (try dsimp only at hSw)
              go_simp
              all_goals (with_reducible rfl)
            try simp only [Act.put, List.getElem_toArray, List.getElem_cons_zero, List.getElem_cons_succ, List.setIfInBounds_toArray, List.set_cons_zero, List.set_cons_succ]
            refine wpAnyH_take (i := 11) (v := ?_) rfl (by kernel_rfl) (by kernel_rfl) (by kernel_rfl) (fun _ _ _ h => h) (Or.inl ⟨by rfl, ?_⟩) (by assumption) ?_
            rotate_left 1
            · intro w hSw
              (try dsimp only at hSw)
              go_simp
              all_goals (with_reducible rfl)
            try simp only [Act.put, List.getElem_toArray, List.getElem_cons_zero, List.getElem_cons_succ, List.setIfInBounds_toArray, List.set_cons_zero, List.set_cons_succ]
            refine wpAnyH_take (i := 12) (v := ?_) rfl (by kernel_rfl) (by kernel_rfl) (by kernel_rfl) (fun _ _ _ h => h) (Or.inl ⟨by rfl, ?_⟩) (by assumption) ?_
            rotate_left 1
            · intro w hSw
              (try dsimp only at hSw)
              go_simp
              all_goals (with_reducible rfl)
            try simp only [Act.put, List.getElem_toArray, List.getElem_cons_zero, List.getElem_cons_succ, List.setIfInBounds_toArray, List.set_cons_zero, List.set_cons_succ]
            refine wpAnyH_take (i := 14) (v := ?_) rfl (by kernel_rfl) (by kernel_rfl) (by kernel_rfl) (fun _ _ _ h => h) (Or.inl ⟨by rfl, ?_⟩) (by assumption) ?_
            rotate_left 1
            · intro w hSw
              (try dsimp only at hSw)
              go_simp
              all_goals (with_reducible rfl)
            try simp only [Act.put, List.getElem_toArray, List.getElem_cons_zero, List.getElem_cons_succ, List.setIfInBounds_toArray, List.set_cons_zero, List.set_cons_succ]
            refine wpAnyH_take (i := 15) (v := ?_) rfl (by kernel_rfl) (by kernel_rfl) (by kernel_rfl) (fun _ _ _ h => h) (Or.inl ⟨by rfl, ?_⟩) (by assumption) ?_
            rotate_left 1
            · intro w hSw
              have p1 := HC5.out w hSw
              go_simp
              all_goals (with_reducible rfl)
            try simp only [Act.put, List.getElem_toArray, List.getElem_cons_zero, List.getElem_cons_succ, List.setIfInBounds_toArray, List.set_cons_zero, List.set_cons_succ]
            refine wpAnyH_take (i := 16) (v := ?_) rfl (by kernel_rfl) (by kernel_rfl) (by kernel_rfl) (fun _ _ _ h => h) (Or.inl ⟨by rfl, ?_⟩) (by assumption) ?_
            rotate_left 1
            · intro w hSw
              (try dsimp only at hSw)
              go_simp
              all_goals (with_reducible rfl)
            try simp only [Act.put, List.getElem_toArray, List.getElem_cons_zero, List.getElem_cons_succ, List.setIfInBounds_toArray, List.set_cons_zero, List.set_cons_succ]
            refine wpAnyH_ready (rs := [13]) (by kernel_rfl) (by simp) ?_
            refine AllReadyH.cons rfl (fun K hK => ?_) AllReadyH.nil
            go_simp
            refine (HLE.out _ HUX.out).mono ?_
            rintro e u ⟨rfl, rfl⟩
            refine hK.out _ _ (by first | exact hHeld | exact HUX.out) (fun hHeld => ?_)
            clear hK K
            try simp only [Act.put, List.getElem_toArray, List.getElem_cons_zero, List.getElem_cons_succ, List.setIfInBounds_toArray, List.set_cons_zero, List.set_cons_succ]
            refine wpAnyH_take (i := 17) (v := ?_) rfl (by kernel_rfl) (by kernel_rfl) (by kernel_rfl) (fun _ _ _ h => h) (Or.inl ⟨by rfl, ?_⟩) (by assumption) ?_
            rotate_left 1
            · intro w hSw
              (try dsimp only at hSw)
              go_simp
              all_goals (with_reducible rfl)
            try simp only [Act.put, List.getElem_toArray, List.getElem_cons_zero, List.getElem_cons_succ, List.setIfInBounds_toArray, List.set_cons_zero, List.set_cons_succ]
            refine wpAnyH_take (i := 18) (v := ?_) rfl (by kernel_rfl) (by kernel_rfl) (by kernel_rfl) (fun _ _ _ h => h) (Or.inl ⟨by rfl, ?_⟩) (by assumption) ?_
            rotate_left 1
            · intro w hSw
              (try dsimp only at hSw)
              go_simp
              all_goals (with_reducible rfl)
            try simp only [Act.put, List.getElem_toArray, List.getElem_cons_zero, List.getElem_cons_succ, List.setIfInBounds_toArray, List.set_cons_zero, List.set_cons_succ]
            refine wpAnyH_done (by kernel_rfl) ?_ _
            obtain ⟨w21, hw21⟩ : ∃ z, w20 = z := ⟨_, rfl⟩
            have HBU := Lib.hid HUX.out
            clear HUX HC11 HC9 HC5 HTO1 HSM1 HLE hw21 kNE kNL
            go_wp2_with fail
            go_loopw [13] (fun q13 wr => ∃ k2 : Nat, k2 ≤ ml ∧ q13 = .int .i64 k2 ∧ Hid (Below w20.heap.size w20 wr)) (fun q13 _ => ml - (intOf q13).toNat)
            case atStart => exact ⟨0, Nat.zero_le _, rfl, HBU⟩
            case round =>
              obtain ⟨k2, hk2, rfl, HBl⟩ := hrel
              have HHq := HH1.out.below HBl.out
              have HLq := HL1.out.below HBl.out
              have hml := HHq.nt.good.1
              rw [← HDN1.out, dnet_len, HLL1.out] at hml
              have c50 := HLq.b5.cell 0 rfl
              by_cases hlt3 : k2 < ml
              · obtain ⟨⟨x, xv⟩, hxl⟩ : ∃ z, l'[k2]? = some z := ⟨_, List.getElem?_eq_getElem (by rw [HLL1.out]; exact hlt3)⟩
                have hxB := HRD1.out _ (List.mem_of_getElem? hxl)
                obtain ⟨xm, cm, hxe, _, _⟩ := hxB.at_len rfl
                obtain ⟨lm, hlm⟩ : ∃ z, x.n.data.length = z := ⟨_, rfl⟩
                dsimp only at hxe hxB
                rw [hlm] at hxe
                subst hxe
                have HXB := Lib.hid hxB
                have HXL := Lib.hid (HXS1.out _ (List.mem_of_getElem? hxl))
                have hpk0 : peekK n1 (k2 : Int) = 0 := by
                  unfold peekK
                  rw [if_pos]
                  refine ⟨by omega, ?_⟩
                  rw [← HDN1.out, dnet_len, HLL1.out]
                  omega
                have hpm : peekM n1 (k2 : Int) = x := by
                  unfold peekM
                  rw [if_pos hpk0, ← HDN1.out, show ((k2 : Int)).toNat = k2 by omega]
                  exact dnet_getD hxl
                have hpk := npeek_any (k2 : Int) wr HHq.nt
                rw [hpk0, hpm, cerr_0, hlm] at hpk
                have HPK := Lib.hid hpk
                obtain ⟨bi, oi, hidx, _, hcell⟩ := indexAt_X HLq.rl 35 30 Try.underlying35 Try.sizeMsg k2 hlt3
                have HCE := Lib.hid (fun q (hq : q < 12) => (hcell q hq).trans (row_get mcl_len hxl q hq))
                have HBE := Lib.hid (show bi < wr.heap.size from cell_lt ((HCE.out 0 (by decide)).trans rfl))
                have HHQ := Lib.hid HHq
                have HLQ := Lib.hid HLq
                clear hpk hpk0 hpm hcell hxB HHq HLq hlm hxl
                as_aux_lemma =>
                  go_wp2_with fail
                  refine HPK.out.mono ?_
                  rintro e wp ⟨px, pc, rfl, hf, hlf, hb⟩
                  have HB2 := Lib.hid ((HBl.out.trans (hb.mono HBl.out.size)).alloc (HBl.out.trans (hb.mono HBl.out.size)).size (.cells #[.int .i64 x.fr, .int .i64 x.to, .int .i64 x.kd, .int .i64 x.vo, .int .i64 x.li, .int .u64 (x.id : Int), .int .i64 x.co, .bool x.has, .int .u64 (x.n.key : Int), .int .u32 (x.n.cookie : Int), .bool x.n.gone, .slice px lm pc] 43))
                  have hB3 := hb.alloc hb.size (.cells #[.int .i64 x.fr, .int .i64 x.to, .int .i64 x.kd, .int .i64 x.vo, .int .i64 x.li, .int .u64 (x.id : Int), .int .i64 x.co, .bool x.has, .int .u64 (x.n.key : Int), .int .u32 (x.n.cookie : Int), .bool x.n.gone, .slice px lm pc] 43)
                  have HF3 := Lib.hid (hf.1.mono (below_new15 wp (.cells #[.int .i64 x.fr, .int .i64 x.to, .int .i64 x.kd, .int .i64 x.vo, .int .i64 x.li, .int .u64 (x.id : Int), .int .i64 x.co, .bool x.has, .int .u64 (x.n.key : Int), .int .u32 (x.n.cookie : Int), .bool x.n.gone, .slice px lm pc] 43)) (Nat.le_refl _))
                  have HT14 := Lib.hid (Blk.new wp #[.int .i64 x.fr, .int .i64 x.to, .int .i64 x.kd, .int .i64 x.vo, .int .i64 x.li, .int .u64 (x.id : Int), .int .i64 x.co, .bool x.has, .int .u64 (x.n.key : Int), .int .u32 (x.n.cookie : Int), .bool x.n.gone, .slice px lm pc] 43)
                  obtain ⟨w22, hw22⟩ : ∃ z, wp.alloc (.cells #[.int .i64 x.fr, .int .i64 x.to, .int .i64 x.kd, .int .i64 x.vo, .int .i64 x.li, .int .u64 (x.id : Int), .int .i64 x.co, .bool x.has, .int .u64 (x.n.key : Int), .int .u32 (x.n.cookie : Int), .bool x.n.gone, .slice px lm pc] 43) = z := ⟨_, rfl⟩
                  obtain ⟨X14, hX14⟩ : ∃ z, wp.heap.size = z := ⟨_, rfl⟩
                  rw [hw22] at HB2 hB3 HF3 HT14
                  rw [hX14] at HT14
                  have HW22 := Lib.hid hw22
                  have HX14 := Lib.hid hX14
                  have HB3 := Lib.hid hB3
                  clear hb hf hlf hw22 hX14 hB3 c50
                  go_upto_region 40 with fail
                  try rw [HW22.out]
                  try rw [HX14.out]
                  have HC5 := Lib.hid (fun (wx : World) (hb : Below w22.heap.size w22 wx) => show wx.cell? ⟨X5, 0, none⟩ = some (.slice yl ml kl) from ((HLQ.out.below HB3.out).below hb).b5.cell 0 rfl)
                  have HC14 := Lib.hid (fun (wx : World) (hb : Below w22.heap.size w22 wx) => show wx.cell? ⟨X14, 0, none⟩ = some (.int .i64 x.fr) ∧ wx.cell? ⟨X14, 1, none⟩ = some (.int .i64 x.to) ∧ wx.cell? ⟨X14, 2, none⟩ = some (.int .i64 x.kd) ∧ wx.cell? ⟨X14, 3, none⟩ = some (.int .i64 x.vo) ∧ wx.cell? ⟨X14, 4, none⟩ = some (.int .i64 x.li) ∧ wx.cell? ⟨X14, 5, none⟩ = some (.int .u64 (x.id : Int)) ∧ wx.cell? ⟨X14, 6, none⟩ = some (.int .i64 x.co) ∧ wx.cell? ⟨X14, 7, none⟩ = some (.bool x.has) ∧ wx.cell? ⟨X14, 8, none⟩ = some (.int .u64 (x.n.key : Int)) ∧ wx.cell? ⟨X14, 9, none⟩ = some (.int .u32 (x.n.cookie : Int)) ∧ wx.cell? ⟨X14, 10, none⟩ = some (.bool x.n.gone) ∧ wx.cell? ⟨X14, 11, none⟩ = some (.slice px lm pc) from
                    have h := HT14.out.below hb HT14.out.lt
                    ⟨h.cell 0 rfl, h.cell 1 rfl, h.cell 2 rfl, h.cell 3 rfl, h.cell 4 rfl, h.cell 5 rfl, h.cell 6 rfl, h.cell 7 rfl, h.cell 8 rfl, h.cell 9 rfl, h.cell 10 rfl, h.cell 11 rfl⟩)
                  have HCX := Lib.hid (fun (wx : World) (hb : Below w22.heap.size w22 wx) => show wx.cell? ⟨bi, oi, none⟩ = some (.int .i64 x.fr) ∧ wx.cell? ⟨bi, oi + 1, none⟩ = some (.int .i64 x.to) ∧ wx.cell? ⟨bi, oi + 2, none⟩ = some (.int .i64 x.kd) ∧ wx.cell? ⟨bi, oi + 3, none⟩ = some (.int .i64 x.vo) ∧ wx.cell? ⟨bi, oi + 4, none⟩ = some (.int .i64 x.li) ∧ wx.cell? ⟨bi, oi + 5, none⟩ = some (.int .u64 (x.id : Int)) ∧ wx.cell? ⟨bi, oi + 6, none⟩ = some (.int .i64 x.co) ∧ wx.cell? ⟨bi, oi + 7, none⟩ = some (.bool x.has) ∧ wx.cell? ⟨bi, oi + 8, none⟩ = some (.int .u64 (x.n.key : Int)) ∧ wx.cell? ⟨bi, oi + 9, none⟩ = some (.int .u32 (x.n.cookie : Int)) ∧ wx.cell? ⟨bi, oi + 10, none⟩ = some (.bool x.n.gone) ∧ wx.cell? ⟨bi, oi + 11, none⟩ = some (.slice xm lm cm) from
                    have h : ∀ q, q < 12 → wx.cell? ⟨bi, oi + q, none⟩ = (mcl (x, .slice xm lm cm))[q]? := fun q hq => ((hb.cell (p := ⟨bi, oi + q, none⟩) (Nat.lt_of_lt_of_le HBE.out HB3.out.size)).trans (HB3.out.cell (p := ⟨bi, oi + q, none⟩) HBE.out)).trans (HCE.out q hq)
                    ⟨h 0 (by decide), h 1 (by decide), h 2 (by decide), h 3 (by decide), h 4 (by decide), h 5 (by decide), h 6 (by decide), h 7 (by decide), h 8 (by decide), h 9 (by decide), h 10 (by decide), h 11 (by decide)⟩)
                  have HTO := Lib.hid (fun wx => to_any x px lm pc wx)
                  have HSM := Lib.hid (fun (wx : World) (hb : Below w22.heap.size w22 wx) => show Calls Try.prog 19 #[mval x (.slice px lm pc), mval x (.slice xm lm cm)] wx fun e w' => e = .returned (.bool true) ∧ Below wx.heap.size wx w' from by
                    have h9 := rsame_any x x (.slice px lm pc) (.slice xm lm cm) wx (HF3.out.mono hb (Nat.le_refl _)) (HXB.out.mono (HH1.out.bel.trans ((HB2.out.trans (hb.mono HB2.out.size)).mono HH1.out.bel.size)) (Nat.le_refl _)) HXL.out
                    rwa [sameM_self] at h9)
                  have HUX := Lib.hid (show Below w22.heap.size w22 w22.drew from (Below.refl _ _).drew)
                  refine wp_region_held_drew (S := (fun wx => Below w22.heap.size w22 wx)) (by kernel_rfl) (HUX.out) (fun hHeld => ?_)
                  obtain ⟨q0w, hq0w⟩ : ∃ q, w22.drew = q := ⟨_, rfl⟩
                  rw [hq0w] at HUX hHeld
                  rw [hq0w]
                  clear hq0w
                  refine wpAnyH_take (i := 0) (v := ?_) rfl (by kernel_rfl) (by kernel_rfl) (by kernel_rfl) (fun _ _ _ h => h) (Or.inl ⟨by rfl, ?_⟩) (by assumption) ?_
                  rotate_left 1
                  · intro w hSw
                    (try dsimp only at hSw)
                    go_simp
                    all_goals (with_reducible rfl)
                  try simp only [Act.put, List.getElem_toArray, List.getElem_cons_zero, List.getElem_cons_succ, List.setIfInBounds_toArray, List.set_cons_zero, List.set_cons_succ]
                  refine wpAnyH_ready (rs := [1]) (by kernel_rfl) (by simp) ?_
                  refine AllReadyH.cons rfl (fun K hK => ?_) AllReadyH.nil
                  go_simp
                  refine (code_nil _).mono ?_
                  rintro e u ⟨rfl, rfl⟩
                  refine hK.out _ _ (by first | exact hHeld | exact HUX.out) (fun hHeld => ?_)
                  clear hK K
                  try simp only [Act.put, List.getElem_toArray, List.getElem_cons_zero, List.getElem_cons_succ, List.setIfInBounds_toArray, List.set_cons_zero, List.set_cons_succ]
                  refine wpAnyH_take (i := 2) (v := ?_) rfl (by kernel_rfl) (by kernel_rfl) (by kernel_rfl) (fun _ _ _ h => h) (Or.inl ⟨by rfl, ?_⟩) (by assumption) ?_
                  rotate_left 1
                  · intro w hSw
                    (try dsimp only at hSw)
                    go_simp
                    all_goals (with_reducible rfl)
                  try simp only [Act.put, List.getElem_toArray, List.getElem_cons_zero, List.getElem_cons_succ, List.setIfInBounds_toArray, List.set_cons_zero, List.set_cons_succ]
                  refine wpAnyH_take (i := 3) (v := ?_) rfl (by kernel_rfl) (by kernel_rfl) (by kernel_rfl) (fun _ _ _ h => h) (Or.inl ⟨by rfl, ?_⟩) (by assumption) ?_
                  rotate_left 1
                  · intro w hSw
                    (try dsimp only at hSw)
                    go_simp
                    all_goals (with_reducible rfl)
                  try simp only [Act.put, List.getElem_toArray, List.getElem_cons_zero, List.getElem_cons_succ, List.setIfInBounds_toArray, List.set_cons_zero, List.set_cons_succ]
                  refine wpAnyH_take (i := 4) (v := ?_) rfl (by kernel_rfl) (by kernel_rfl) (by kernel_rfl) (fun _ _ _ h => h) (Or.inl ⟨by rfl, ?_⟩) (by assumption) ?_
                  rotate_left 1
                  · intro w hSw
                    obtain ⟨p0, p1, p2, p3, p4, p5, p6, p7, p8, p9, p10, p11⟩ := HC14.out w hSw
                    go_simp
                    all_goals (with_reducible rfl)
                  try simp only [Act.put, List.getElem_toArray, List.getElem_cons_zero, List.getElem_cons_succ, List.setIfInBounds_toArray, List.set_cons_zero, List.set_cons_succ]
                  refine wpAnyH_take (i := 6) (v := ?_) rfl (by kernel_rfl) (by kernel_rfl) (by kernel_rfl) (fun _ _ _ h => h) (Or.inl ⟨by rfl, ?_⟩) (by assumption) ?_
                  rotate_left 1
                  · intro w hSw
                    (try dsimp only at hSw)
                    go_simp
                    all_goals (with_reducible rfl)
                  try simp only [Act.put, List.getElem_toArray, List.getElem_cons_zero, List.getElem_cons_succ, List.setIfInBounds_toArray, List.set_cons_zero, List.set_cons_succ]
                  refine wpAnyH_take (i := 7) (v := ?_) rfl (by kernel_rfl) (by kernel_rfl) (by kernel_rfl) (fun _ _ _ h => h) (Or.inl ⟨by rfl, ?_⟩) (by assumption) ?_
                  rotate_left 1
                  · intro w hSw
                    have p1 := HC5.out w hSw
                    go_simp
                    all_goals (with_reducible rfl)
                  try simp only [Act.put, List.getElem_toArray, List.getElem_cons_zero, List.getElem_cons_succ, List.setIfInBounds_toArray, List.set_cons_zero, List.set_cons_succ]
                  refine wpAnyH_take (i := 8) (v := ?_) rfl (by kernel_rfl) (by kernel_rfl) (by kernel_rfl) (fun _ _ _ h => h) (Or.inl ⟨by rfl, ?_⟩) (by assumption) ?_
                  rotate_left 1
                  · intro w hSw
                    (try dsimp only at hSw)
                    go_simp
                    all_goals (with_reducible rfl)
                  try simp only [Act.put, List.getElem_toArray, List.getElem_cons_zero, List.getElem_cons_succ, List.setIfInBounds_toArray, List.set_cons_zero, List.set_cons_succ]
                  refine wpAnyH_take (i := 9) (v := ?_) rfl (by kernel_rfl) (by kernel_rfl) (by kernel_rfl) (fun _ _ _ h => h) (Or.inl ⟨by rfl, ?_⟩) (by assumption) ?_
                  rotate_left 1
                  · intro w hSw
                    (try dsimp only at hSw)
                    go_simp
                    all_goals (with_reducible rfl)
                  try simp only [Act.put, List.getElem_toArray, List.getElem_cons_zero, List.getElem_cons_succ, List.setIfInBounds_toArray, List.set_cons_zero, List.set_cons_succ]
                  refine wpAnyH_take (i := 10) (v := ?_) rfl (by kernel_rfl) (by kernel_rfl) (by kernel_rfl) (fun _ _ _ h => h) (Or.inl ⟨by rfl, ?_⟩) (by assumption) ?_
                  rotate_left 1
                  · intro w hSw
                    obtain ⟨p0, p1, p2, p3, p4, p5, p6, p7, p8, p9, p10, p11⟩ := HCX.out w hSw
                    go_simp
                    all_goals (with_reducible rfl)
                  try simp only [Act.put, List.getElem_toArray, List.getElem_cons_zero, List.getElem_cons_succ, List.setIfInBounds_toArray, List.set_cons_zero, List.set_cons_succ]
                  refine wpAnyH_ready (rs := [5]) (by kernel_rfl) (by simp) ?_
                  refine AllReadyH.cons rfl (fun K hK => ?_) AllReadyH.nil
                  go_simp
                  refine (HTO.out _).mono ?_
                  rintro e u1 ⟨rfl, hbx⟩
                  have HUn := Lib.hid (HUX.out.trans (hbx.mono HUX.out.size))
                  clear hbx HUX
                  have HUX := HUn
                  clear HUn
                  refine hK.out _ _ (by first | exact hHeld | exact HUX.out) (fun hHeld => ?_)
                  clear hK K
                  try simp only [Act.put, List.getElem_toArray, List.getElem_cons_zero, List.getElem_cons_succ, List.setIfInBounds_toArray, List.set_cons_zero, List.set_cons_succ]
                  refine wpAnyH_ready (rs := [11]) (by kernel_rfl) (by simp) ?_
                  refine AllReadyH.cons rfl (fun K hK => ?_) AllReadyH.nil
                  go_simp
                  refine (HSM.out _ HUX.out).mono ?_
                  rintro e u1 ⟨rfl, hbx⟩
                  have HUn := Lib.hid (HUX.out.trans (hbx.mono HUX.out.size))
                  clear hbx HUX
                  have HUX := HUn
                  clear HUn
                  refine hK.out _ _ (by first | exact hHeld | exact HUX.out) (fun hHeld => ?_)
                  clear hK K
                  try simp only [Act.put, List.getElem_toArray, List.getElem_cons_zero, List.getElem_cons_succ, List.setIfInBounds_toArray, List.set_cons_zero, List.set_cons_succ]
                  refine wpAnyH_take (i := 12) (v := ?_) rfl (by kernel_rfl) (by kernel_rfl) (by kernel_rfl) (fun _ _ _ h => h) (Or.inl ⟨by rfl, ?_⟩) (by assumption) ?_
                  rotate_left 1
                  · intro w hSw
                    (try dsimp only at hSw)
                    go_simp
                    all_goals (with_reducible rfl)
                  try simp only [Act.put, List.getElem_toArray, List.getElem_cons_zero, List.getElem_cons_succ, List.setIfInBounds_toArray, List.set_cons_zero, List.set_cons_succ]
                  refine wpAnyH_take (i := 13) (v := ?_) rfl (by kernel_rfl) (by kernel_rfl) (by kernel_rfl) (fun _ _ _ h => h) (Or.inl ⟨by rfl, ?_⟩) (by assumption) ?_
                  rotate_left 1
                  · intro w hSw
                    (try dsimp only at hSw)
                    go_simp
                    all_goals (with_reducible rfl)
                  try simp only [Act.put, List.getElem_toArray, List.getElem_cons_zero, List.getElem_cons_succ, List.setIfInBounds_toArray, List.set_cons_zero, List.set_cons_succ]
                  refine wpAnyH_done (by kernel_rfl) ?_ _
                  have HBN := Lib.hid (HB2.out.trans (HUX.out.mono HB2.out.size))
                  go_wp2
                  go_roundw
                  case rel => exact ⟨k2 + 1, by omega, by go_num, HBN⟩
                  case measure => simp [intOf]; omega
              · have HHQ := Lib.hid (HHq)
                have HLQ := Lib.hid (HLq)
                have HSLN := Lib.hid (show ∀ b, liesX (.slice yl ml kl) ml b → ¬ S1 b ∧ b ≠ X5 from fun b hb => ⟨HLQ.out.nl b hb, (HSL1.out b hb).2⟩)
                have HSCN := Lib.hid (show ∀ b, liesX (.slice yc mc kc) mc b → ¬ S1 b ∧ b ≠ X5 from fun b hb => ⟨HLQ.out.nc b (by rw [HLC1.out]; exact hb), (HSC1.out b hb).2⟩)
                clear HHq HLq
                as_aux_lemma =>
                  go_wp2
                  go_roundw
                  case rel => exact ⟨i' + 1, n1, S1, l', cs', yl, ml, kl, yc, mc, kc, by omega, by go_num, HMC.out, HHQ, HDN1, HLL1, HLC1, Lib.hid HLQ.out.b5, Lib.hid HLQ.out.rl, HRD1, HXS1, Lib.hid HLQ.out.rc, HSLN, HSCN, Lib.hid HLQ.out.n5⟩
                  case measure => simp [intOf]; omega
        · have c50 := HBX.out.cell 0 rfl
          have hpk0 : peekK n (ll : Int) = 6 := by
            unfold peekK
            rw [if_neg]
            rw [← HDN.out, dnet_len, HLL.out]
            omega
          have hpm : peekM n (ll : Int) = mz := by
            unfold peekM
            rw [if_neg (by rw [hpk0]; decide)]
          have hpk := npeek_any (ll : Int) wr HHr.out.nt
          rw [hpk0, hpm, show cerr 6 = .iface 69 (.int .i64 6) from rfl, show mz.n.data.length = 0 from rfl] at hpk
          have HPK := Lib.hid hpk
          have HBr := Lib.hid HHr.out.bel
          have HCC := Lib.hid (fun wx => code_code 6 wx (by decide) (by decide))
          clear hpk hpk0 hpm HACT HOKN HHr HDN HLL HLC HBX HRL HRD HXS HRC HSL HSC HSX
          as_aux_lemma =>
            go_wp2_with fail
            refine HPK.out.mono ?_
            rintro e wp ⟨px, pc, rfl, hf, hlf, hb⟩
            have HBe := Lib.hid (HBr.out.trans (hb.mono HBr.out.size))
            clear hf hlf hb
            go_wp2_with fail
            refine (HCC.out _).mono ?_
            rintro e wq ⟨rfl, rfl⟩
            go_wp2
            go_ret
            exact ⟨rfl, HBe.out.alloc HBe.out.size _⟩

end Go.Proofs.Ytofhbnnheadmlaa
