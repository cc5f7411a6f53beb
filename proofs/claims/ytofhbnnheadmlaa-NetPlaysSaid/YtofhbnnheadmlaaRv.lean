/- The document's net (layer 15) by contracts: Do of a cut or a join that may be. -/
import Derived.Test.YtofhbnnheadmlaaRs
set_option linter.unusedVariables false
set_option linter.unusedSimpArgs false
namespace Go.Proofs.Ytofhbnnheadmlaa
open Go.RowKit Go.Cor

theorem Try.infoPair : (Try.prog.info? 67).map (fun i => (i.zero, i.size, i.bytes)) = some (some (.agg #[.int .i64 0, .int .i64 0]), 2, 16) := by kernel_rfl
set_option maxRecDepth 100000 in
set_option maxHeartbeats 8000000 in
theorem rdo_cut (xl : Option Addr) (ll cl : Nat) (xc : Option Addr) (lc cc : Nat) (kk ai ak : Int) (fr tt kd vo li : Int) (id : Nat) (co : Int) (has : Bool) (key ck : Nat) (gn : Bool) (x : Option Addr) (L c : Nat) (w : World) (cs : List (Int × Int)) (h4 : 4 ≤ kk) (hr : 0 ≤ ai ∧ ai ≤ 255 ∧ 0 ≤ ak ∧ ak ≤ 255 ∧ ai ≠ ak) (hcl : cs.length = lc) (hclb : lc ≤ 1048576) (hc : IsC w (.slice xc lc cc) cs) :
    Calls Try.prog 9 #[.agg #[.slice xl ll cl, .slice xc lc cc], .agg #[.int .i64 kk, .int .i64 ai, .int .i64 ak, .int .i64 fr, .int .i64 tt, .int .i64 kd, .int .i64 vo, .int .i64 li, .int .u64 (id : Int), .int .i64 co, .bool has, .int .u64 (key : Int), .int .u32 (ck : Int), .bool gn, .slice x L c]] w fun e w' => ∃ y k, e = .returned (.tuple #[.agg #[.slice xl ll cl, .slice y (cutP cs ai ak (kk == 4)).length k], .agg #[.int .i64 0, .int .i64 0, .int .i64 0, .int .i64 0, .int .i64 0, .int .u64 0, .int .i64 0, .bool false, .int .u64 0, .int .u32 0, .bool false, .slice none 0 0], .int .i64 0]) ∧ IsC w' (.slice y (cutP cs ai ak (kk == 4)).length k) (cutP cs ai ak (kk == 4)) ∧ (∀ b, liesX (.slice y (cutP cs ai ak (kk == 4)).length k) (cutP cs ai ak (kk == 4)).length b → w.heap.size ≤ b) ∧ Below w.heap.size w w' := by
  obtain ⟨j0, hj0, hy0, hy1, hy2⟩ := info_parts Try.infoPair
  obtain ⟨NN, hNN⟩ : ∃ z, (cutP cs ai ak (kk == 4)).length = z := ⟨_, rfl⟩
  obtain ⟨R, hRR⟩ : ∃ z, cutP cs ai ak (kk == 4) = z := ⟨_, rfl⟩
  rw [hNN, hRR]
  rw [hRR] at hNN
  have HNR := Lib.hid hNN
  have HRR := Lib.hid hRR
  clear hNN hRR
  have k0 : (kk == 0) = false := beq_eq_false_iff_ne.2 (by omega)
  have kab : (ai == ak) = false := beq_eq_false_iff_ne.2 hr.2.2.2.2
  have r0 : ¬ ai < 0 := by omega
  have r1 : ¬ 255 < ai := by omega
  have r2 : ¬ ak < 0 := by omega
  have r3 : ¬ 255 < ak := by omega
  have hB0 := Below.refl w.heap.size w
  have hB1 := hB0.alloc (by simp) (.cells #[.slice xl ll cl, .slice xc lc cc] 38)
  have hB2 := hB1.alloc (by simp) (.cells #[.int .i64 kk, .int .i64 ai, .int .i64 ak, .int .i64 fr, .int .i64 tt, .int .i64 kd, .int .i64 vo, .int .i64 li, .int .u64 (id : Int), .int .i64 co, .bool has, .int .u64 (key : Int), .int .u32 (ck : Int), .bool gn, .slice x L c] 32)
  have hB3 := hB2.alloc (by simp; omega) (.cells #[.slice none 0 0, .slice none 0 0] 38)
  have hB4 := hB3.alloc (by simp; omega) (.cells #[.int .i64 0, .int .i64 0, .int .i64 0, .int .i64 0, .int .i64 0, .int .u64 0, .int .i64 0, .bool false, .int .u64 0, .int .u32 0, .bool false, .slice none 0 0] 30)
  have hB5 := hB4.alloc (by simp; omega) (.cells #[.int .i64 0, .int .i64 0, .int .i64 0, .int .i64 0, .int .i64 0, .int .u64 0, .int .i64 0, .bool false, .int .u64 0, .int .u32 0, .bool false, .slice none 0 0] 30)
  have hx0 := (((((Blk.new w #[.slice xl ll cl, .slice xc lc cc] 38).alloc (.cells #[.int .i64 kk, .int .i64 ai, .int .i64 ak, .int .i64 fr, .int .i64 tt, .int .i64 kd, .int .i64 vo, .int .i64 li, .int .u64 (id : Int), .int .i64 co, .bool has, .int .u64 (key : Int), .int .u32 (ck : Int), .bool gn, .slice x L c] 32)).alloc (.cells #[.slice none 0 0, .slice none 0 0] 38)).alloc (.cells #[.int .i64 0, .int .i64 0, .int .i64 0, .int .i64 0, .int .i64 0, .int .u64 0, .int .i64 0, .bool false, .int .u64 0, .int .u32 0, .bool false, .slice none 0 0] 30)).alloc (.cells #[.int .i64 0, .int .i64 0, .int .i64 0, .int .i64 0, .int .i64 0, .int .u64 0, .int .i64 0, .bool false, .int .u64 0, .int .u32 0, .bool false, .slice none 0 0] 30))
  have hx1 := ((((Blk.new (w.alloc (.cells #[.slice xl ll cl, .slice xc lc cc] 38)) #[.int .i64 kk, .int .i64 ai, .int .i64 ak, .int .i64 fr, .int .i64 tt, .int .i64 kd, .int .i64 vo, .int .i64 li, .int .u64 (id : Int), .int .i64 co, .bool has, .int .u64 (key : Int), .int .u32 (ck : Int), .bool gn, .slice x L c] 32).alloc (.cells #[.slice none 0 0, .slice none 0 0] 38)).alloc (.cells #[.int .i64 0, .int .i64 0, .int .i64 0, .int .i64 0, .int .i64 0, .int .u64 0, .int .i64 0, .bool false, .int .u64 0, .int .u32 0, .bool false, .slice none 0 0] 30)).alloc (.cells #[.int .i64 0, .int .i64 0, .int .i64 0, .int .i64 0, .int .i64 0, .int .u64 0, .int .i64 0, .bool false, .int .u64 0, .int .u32 0, .bool false, .slice none 0 0] 30))
  rw [show (w.alloc (.cells #[.slice xl ll cl, .slice xc lc cc] 38)).heap.size = w.heap.size + 1 by simp] at hx1
  have hx2 := (((Blk.new ((w.alloc (.cells #[.slice xl ll cl, .slice xc lc cc] 38)).alloc (.cells #[.int .i64 kk, .int .i64 ai, .int .i64 ak, .int .i64 fr, .int .i64 tt, .int .i64 kd, .int .i64 vo, .int .i64 li, .int .u64 (id : Int), .int .i64 co, .bool has, .int .u64 (key : Int), .int .u32 (ck : Int), .bool gn, .slice x L c] 32)) #[.slice none 0 0, .slice none 0 0] 38).alloc (.cells #[.int .i64 0, .int .i64 0, .int .i64 0, .int .i64 0, .int .i64 0, .int .u64 0, .int .i64 0, .bool false, .int .u64 0, .int .u32 0, .bool false, .slice none 0 0] 30)).alloc (.cells #[.int .i64 0, .int .i64 0, .int .i64 0, .int .i64 0, .int .i64 0, .int .u64 0, .int .i64 0, .bool false, .int .u64 0, .int .u32 0, .bool false, .slice none 0 0] 30))
  rw [show ((w.alloc (.cells #[.slice xl ll cl, .slice xc lc cc] 38)).alloc (.cells #[.int .i64 kk, .int .i64 ai, .int .i64 ak, .int .i64 fr, .int .i64 tt, .int .i64 kd, .int .i64 vo, .int .i64 li, .int .u64 (id : Int), .int .i64 co, .bool has, .int .u64 (key : Int), .int .u32 (ck : Int), .bool gn, .slice x L c] 32)).heap.size = w.heap.size + 1 + 1 by simp] at hx2
  have hx3 := ((Blk.new (((w.alloc (.cells #[.slice xl ll cl, .slice xc lc cc] 38)).alloc (.cells #[.int .i64 kk, .int .i64 ai, .int .i64 ak, .int .i64 fr, .int .i64 tt, .int .i64 kd, .int .i64 vo, .int .i64 li, .int .u64 (id : Int), .int .i64 co, .bool has, .int .u64 (key : Int), .int .u32 (ck : Int), .bool gn, .slice x L c] 32)).alloc (.cells #[.slice none 0 0, .slice none 0 0] 38)) #[.int .i64 0, .int .i64 0, .int .i64 0, .int .i64 0, .int .i64 0, .int .u64 0, .int .i64 0, .bool false, .int .u64 0, .int .u32 0, .bool false, .slice none 0 0] 30).alloc (.cells #[.int .i64 0, .int .i64 0, .int .i64 0, .int .i64 0, .int .i64 0, .int .u64 0, .int .i64 0, .bool false, .int .u64 0, .int .u32 0, .bool false, .slice none 0 0] 30))
  rw [show (((w.alloc (.cells #[.slice xl ll cl, .slice xc lc cc] 38)).alloc (.cells #[.int .i64 kk, .int .i64 ai, .int .i64 ak, .int .i64 fr, .int .i64 tt, .int .i64 kd, .int .i64 vo, .int .i64 li, .int .u64 (id : Int), .int .i64 co, .bool has, .int .u64 (key : Int), .int .u32 (ck : Int), .bool gn, .slice x L c] 32)).alloc (.cells #[.slice none 0 0, .slice none 0 0] 38)).heap.size = w.heap.size + 1 + 1 + 1 by simp] at hx3
  have hx4 := (Blk.new ((((w.alloc (.cells #[.slice xl ll cl, .slice xc lc cc] 38)).alloc (.cells #[.int .i64 kk, .int .i64 ai, .int .i64 ak, .int .i64 fr, .int .i64 tt, .int .i64 kd, .int .i64 vo, .int .i64 li, .int .u64 (id : Int), .int .i64 co, .bool has, .int .u64 (key : Int), .int .u32 (ck : Int), .bool gn, .slice x L c] 32)).alloc (.cells #[.slice none 0 0, .slice none 0 0] 38)).alloc (.cells #[.int .i64 0, .int .i64 0, .int .i64 0, .int .i64 0, .int .i64 0, .int .u64 0, .int .i64 0, .bool false, .int .u64 0, .int .u32 0, .bool false, .slice none 0 0] 30)) #[.int .i64 0, .int .i64 0, .int .i64 0, .int .i64 0, .int .i64 0, .int .u64 0, .int .i64 0, .bool false, .int .u64 0, .int .u32 0, .bool false, .slice none 0 0] 30)
  rw [show ((((w.alloc (.cells #[.slice xl ll cl, .slice xc lc cc] 38)).alloc (.cells #[.int .i64 kk, .int .i64 ai, .int .i64 ak, .int .i64 fr, .int .i64 tt, .int .i64 kd, .int .i64 vo, .int .i64 li, .int .u64 (id : Int), .int .i64 co, .bool has, .int .u64 (key : Int), .int .u32 (ck : Int), .bool gn, .slice x L c] 32)).alloc (.cells #[.slice none 0 0, .slice none 0 0] 38)).alloc (.cells #[.int .i64 0, .int .i64 0, .int .i64 0, .int .i64 0, .int .i64 0, .int .u64 0, .int .i64 0, .bool false, .int .u64 0, .int .u32 0, .bool false, .slice none 0 0] 30)).heap.size = w.heap.size + 1 + 1 + 1 + 1 by simp] at hx4
  have hX := hc
  unfold IsC at hX
  rw [hcl] at hX
  obtain ⟨w1, hw1⟩ : ∃ z, (((((w.alloc (.cells #[.slice xl ll cl, .slice xc lc cc] 38)).alloc (.cells #[.int .i64 kk, .int .i64 ai, .int .i64 ak, .int .i64 fr, .int .i64 tt, .int .i64 kd, .int .i64 vo, .int .i64 li, .int .u64 (id : Int), .int .i64 co, .bool has, .int .u64 (key : Int), .int .u32 (ck : Int), .bool gn, .slice x L c] 32)).alloc (.cells #[.slice none 0 0, .slice none 0 0] 38)).alloc (.cells #[.int .i64 0, .int .i64 0, .int .i64 0, .int .i64 0, .int .i64 0, .int .u64 0, .int .i64 0, .bool false, .int .u64 0, .int .u32 0, .bool false, .slice none 0 0] 30)).alloc (.cells #[.int .i64 0, .int .i64 0, .int .i64 0, .int .i64 0, .int .i64 0, .int .u64 0, .int .i64 0, .bool false, .int .u64 0, .int .u32 0, .bool false, .slice none 0 0] 30)) = z := ⟨_, rfl⟩
  rw [hw1] at hB5 hx0 hx1 hx2 hx3 hx4
  have HXC := Lib.hid (fun (wx : World) (hb : Below w.heap.size w wx) => hX.mono hb (Nat.le_refl _))
  have HW1 := Lib.hid hw1
  have HB6 := Lib.hid hB5
  have HY0 := Lib.hid hx0
  have HY1 := Lib.hid hx1
  have HY2 := Lib.hid hx2
  have HY3 := Lib.hid hx3
  have HY4 := Lib.hid hx4
  have HCL := Lib.hid hcl
  have HR := Lib.hid hr
  clear hw1 hB0 hB1 hB2 hB3 hB4 hB5 hx0 hx1 hx2 hx3 hx4 hX hc hcl hr
  go_enter Try.func9, Try.ntmps9
  go_upto_region 13 with fail
  rw [HW1.out]
  go_wp2_with fail
  go_loopw [9, 10] (fun a b wr => ∃ (i : Nat) (y : Option Addr) (n k : Nat) (F : List (Int × Int)), i ≤ lc ∧ a = .slice y n k ∧ b = .int .i64 i ∧ Hid ((cs.take i).filter (fun z : Int × Int => ! pairB z ai ak) = F) ∧ Hid (F.length = n) ∧ n ≤ i ∧ Hid (wr.ownsRow w1.heap.size 67 2 (.slice y n k) n (row pcl F)) ∧ Hid (Below w1.heap.size w1 wr)) (fun _ b _ => lc - (intOf b).toNat)
  case atStart => exact ⟨0, none, 0, 0, [], Nat.zero_le _, rfl, rfl, Lib.hid rfl, Lib.hid rfl, Nat.le_refl _, Lib.hid (World.ownsRow_nil _ _ _ _), Lib.hid (Below.refl _ _)⟩
  case round =>
    obtain ⟨i, y, n, k, F, hilc, rfl, rfl, HF, HN, hni, HO, HB⟩ := hrel
    have hz0 := HY0.out.below HB.out HY0.out.lt
    have hz1 := HY1.out.below HB.out HY1.out.lt
    have HZ0 := Lib.hid hz0
    have HZ1 := Lib.hid hz1
    have HBW := Lib.hid (HB6.out.trans (HB.out.mono HB6.out.size))
    have hXr := HXC.out wr HBW.out
    have hlen := fun W => len_X (P := Try.prog) hXr 36 3 67 Try.underlying36 W
    have p0 := HZ0.out.cell 0 rfl
    have p1 := HZ0.out.cell 1 rfl
    have a0 := HZ1.out.cell 0 rfl
    have a1 := HZ1.out.cell 1 rfl
    have a2 := HZ1.out.cell 2 rfl
    have z0 : w.heap.size < wr.heap.size := HZ0.out.lt
    have z1 : w.heap.size + 1 < wr.heap.size := HZ1.out.lt
    clear hz0 hz1
    by_cases hlt : i < lc
    · obtain ⟨b0, o0, hidx, _, hcell⟩ := indexAt_X hXr 36 67 Try.underlying36 Try.sizePair i hlt
      obtain ⟨⟨p, q⟩, hpq⟩ : ∃ x, cs[i]'(by rw [HCL.out]; exact hlt) = x := ⟨_, rfl⟩
      have HTK := Lib.hid (show cs.take (i + 1) = cs.take i ++ [(p, q)] from by rw [List.take_succ_eq_append_getElem (by rw [HCL.out]; exact hlt), hpq])
      have c0 := hcell 0 (by decide)
      have c1 := hcell 1 (by decide)
      rw [row2_at cs (x := (p, q)) (by rw [List.getElem?_eq_getElem (by rw [HCL.out]; exact hlt), hpq]) _ (by decide)] at c0 c1
      have e0 : wr.cell? ⟨b0, o0, none⟩ = some (.int .i64 p) := c0
      have e1 : wr.cell? ⟨b0, o0 + 1, none⟩ = some (.int .i64 q) := c1
      have z2 : b0 < wr.heap.size := cell_lt e0
      have HBX := Lib.hid (bel_alloc15 wr (.cells #[.int .i64 p, .int .i64 q] 67))
      clear hcell hpq c0 c1 hXr
      by_cases hpa : p = ai
      · by_cases hqb : q = ak
        · have kpa : (p == ai) = true := beq_iff_eq.2 hpa
          have Hpa := Lib.hid hpa
          clear hpa
          have kqb : (q == ak) = true := beq_iff_eq.2 hqb
          have Hqb := Lib.hid hqb
          clear hqb
          have HF1 := Lib.hid (show ((cs.take (i + 1)).filter (fun z : Int × Int => ! pairB z ai ak)) = F from by
            rw [HTK.out, List.filter_append, List.filter_cons_of_neg (by rw [show pairB (p, q) ai ak = true from decide_eq_true (by dsimp only; exact .inl ⟨Hpa.out, Hqb.out⟩)]; simp), List.filter_nil, List.append_nil, HF.out])
          have HOW3 := Lib.hid (ownsRow_below HO.out HBX.out (Nat.le_refl _))
          have HBW3 := Lib.hid (HB.out.trans (HBX.out.mono HB.out.size))
          go_wp2
          go_roundw
          case rel => exact ⟨i + 1, y, n, k, F, by omega, rfl, by go_num, HF1, HN.out, by omega, HOW3, HBW3⟩
          case measure => simp [intOf]; omega
        · by_cases hpb : p = ak
          · by_cases hqa : q = ai
            · have kpa : (p == ai) = true := beq_iff_eq.2 hpa
              have Hpa := Lib.hid hpa
              clear hpa
              have kqb : (q == ak) = false := beq_eq_false_iff_ne.2 hqb
              have Hqb := Lib.hid hqb
              clear hqb
              have kpb : (p == ak) = true := beq_iff_eq.2 hpb
              have Hpb := Lib.hid hpb
              clear hpb
              have kqa : (q == ai) = true := beq_iff_eq.2 hqa
              have Hqa := Lib.hid hqa
              clear hqa
              have HF1 := Lib.hid (show ((cs.take (i + 1)).filter (fun z : Int × Int => ! pairB z ai ak)) = F from by
                rw [HTK.out, List.filter_append, List.filter_cons_of_neg (by rw [show pairB (p, q) ai ak = true from decide_eq_true (by dsimp only; exact .inr ⟨Hpb.out, Hqa.out⟩)]; simp), List.filter_nil, List.append_nil, HF.out])
              have HOW3 := Lib.hid (ownsRow_below HO.out HBX.out (Nat.le_refl _))
              have HBW3 := Lib.hid (HB.out.trans (HBX.out.mono HB.out.size))
              go_wp2
              go_roundw
              case rel => exact ⟨i + 1, y, n, k, F, by omega, rfl, by go_num, HF1, HN.out, by omega, HOW3, HBW3⟩
              case measure => simp [intOf]; omega
            · have kpa : (p == ai) = true := beq_iff_eq.2 hpa
              have Hpa := Lib.hid hpa
              clear hpa
              have kqb : (q == ak) = false := beq_eq_false_iff_ne.2 hqb
              have Hqb := Lib.hid hqb
              clear hqb
              have kpb : (p == ak) = true := beq_iff_eq.2 hpb
              have Hpb := Lib.hid hpb
              clear hpb
              have kqa : (q == ai) = false := beq_eq_false_iff_ne.2 hqa
              have Hqa := Lib.hid hqa
              clear hqa
              have hno : pairB (p, q) ai ak = false := decide_eq_false (by dsimp only; rintro (⟨e1, e2⟩ | ⟨e1, e2⟩) <;> first | exact Hqb.out e1 | exact Hqb.out e2 | exact Hqa.out e1 | exact Hqa.out e2)
              have HF1 := Lib.hid (show ((cs.take (i + 1)).filter (fun z : Int × Int => ! pairB z ai ak)) = F ++ [(p, q)] from by
                rw [HTK.out, List.filter_append, List.filter_cons_of_pos (by rw [hno]; rfl), List.filter_nil, HF.out])
              clear hno
              have HLIT := Lib.hid (IsX.litAt14 (wr.alloc (.cells #[.int .i64 p, .int .i64 q] 67)) #[.int .i64 p, .int .i64 q] 67 2 1 (wr.heap.size + 1) (by simp) rfl (by decide))
              have HOW2 := Lib.hid (ownsRow_below (ownsRow_below HO.out HBX.out (Nat.le_refl _)) (bel_alloc15 (wr.alloc (.cells #[.int .i64 p, .int .i64 q] 67)) (.cells #[.int .i64 p, .int .i64 q] 67)) (Nat.le_refl _))
              have HSZ := Lib.hid (show w1.heap.size ≤ ((wr.alloc (.cells #[.int .i64 p, .int .i64 q] 67)).alloc (.cells #[.int .i64 p, .int .i64 q] 67)).heap.size from by have h1 := HB.out.size; simp; omega)
              have HONE := Lib.hid (show ∀ u ∈ (#[.int .i64 p, .int .i64 q] : Array Value).toList, u.oneCell' = true from by intro v hv; simp at hv; rcases hv with rfl | rfl <;> rfl)
              go_wp2_with (at_builtin; refine wpList_append_X (by rfl) _ _ 36 36 rfl (fun _ _ _ => rfl) w1.heap.size 67 j0 _ 2 16 Try.underlying36 hj0 hy0 hy1 hy2 rfl (by decide) _ (row pcl F) n rfl HOW2.out _ 1 _ rfl HLIT.out HONE.out (by unfold maxLen; omega) (by omega) HSZ.out ?_)
              intro v4 w4 hown4 hgr4 _
              obtain ⟨y4, k4, rfl, _, _⟩ := Go.Cor.ownsRow_slice hown4
              have HOW4 := Lib.hid (show w4.ownsRow w1.heap.size 67 2 (.slice y4 (n + 1) k4) (n + 1) (row pcl (F ++ [(p, q)])) from by rw [row_append, row_one]; exact hown4)
              have HBW4 := Lib.hid (show Below w1.heap.size w1 w4 from ((HB.out.trans (HBX.out.mono HB.out.size)).alloc (by have h1 := HB.out.size; have h2 := HBX.out.size; omega) _).grown hgr4 HSZ.out (fun j hj => (HOW2.out.lt j hj).1))
              clear hown4 hgr4
              go_wp2
              go_roundw
              case rel => exact ⟨i + 1, y4, n + 1, k4, F ++ [(p, q)], by omega, rfl, by go_num, HF1, Lib.hid (by rw [List.length_append, HN.out]; rfl), by omega, HOW4, HBW4⟩
              case measure => simp [intOf]; omega
          · have kpa : (p == ai) = true := beq_iff_eq.2 hpa
            have Hpa := Lib.hid hpa
            clear hpa
            have kqb : (q == ak) = false := beq_eq_false_iff_ne.2 hqb
            have Hqb := Lib.hid hqb
            clear hqb
            have kpb : (p == ak) = false := beq_eq_false_iff_ne.2 hpb
            have Hpb := Lib.hid hpb
            clear hpb
            have hno : pairB (p, q) ai ak = false := decide_eq_false (by dsimp only; rintro (⟨e1, e2⟩ | ⟨e1, e2⟩) <;> first | exact Hqb.out e1 | exact Hqb.out e2 | exact Hpb.out e1 | exact Hpb.out e2)
            have HF1 := Lib.hid (show ((cs.take (i + 1)).filter (fun z : Int × Int => ! pairB z ai ak)) = F ++ [(p, q)] from by
              rw [HTK.out, List.filter_append, List.filter_cons_of_pos (by rw [hno]; rfl), List.filter_nil, HF.out])
            clear hno
            have HLIT := Lib.hid (IsX.litAt14 (wr.alloc (.cells #[.int .i64 p, .int .i64 q] 67)) #[.int .i64 p, .int .i64 q] 67 2 1 (wr.heap.size + 1) (by simp) rfl (by decide))
            have HOW2 := Lib.hid (ownsRow_below (ownsRow_below HO.out HBX.out (Nat.le_refl _)) (bel_alloc15 (wr.alloc (.cells #[.int .i64 p, .int .i64 q] 67)) (.cells #[.int .i64 p, .int .i64 q] 67)) (Nat.le_refl _))
            have HSZ := Lib.hid (show w1.heap.size ≤ ((wr.alloc (.cells #[.int .i64 p, .int .i64 q] 67)).alloc (.cells #[.int .i64 p, .int .i64 q] 67)).heap.size from by have h1 := HB.out.size; simp; omega)
            have HONE := Lib.hid (show ∀ u ∈ (#[.int .i64 p, .int .i64 q] : Array Value).toList, u.oneCell' = true from by intro v hv; simp at hv; rcases hv with rfl | rfl <;> rfl)
            go_wp2_with (at_builtin; refine wpList_append_X (by rfl) _ _ 36 36 rfl (fun _ _ _ => rfl) w1.heap.size 67 j0 _ 2 16 Try.underlying36 hj0 hy0 hy1 hy2 rfl (by decide) _ (row pcl F) n rfl HOW2.out _ 1 _ rfl HLIT.out HONE.out (by unfold maxLen; omega) (by omega) HSZ.out ?_)
            intro v4 w4 hown4 hgr4 _
            obtain ⟨y4, k4, rfl, _, _⟩ := Go.Cor.ownsRow_slice hown4
            have HOW4 := Lib.hid (show w4.ownsRow w1.heap.size 67 2 (.slice y4 (n + 1) k4) (n + 1) (row pcl (F ++ [(p, q)])) from by rw [row_append, row_one]; exact hown4)
            have HBW4 := Lib.hid (show Below w1.heap.size w1 w4 from ((HB.out.trans (HBX.out.mono HB.out.size)).alloc (by have h1 := HB.out.size; have h2 := HBX.out.size; omega) _).grown hgr4 HSZ.out (fun j hj => (HOW2.out.lt j hj).1))
            clear hown4 hgr4
            go_wp2
            go_roundw
            case rel => exact ⟨i + 1, y4, n + 1, k4, F ++ [(p, q)], by omega, rfl, by go_num, HF1, Lib.hid (by rw [List.length_append, HN.out]; rfl), by omega, HOW4, HBW4⟩
            case measure => simp [intOf]; omega
      · by_cases hpb : p = ak
        · by_cases hqa : q = ai
          · have kpa : (p == ai) = false := beq_eq_false_iff_ne.2 hpa
            have Hpa := Lib.hid hpa
            clear hpa
            have kpb : (p == ak) = true := beq_iff_eq.2 hpb
            have Hpb := Lib.hid hpb
            clear hpb
            have kqa : (q == ai) = true := beq_iff_eq.2 hqa
            have Hqa := Lib.hid hqa
            clear hqa
            have HF1 := Lib.hid (show ((cs.take (i + 1)).filter (fun z : Int × Int => ! pairB z ai ak)) = F from by
              rw [HTK.out, List.filter_append, List.filter_cons_of_neg (by rw [show pairB (p, q) ai ak = true from decide_eq_true (by dsimp only; exact .inr ⟨Hpb.out, Hqa.out⟩)]; simp), List.filter_nil, List.append_nil, HF.out])
            have HOW3 := Lib.hid (ownsRow_below HO.out HBX.out (Nat.le_refl _))
            have HBW3 := Lib.hid (HB.out.trans (HBX.out.mono HB.out.size))
            go_wp2
            go_roundw
            case rel => exact ⟨i + 1, y, n, k, F, by omega, rfl, by go_num, HF1, HN.out, by omega, HOW3, HBW3⟩
            case measure => simp [intOf]; omega
          · have kpa : (p == ai) = false := beq_eq_false_iff_ne.2 hpa
            have Hpa := Lib.hid hpa
            clear hpa
            have kpb : (p == ak) = true := beq_iff_eq.2 hpb
            have Hpb := Lib.hid hpb
            clear hpb
            have kqa : (q == ai) = false := beq_eq_false_iff_ne.2 hqa
            have Hqa := Lib.hid hqa
            clear hqa
            have hno : pairB (p, q) ai ak = false := decide_eq_false (by dsimp only; rintro (⟨e1, e2⟩ | ⟨e1, e2⟩) <;> first | exact Hpa.out e1 | exact Hpa.out e2 | exact Hqa.out e1 | exact Hqa.out e2)
            have HF1 := Lib.hid (show ((cs.take (i + 1)).filter (fun z : Int × Int => ! pairB z ai ak)) = F ++ [(p, q)] from by
              rw [HTK.out, List.filter_append, List.filter_cons_of_pos (by rw [hno]; rfl), List.filter_nil, HF.out])
            clear hno
            have HLIT := Lib.hid (IsX.litAt14 (wr.alloc (.cells #[.int .i64 p, .int .i64 q] 67)) #[.int .i64 p, .int .i64 q] 67 2 1 (wr.heap.size + 1) (by simp) rfl (by decide))
            have HOW2 := Lib.hid (ownsRow_below (ownsRow_below HO.out HBX.out (Nat.le_refl _)) (bel_alloc15 (wr.alloc (.cells #[.int .i64 p, .int .i64 q] 67)) (.cells #[.int .i64 p, .int .i64 q] 67)) (Nat.le_refl _))
            have HSZ := Lib.hid (show w1.heap.size ≤ ((wr.alloc (.cells #[.int .i64 p, .int .i64 q] 67)).alloc (.cells #[.int .i64 p, .int .i64 q] 67)).heap.size from by have h1 := HB.out.size; simp; omega)
            have HONE := Lib.hid (show ∀ u ∈ (#[.int .i64 p, .int .i64 q] : Array Value).toList, u.oneCell' = true from by intro v hv; simp at hv; rcases hv with rfl | rfl <;> rfl)
            go_wp2_with (at_builtin; refine wpList_append_X (by rfl) _ _ 36 36 rfl (fun _ _ _ => rfl) w1.heap.size 67 j0 _ 2 16 Try.underlying36 hj0 hy0 hy1 hy2 rfl (by decide) _ (row pcl F) n rfl HOW2.out _ 1 _ rfl HLIT.out HONE.out (by unfold maxLen; omega) (by omega) HSZ.out ?_)
            intro v4 w4 hown4 hgr4 _
            obtain ⟨y4, k4, rfl, _, _⟩ := Go.Cor.ownsRow_slice hown4
            have HOW4 := Lib.hid (show w4.ownsRow w1.heap.size 67 2 (.slice y4 (n + 1) k4) (n + 1) (row pcl (F ++ [(p, q)])) from by rw [row_append, row_one]; exact hown4)
            have HBW4 := Lib.hid (show Below w1.heap.size w1 w4 from ((HB.out.trans (HBX.out.mono HB.out.size)).alloc (by have h1 := HB.out.size; have h2 := HBX.out.size; omega) _).grown hgr4 HSZ.out (fun j hj => (HOW2.out.lt j hj).1))
            clear hown4 hgr4
            go_wp2
            go_roundw
            case rel => exact ⟨i + 1, y4, n + 1, k4, F ++ [(p, q)], by omega, rfl, by go_num, HF1, Lib.hid (by rw [List.length_append, HN.out]; rfl), by omega, HOW4, HBW4⟩
            case measure => simp [intOf]; omega
        · have kpa : (p == ai) = false := beq_eq_false_iff_ne.2 hpa
          have Hpa := Lib.hid hpa
          clear hpa
          have kpb : (p == ak) = false := beq_eq_false_iff_ne.2 hpb
          have Hpb := Lib.hid hpb
          clear hpb
          have hno : pairB (p, q) ai ak = false := decide_eq_false (by dsimp only; rintro (⟨e1, e2⟩ | ⟨e1, e2⟩) <;> first | exact Hpa.out e1 | exact Hpa.out e2 | exact Hpb.out e1 | exact Hpb.out e2)
          have HF1 := Lib.hid (show ((cs.take (i + 1)).filter (fun z : Int × Int => ! pairB z ai ak)) = F ++ [(p, q)] from by
            rw [HTK.out, List.filter_append, List.filter_cons_of_pos (by rw [hno]; rfl), List.filter_nil, HF.out])
          clear hno
          have HLIT := Lib.hid (IsX.litAt14 (wr.alloc (.cells #[.int .i64 p, .int .i64 q] 67)) #[.int .i64 p, .int .i64 q] 67 2 1 (wr.heap.size + 1) (by simp) rfl (by decide))
          have HOW2 := Lib.hid (ownsRow_below (ownsRow_below HO.out HBX.out (Nat.le_refl _)) (bel_alloc15 (wr.alloc (.cells #[.int .i64 p, .int .i64 q] 67)) (.cells #[.int .i64 p, .int .i64 q] 67)) (Nat.le_refl _))
          have HSZ := Lib.hid (show w1.heap.size ≤ ((wr.alloc (.cells #[.int .i64 p, .int .i64 q] 67)).alloc (.cells #[.int .i64 p, .int .i64 q] 67)).heap.size from by have h1 := HB.out.size; simp; omega)
          have HONE := Lib.hid (show ∀ u ∈ (#[.int .i64 p, .int .i64 q] : Array Value).toList, u.oneCell' = true from by intro v hv; simp at hv; rcases hv with rfl | rfl <;> rfl)
          go_wp2_with (at_builtin; refine wpList_append_X (by rfl) _ _ 36 36 rfl (fun _ _ _ => rfl) w1.heap.size 67 j0 _ 2 16 Try.underlying36 hj0 hy0 hy1 hy2 rfl (by decide) _ (row pcl F) n rfl HOW2.out _ 1 _ rfl HLIT.out HONE.out (by unfold maxLen; omega) (by omega) HSZ.out ?_)
          intro v4 w4 hown4 hgr4 _
          obtain ⟨y4, k4, rfl, _, _⟩ := Go.Cor.ownsRow_slice hown4
          have HOW4 := Lib.hid (show w4.ownsRow w1.heap.size 67 2 (.slice y4 (n + 1) k4) (n + 1) (row pcl (F ++ [(p, q)])) from by rw [row_append, row_one]; exact hown4)
          have HBW4 := Lib.hid (show Below w1.heap.size w1 w4 from ((HB.out.trans (HBX.out.mono HB.out.size)).alloc (by have h1 := HB.out.size; have h2 := HBX.out.size; omega) _).grown hgr4 HSZ.out (fun j hj => (HOW2.out.lt j hj).1))
          clear hown4 hgr4
          go_wp2
          go_roundw
          case rel => exact ⟨i + 1, y4, n + 1, k4, F ++ [(p, q)], by omega, rfl, by go_num, HF1, Lib.hid (by rw [List.length_append, HN.out]; rfl), by omega, HOW4, HBW4⟩
          case measure => simp [intOf]; omega
    · obtain rfl : i = lc := by omega
      have hcz : cs.take i = cs := List.take_of_length_le (by rw [HCL.out]; exact Nat.le_refl _)
      have hFF : cs.filter (fun z : Int × Int => ! pairB z ai ak) = F := by
        have := HF.out
        rwa [hcz] at this
      by_cases h5 : kk = 4
      · have k5 : (kk == 4) = true := beq_iff_eq.2 h5
        have HRF := Lib.hid (show R = F ++ [(ai, ak)] from by rw [← HRR.out, k5]; unfold cutP; rw [hFF, if_pos rfl])
        have HNN := Lib.hid (show n + 1 = NN from by rw [← HNR.out, HRF.out, List.length_append, HN.out]; rfl)
        have HLIT := Lib.hid (IsX.litAt14 wr #[.int .i64 ai, .int .i64 ak] 67 2 1 wr.heap.size rfl rfl (by decide))
        have HOW2 := Lib.hid (ownsRow_below HO.out (bel_alloc15 wr (.cells #[.int .i64 ai, .int .i64 ak] 67)) (Nat.le_refl _))
        have HSZ := Lib.hid (show w1.heap.size ≤ (wr.alloc (.cells #[.int .i64 ai, .int .i64 ak] 67)).heap.size from by have h1 := HB.out.size; simp; omega)
        have HONE := Lib.hid (show ∀ u ∈ (#[.int .i64 ai, .int .i64 ak] : Array Value).toList, u.oneCell' = true from by intro v hv; simp at hv; rcases hv with rfl | rfl <;> rfl)
        clear h5 hFF hcz
        go_wp2_with (at_builtin; refine wpList_append_X (by rfl) _ _ 36 36 rfl (fun _ _ _ => rfl) w1.heap.size 67 j0 _ 2 16 Try.underlying36 hj0 hy0 hy1 hy2 rfl (by decide) _ (row pcl F) n rfl HOW2.out _ 1 _ rfl HLIT.out HONE.out (by unfold maxLen; omega) (by omega) HSZ.out ?_)
        intro v4 w9 hown4 hgr4 _
        rw [HNN.out] at hown4
        obtain ⟨y9, k9, rfl, _, _⟩ := Go.Cor.ownsRow_slice hown4
        have HO9 := Lib.hid (show w9.ownsRow w1.heap.size 67 2 (.slice y9 NN k9) NN (row pcl R) from by rw [HRF.out, row_append, row_one]; exact hown4)
        have HB9 := Lib.hid (show Below w1.heap.size w1 w9 from (HB.out.alloc HB.out.size _).grown hgr4 HSZ.out (fun j hj => (HOW2.out.lt j hj).1))
        clear hown4 hgr4 p0 p1 a0 a1 a2 hlen hXr
        have hbq := HB9.out
        have hb9 : Below w.heap.size w w9 := HB6.out.trans (hbq.mono HB6.out.size)
        have hlo : ∀ b, liesX (.slice y9 NN k9) NN b → w1.heap.size ≤ b := fun b hb => (HO9.out.lt b hb.2).1
        have hR0 := HY0.out.below hbq HY0.out.lt
        have hR2 := HY2.out.below hbq HY2.out.lt
        have hR3 := HY3.out.below hbq HY3.out.lt
        have hR4 := HY4.out.below hbq HY4.out.lt
        have pf := fun j => hR0.free j
        have p0 := hR0.cell 0 rfl
        have p1 := hR0.cell 1 rfl
        have hS0 := hR0.set 1 (.slice y9 NN k9)
        simp at hS0
        have hS2 := hR2.other (a := ⟨w.heap.size, 1, none⟩) (by show w.heap.size ≠ _; omega) (.slice y9 NN k9)
        have hS3 := hR3.other (a := ⟨w.heap.size, 1, none⟩) (by show w.heap.size ≠ _; omega) (.slice y9 NN k9)
        have hS4 := hR4.other (a := ⟨w.heap.size, 1, none⟩) (by show w.heap.size ≠ _; omega) (.slice y9 NN k9)
        have hB9s := hb9.setCell (p := ⟨w.heap.size, 1, none⟩) (Nat.le_refl _) (.slice y9 NN k9)
        have hK5 := (Kept.refl (fun j => j = w.heap.size) w9).setCell (p := ⟨w.heap.size, 1, none⟩) (.inl rfl) (.slice y9 NN k9)
        have hsz := HY0.out.lt
        have hsz4 := HY4.out.lt
        have hI5 := (IsX.own HO9.out).kept hK5 (fun b hb e => by have := hlo b hb; omega)
        obtain ⟨w5, hw5⟩ : ∃ z, w9.setCell ⟨w.heap.size, 1, none⟩ (.slice y9 NN k9) = z := ⟨_, rfl⟩
        rw [hw5] at hS0 hS2 hS3 hS4 hB9s hI5
        have HW5 := Lib.hid hw5
        have HR0 := Lib.hid hR0
        have HS0 := Lib.hid hS0
        have HS2 := Lib.hid hS2
        have HS3 := Lib.hid hS3
        have HS4 := Lib.hid hS4
        have HB9s := Lib.hid hB9s
        have HI5 := Lib.hid hI5
        have HLO := Lib.hid hlo
        clear hlo hbq hb9 hR2 hR3 hR4 hS0 hS2 hS3 hS4 hB9s hK5 hI5 hw5 hR0
        go_upto_region 23 with fail
        try rw [HW5.out]
        clear pf p0 p1
        have HFN := fin14 HS2.out HS3.out (by omega) HB9s.out (by omega) (by omega) (.slice xl ll cl) (.slice y9 NN k9) (.int .i64 0) (.int .i64 0) (.int .i64 0) (.int .i64 0) (.int .i64 0) (.int .u64 0) (.int .i64 0) (.bool false) (.int .u64 0) (.int .u32 0) (.bool false) (.slice none 0 0)
        obtain ⟨wf, hwf⟩ : ∃ z, set14 w5 (w.heap.size + 1 + 1) (w.heap.size + 1 + 1 + 1) (.slice xl ll cl) (.slice y9 NN k9) (.int .i64 0) (.int .i64 0) (.int .i64 0) (.int .i64 0) (.int .i64 0) (.int .u64 0) (.int .i64 0) (.bool false) (.int .u64 0) (.int .u32 0) (.bool false) (.slice none 0 0) = z := ⟨_, rfl⟩
        rw [hwf] at HFN
        unfold set14 at hwf
        have HWF := Lib.hid hwf
        have HFN := Lib.hid HFN
        clear hwf
        have p0 := HS0.out.cell 0 rfl
        have p1 := HS0.out.cell 1 rfl
        have s0 := HS4.out.cell 0 rfl
        have s1 := HS4.out.cell 1 rfl
        have s2 := HS4.out.cell 2 rfl
        have s3 := HS4.out.cell 3 rfl
        have s4 := HS4.out.cell 4 rfl
        have s5 := HS4.out.cell 5 rfl
        have s6 := HS4.out.cell 6 rfl
        have s7 := HS4.out.cell 7 rfl
        have s8 := HS4.out.cell 8 rfl
        have s9 := HS4.out.cell 9 rfl
        have s10 := HS4.out.cell 10 rfl
        have s11 := HS4.out.cell 11 rfl
        have q0 := HS2.out.cell 0 rfl
        have q1 := HS2.out.cell 1 rfl
        have r0 := HS3.out.cell 0 rfl
        have r1 := HS3.out.cell 1 rfl
        have r2 := HS3.out.cell 2 rfl
        have r3 := HS3.out.cell 3 rfl
        have r4 := HS3.out.cell 4 rfl
        have r5 := HS3.out.cell 5 rfl
        have r6 := HS3.out.cell 6 rfl
        have r7 := HS3.out.cell 7 rfl
        have r8 := HS3.out.cell 8 rfl
        have r9 := HS3.out.cell 9 rfl
        have r10 := HS3.out.cell 10 rfl
        have r11 := HS3.out.cell 11 rfl
        have qf := fun j => HS2.out.free j
        have rf := fun j => HS3.out.free j
        go_region
        go_wp2
        rw [HWF.out]
        obtain ⟨g1, g2, g3, g4⟩ := HFN.out
        have f0 := g1.cell 0 rfl
        have f1 := g1.cell 1 rfl
        have e0 := g2.cell 0 rfl
        have e1 := g2.cell 1 rfl
        have e2 := g2.cell 2 rfl
        have e3 := g2.cell 3 rfl
        have e4 := g2.cell 4 rfl
        have e5 := g2.cell 5 rfl
        have e6 := g2.cell 6 rfl
        have e7 := g2.cell 7 rfl
        have e8 := g2.cell 8 rfl
        have e9 := g2.cell 9 rfl
        have e10 := g2.cell 10 rfl
        have e11 := g2.cell 11 rfl
        exact bodyPost_ret (v := .tuple #[.agg #[.slice xl ll cl, .slice y9 NN k9], .agg #[.int .i64 0, .int .i64 0, .int .i64 0, .int .i64 0, .int .i64 0, .int .u64 0, .int .i64 0, .bool false, .int .u64 0, .int .u32 0, .bool false, .slice none 0 0], .int .i64 0]) (by simp [results, Try.results9, go_sem, f0, f1, e0, e1, e2, e3, e4, e5, e6, e7, e8, e9, e10, e11]) rfl ⟨y9, k9, rfl, by unfold IsC; rw [HNR.out]; exact HI5.out.kept g4.drew (fun b hb e => by have := HLO.out b hb; rcases e with e | e <;> omega), fun b hb => by have := HLO.out b hb; omega, g3.drew⟩
      · have k5 : (kk == 4) = false := beq_eq_false_iff_ne.2 h5
        have HRF := Lib.hid (show R = F from by rw [← HRR.out, k5]; unfold cutP; rw [hFF, if_neg (by decide), List.append_nil])
        obtain rfl : n = NN := by rw [← HNR.out, HRF.out, HN.out]
        have HO9 := Lib.hid (show wr.ownsRow w1.heap.size 67 2 (.slice y n k) n (row pcl R) from by rw [HRF.out]; exact HO.out)
        have HB9 := HB
        clear h5 hFF hcz hlen hXr
        obtain ⟨w9, hw9⟩ : ∃ z, wr = z := ⟨_, rfl⟩
        subst hw9
        go_upto_region 22 with fail
        clear p0 p1 a0 a1 a2
        have hbq := HB9.out
        have hb9 : Below w.heap.size w wr := HB6.out.trans (hbq.mono HB6.out.size)
        have hlo : ∀ b, liesX (.slice y n k) n b → w1.heap.size ≤ b := fun b hb => (HO9.out.lt b hb.2).1
        have hR0 := HY0.out.below hbq HY0.out.lt
        have hR2 := HY2.out.below hbq HY2.out.lt
        have hR3 := HY3.out.below hbq HY3.out.lt
        have hR4 := HY4.out.below hbq HY4.out.lt
        have pf := fun j => hR0.free j
        have p0 := hR0.cell 0 rfl
        have p1 := hR0.cell 1 rfl
        have hS0 := hR0.set 1 (.slice y n k)
        simp at hS0
        have hS2 := hR2.other (a := ⟨w.heap.size, 1, none⟩) (by show w.heap.size ≠ _; omega) (.slice y n k)
        have hS3 := hR3.other (a := ⟨w.heap.size, 1, none⟩) (by show w.heap.size ≠ _; omega) (.slice y n k)
        have hS4 := hR4.other (a := ⟨w.heap.size, 1, none⟩) (by show w.heap.size ≠ _; omega) (.slice y n k)
        have hB9s := hb9.setCell (p := ⟨w.heap.size, 1, none⟩) (Nat.le_refl _) (.slice y n k)
        have hK5 := (Kept.refl (fun j => j = w.heap.size) wr).setCell (p := ⟨w.heap.size, 1, none⟩) (.inl rfl) (.slice y n k)
        have hsz := HY0.out.lt
        have hsz4 := HY4.out.lt
        have hI5 := (IsX.own HO9.out).kept hK5 (fun b hb e => by have := hlo b hb; omega)
        obtain ⟨w5, hw5⟩ : ∃ z, wr.setCell ⟨w.heap.size, 1, none⟩ (.slice y n k) = z := ⟨_, rfl⟩
        rw [hw5] at hS0 hS2 hS3 hS4 hB9s hI5
        have HW5 := Lib.hid hw5
        have HR0 := Lib.hid hR0
        have HS0 := Lib.hid hS0
        have HS2 := Lib.hid hS2
        have HS3 := Lib.hid hS3
        have HS4 := Lib.hid hS4
        have HB9s := Lib.hid hB9s
        have HI5 := Lib.hid hI5
        have HLO := Lib.hid hlo
        clear hlo hbq hb9 hR2 hR3 hR4 hS0 hS2 hS3 hS4 hB9s hK5 hI5 hw5 hR0
        go_upto_region 23 with fail
        try rw [HW5.out]
        clear pf p0 p1
        have HFN := fin14 HS2.out HS3.out (by omega) HB9s.out (by omega) (by omega) (.slice xl ll cl) (.slice y n k) (.int .i64 0) (.int .i64 0) (.int .i64 0) (.int .i64 0) (.int .i64 0) (.int .u64 0) (.int .i64 0) (.bool false) (.int .u64 0) (.int .u32 0) (.bool false) (.slice none 0 0)
        obtain ⟨wf, hwf⟩ : ∃ z, set14 w5 (w.heap.size + 1 + 1) (w.heap.size + 1 + 1 + 1) (.slice xl ll cl) (.slice y n k) (.int .i64 0) (.int .i64 0) (.int .i64 0) (.int .i64 0) (.int .i64 0) (.int .u64 0) (.int .i64 0) (.bool false) (.int .u64 0) (.int .u32 0) (.bool false) (.slice none 0 0) = z := ⟨_, rfl⟩
        rw [hwf] at HFN
        unfold set14 at hwf
        have HWF := Lib.hid hwf
        have HFN := Lib.hid HFN
        clear hwf
        have p0 := HS0.out.cell 0 rfl
        have p1 := HS0.out.cell 1 rfl
        have s0 := HS4.out.cell 0 rfl
        have s1 := HS4.out.cell 1 rfl
        have s2 := HS4.out.cell 2 rfl
        have s3 := HS4.out.cell 3 rfl
        have s4 := HS4.out.cell 4 rfl
        have s5 := HS4.out.cell 5 rfl
        have s6 := HS4.out.cell 6 rfl
        have s7 := HS4.out.cell 7 rfl
        have s8 := HS4.out.cell 8 rfl
        have s9 := HS4.out.cell 9 rfl
        have s10 := HS4.out.cell 10 rfl
        have s11 := HS4.out.cell 11 rfl
        have q0 := HS2.out.cell 0 rfl
        have q1 := HS2.out.cell 1 rfl
        have r0 := HS3.out.cell 0 rfl
        have r1 := HS3.out.cell 1 rfl
        have r2 := HS3.out.cell 2 rfl
        have r3 := HS3.out.cell 3 rfl
        have r4 := HS3.out.cell 4 rfl
        have r5 := HS3.out.cell 5 rfl
        have r6 := HS3.out.cell 6 rfl
        have r7 := HS3.out.cell 7 rfl
        have r8 := HS3.out.cell 8 rfl
        have r9 := HS3.out.cell 9 rfl
        have r10 := HS3.out.cell 10 rfl
        have r11 := HS3.out.cell 11 rfl
        have qf := fun j => HS2.out.free j
        have rf := fun j => HS3.out.free j
        go_region
        go_wp2
        rw [HWF.out]
        obtain ⟨g1, g2, g3, g4⟩ := HFN.out
        have f0 := g1.cell 0 rfl
        have f1 := g1.cell 1 rfl
        have e0 := g2.cell 0 rfl
        have e1 := g2.cell 1 rfl
        have e2 := g2.cell 2 rfl
        have e3 := g2.cell 3 rfl
        have e4 := g2.cell 4 rfl
        have e5 := g2.cell 5 rfl
        have e6 := g2.cell 6 rfl
        have e7 := g2.cell 7 rfl
        have e8 := g2.cell 8 rfl
        have e9 := g2.cell 9 rfl
        have e10 := g2.cell 10 rfl
        have e11 := g2.cell 11 rfl
        exact bodyPost_ret (v := .tuple #[.agg #[.slice xl ll cl, .slice y n k], .agg #[.int .i64 0, .int .i64 0, .int .i64 0, .int .i64 0, .int .i64 0, .int .u64 0, .int .i64 0, .bool false, .int .u64 0, .int .u32 0, .bool false, .slice none 0 0], .int .i64 0]) (by simp [results, Try.results9, go_sem, f0, f1, e0, e1, e2, e3, e4, e5, e6, e7, e8, e9, e10, e11]) rfl ⟨y, k, rfl, by unfold IsC; rw [HNR.out]; exact HI5.out.kept g4.drew (fun b hb e => by have := HLO.out b hb; rcases e with e | e <;> omega), fun b hb => by have := HLO.out b hb; omega, g3.drew⟩

end Go.Proofs.Ytofhbnnheadmlaa
