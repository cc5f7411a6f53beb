/- The statement 'ShipPages' holds: for every input the law's function returns true, and leaves its arguments as they were. Condition: the row's listed package variables (tables of numbers) hold at the call's start what the program's text lays in them; the card ties that to the text. -/
import Derived.Test.YtoblbipkkdiddaaGreatDoorM1
import Derived.Test.YtoblbipkkdiddaaGreatDoorM2
import Derived.Test.YtoblbipkkdiddaaGreatDoorM3
import Derived.Test.YtoblbipkkdiddaaGreatDoorM4
import Derived.Test.YtoblbipkkdiddaaGreatDoorM5
import Derived.Test.YtoblbipkkdiddaaGreatDoorM6
import Derived.Test.YtoblbipkkdiddaaGreatDoorM7
import Derived.Test.YtoblbipkkdiddaaGreatDoorM8
import Derived.Test.YtoblbipkkdiddaaGreatDoorM9
import Derived.Test.YtoblbipkkdiddaaGreatDoorM10
import Derived.Test.YtoblbipkkdiddaaGreatDoorM11
import Derived.Test.YtoblbipkkdiddaaGreatDoorM12
import Derived.Test.YtoblbipkkdiddaaGreatDoorM13
import Derived.Test.YtoblbipkkdiddaaGreatDoorM14
import Derived.Test.YtoblbipkkdiddaaGreatDoorM15
import Derived.Test.YtoblbipkkdiddaaGreatDoorM16
import Derived.Test.YtoblbipkkdiddaaGreatDoorM17
import Derived.Test.YtoblbipkkdiddaaGreatDoorCards
import Derived.Test.YtoblbipkkdiddaaGreatDoorTie
import Derived.WalkKit
import Derived.ProofKit
import Derived.OpenShut
import Derived.ShutString
import Derived.ChangeOld
import Derived.Below
import Derived.SevenTiedAt
import Derived.Deep.DeepHandedRow
import Derived.Lib.LaidTab
set_option linter.unusedVariables false
set_option linter.unusedSimpArgs false

section
namespace Go.Proofs.YtoblbipkkdiddaaGreatDoor
open Go.RowKit Go.Cor

theorem Tryz.idxSz (R c i : Nat) (hi : i < 2) (W : World) : (Instr.indexAt 69 (.slice (some ⟨R, 0, none⟩) 2 c) (.int .i64 (i : Int))).run Tryz.prog W = .ok (.pointer (some ⟨R, i, none⟩)) W := by
  rcases (show i = 0 ∨ i = 1 by omega) with rfl | rfl <;> kernel_rfl
theorem Tryz.idxCt (C i : Nat) (hi : i < 2) (W : World) : (Instr.indexAt 70 (.pointer (some ⟨C, 0, none⟩)) (.int .i64 (i : Int))).run Tryz.prog W = .ok (.pointer (some ⟨C, i, none⟩)) W := by
  rcases (show i = 0 ∨ i = 1 by omega) with rfl | rfl <;> kernel_rfl
/-- Which needle of a load is which one of all. -/
theorem _root_.Go.Cor.Vst.load_get {s : Vst} {fr most j P : Nat} {qs : List (Ndl × Value)} (hq : qs.map (·.1) = s.load fr most) (hP : psn s.idx fr = P) (hj : j < qs.length) : P + j < s.idx.length ∧ ∃ n u, qs[j]? = some (n, u) ∧ n.key = (pat s.idx (P + j)).key ∧ (pat s.idx (P + j)).gone = n.gone := by
  have hl := congrArg List.length hq
  rw [List.length_map, s.load_len, hP] at hl
  have hlt : P + j < s.idx.length := by omega
  obtain ⟨n, h1, _, h3, h4, _⟩ := s.tops_get hlt
  have h2 : (qs.map (·.1))[j]? = s.tops[P + j]? := by
    rw [hq]
    unfold Vst.load
    rw [List.getElem?_take, if_pos (by omega), List.getElem?_drop, hP]
  rw [List.getElem?_map, List.getElem?_eq_getElem hj, h1] at h2
  simp only [Option.map_some, Option.some.injEq] at h2
  exact ⟨hlt, n, qs[j].2, by rw [List.getElem?_eq_getElem hj, ← h2], h3, h4⟩

set_option maxRecDepth 100000 in
set_option maxHeartbeats 4000000 in
theorem shipPages_all (v : Value) (l : List A9v) (na ka : Nat) (w : World) (h : IsA w v l) (hf : ∀ x ∈ l, x.1.n.fits) (hna : na < 256) (hka : ka < 256) :
    Calls Tryz.prog 6 #[v, .int .u8 (na : Int), .int .u8 (ka : Int)] w fun e w' => e = .returned (.bool true) ∧ Below w.heap.size w w' := by
  have HA := Lib.hid (alive13 w)
  have HH := Lib.hid h
  have HF := Lib.hid hf
  have HFA := Lib.hid (fun wx (hb : Below w.heap.size w wx) => far_w v l wx (HH.out.mono hb (Nat.le_refl _)))
  cases hr : farA (l.map (·.1)) with
  | true =>
    rw [hr] at HFA
    clear hr h hf
    go_enter Tryz.func6, Tryz.ntmps6
    go_wp2_with fail
    refine HA.out.mono ?_
    rintro e w1 ⟨rfl, hb⟩
    have HB := Lib.hid hb
    clear hb
    go_wp2_with fail
    refine (HFA.out _ HB.out).mono ?_
    rintro e w2 ⟨rfl, rfl⟩
    go_wp2
    go_ret
    exact ⟨rfl, HB.out⟩
  | false =>
    have HM := Lib.hid (fun wx (hb : Below w.heap.size w wx) => made_any 1 1048576 (by decide) (by decide) (by decide) (by decide) v l wx (HH.out.mono hb (Nat.le_refl _)) (far_few hr).1 (far_few hr).2 HF.out)
    have HL60 := Lib.hid (far_few hr).1
    rw [hr] at HFA
    clear hr h hf
    go_enter Tryz.func6, Tryz.ntmps6
    go_wp2_with fail
    refine HA.out.mono ?_
    rintro e w1 ⟨rfl, hb⟩
    have HB := Lib.hid hb
    clear hb
    go_wp2_with fail
    refine (HFA.out _ HB.out).mono ?_
    rintro e w1' ⟨rfl, rfl⟩
    go_wp2_with fail
    refine (HM.out _ HB.out).mono ?_
    rintro e w2 ⟨g, p, S, d, k, s, lv, dv, ps, rfl, hr, hdoc, hb, hS, hm⟩
    obtain ⟨lx, lc, rfl, _, _⟩ := IsX.slice hdoc.l
    obtain ⟨dx, dc, rfl, _, _⟩ := IsX.slice hdoc.d.1
    obtain ⟨I, hI⟩ : ∃ I, s.idx.length = I := ⟨_, rfl⟩
    obtain ⟨N, hN⟩ : ∃ N, ps.length = N := ⟨_, rfl⟩
    have hI60 : I ≤ 60 := by have := s.idx_len; have := hm.ns; have := HL60.out; omega
    rw [hI, hN] at hdoc ⊢
    have HR := Lib.hid hr
    have HL := Lib.hid hdoc.l
    have HB2 := Lib.hid (HB.out.trans (hb.mono HB.out.size))
    have HI := Lib.hid hI
    clear hr hdoc hb hS hm hI hN HM HFA HA HB
    go_upto_region 6 with fail
    obtain ⟨w3, hw3⟩ : ∃ w3, w2.alloc (.cells #[.int .i64 (s.num : Int), .int .i64 (s.most : Int), .int .i64 (s.epoch : Int), .int .i64 (s.size : Int), .bool s.shut, .slice lx I lc, .slice dx N dc] 30) = w3 := ⟨_, rfl⟩
    have hb3 := below_alloc w2 (.cells #[.int .i64 (s.num : Int), .int .i64 (s.most : Int), .int .i64 (s.epoch : Int), .int .i64 (s.size : Int), .bool s.shut, .slice lx I lc, .slice dx N dc] 30)
    have hV3 := Blk.new w2 #[.int .i64 (s.num : Int), .int .i64 (s.most : Int), .int .i64 (s.epoch : Int), .int .i64 (s.size : Int), .bool s.shut, .slice lx I lc, .slice dx N dc] 30
    rw [hw3] at hb3 hV3
    rw [hw3]
    obtain ⟨B, hBq⟩ : ∃ B, w2.heap.size = B := ⟨_, rfl⟩
    have HT3 := Lib.hid (show Vready w3 g p S d k s ∧ Q.IsP w3 (.slice lx I lc) s.idx ∧ Blk w3 B #[.int .i64 (s.num : Int), .int .i64 (s.most : Int), .int .i64 (s.epoch : Int), .int .i64 (s.size : Int), .bool s.shut, .slice lx I lc, .slice dx N dc] 30 ∧ Below w.heap.size w w3 from
      ⟨HR.out.below hb3, HL.out.mono hb3 (Nat.le_refl _), hBq ▸ hV3, HB2.out.trans (hb3.mono HB2.out.size)⟩)
    try rw [hBq]
    clear hw3 hb3 hV3 hBq HR HL HB2
    obtain ⟨A0, hA0⟩ : ∃ A0, na % 64 = A0 := ⟨_, rfl⟩
    obtain ⟨A1, hA1⟩ : ∃ A1, ka % 64 = A1 := ⟨_, rfl⟩
    have er0 : ((na : Int) % 64) = (A0 : Int) := by rw [← hA0]; rfl
    have er1 : ((ka : Int) % 64) = (A1 : Int) := by rw [← hA1]; rfl
    have ha0 : A0 < 64 := by rw [← hA0]; exact Nat.mod_lt _ (by decide)
    have ha1 : A1 < 64 := by rw [← hA1]; exact Nat.mod_lt _ (by decide)
    have e10 : IntKind.i64.wrap (1 + (A0 : Int)) = ((A0 + 1 : Nat) : Int) := by rw [IntWalk.i64_in _ (by omega)]; omega
    have e11 : IntKind.i64.wrap (1 + (A1 : Int)) = ((A1 + 1 : Nat) : Int) := by rw [IntWalk.i64_in _ (by omega)]; omega
    clear hA0 hA1
    go_upto_region 9 with fail
    try rw [er0]
    try rw [er1]
    clear er0 er1 e10 e11
    have hb4 := below_alloc w3 (.cells #[.int .i64 ((A0 : Int) + 1), .int .i64 ((A1 : Int) + 1)] 3)
    have hR4 := Blk.new w3 #[.int .i64 ((A0 : Int) + 1), .int .i64 ((A1 : Int) + 1)] 3
    obtain ⟨w4, hw4⟩ : ∃ w4, w3.alloc (.cells #[.int .i64 ((A0 : Int) + 1), .int .i64 ((A1 : Int) + 1)] 3) = w4 := ⟨_, rfl⟩
    obtain ⟨R, hRq⟩ : ∃ R, w3.heap.size = R := ⟨_, rfl⟩
    rw [hw4] at hb4 hR4
    rw [hRq] at hR4
    rw [hw4]
    try rw [hRq]
    have HT4 := Lib.hid (show Vready w4 g p S d k s ∧ Q.IsP w4 (.slice lx I lc) s.idx ∧ Blk w4 B #[.int .i64 (s.num : Int), .int .i64 (s.most : Int), .int .i64 (s.epoch : Int), .int .i64 (s.size : Int), .bool s.shut, .slice lx I lc, .slice dx N dc] 30 ∧ Blk w4 R #[.int .i64 ((A0 : Int) + 1), .int .i64 ((A1 : Int) + 1)] 3 ∧ Below w.heap.size w w4 from
      ⟨HT3.out.1.below hb4, HT3.out.2.1.mono hb4 (Nat.le_refl _), HT3.out.2.2.1.below hb4 HT3.out.2.2.1.lt, hR4, HT3.out.2.2.2.trans (hb4.mono HT3.out.2.2.2.size)⟩)
    clear hw4 hRq hb4 hR4 HT3
    go_upto_region 10 with fail
    have hC5 := Blk.new w4 #[.int .i64 0, .int .i64 0] 70
    have hb5 := below_alloc w4 (.cells #[.int .i64 0, .int .i64 0] 70)
    obtain ⟨w5, hw5⟩ : ∃ w5, w4.alloc (.cells #[.int .i64 0, .int .i64 0] 70) = w5 := ⟨_, rfl⟩
    obtain ⟨C, hCq⟩ : ∃ C, w4.heap.size = C := ⟨_, rfl⟩
    rw [hw5] at hb5 hC5
    rw [hCq] at hC5 
    try rw [hw5]
    try rw [hCq]
    have HB5 := Lib.hid hb5
    have HC5 := Lib.hid hC5
    have HCQ := Lib.hid hCq
    clear hw5 hCq hb5 hC5
    go_wp2_with fail
    go_loopw [12] (fun c wr => ∃ i a b : Nat, i ≤ 2 ∧ c = .int .i64 (i : Int) ∧ (1 ≤ i → a = I) ∧ (2 ≤ i → b = I) ∧ Hid (Below w4.heap.size w4 wr) ∧ Hid (Blk wr C #[.int .i64 (a : Int), .int .i64 (b : Int)] 70)) (fun c _ => (2 - intOf c).toNat)
    case atStart => exact ⟨0, 0, 0, by omega, rfl, by omega, by omega, HB5, HC5⟩
    case round =>
      obtain ⟨i, a, b, hi2, rfl, hai, hbi, HW, HC⟩ := hrel
      obtain ⟨wo, hwo⟩ : ∃ wo, wo = wr := ⟨_, rfl⟩
      subst hwo
      by_cases hi : i < 2
      · obtain ⟨sz, hsz1, hsz64, hszc⟩ : ∃ sz : Nat, 1 ≤ sz ∧ sz ≤ 64 ∧ (#[.int .i64 ((A0 : Int) + 1), .int .i64 ((A1 : Int) + 1)] : Array Value)[i]? = some (.int .i64 (sz : Int)) := by
          rcases (show i = 0 ∨ i = 1 by omega) with rfl | rfl
          · exact ⟨A0 + 1, by omega, by omega, by simp⟩
          · exact ⟨A1 + 1, by omega, by omega, by simp⟩
        have HSC := Lib.hid (show ∀ wx, Below w4.heap.size w4 wx → wx.cell? ⟨R, i, none⟩ = some (.int .i64 (sz : Int)) from fun wx hb => (HT4.out.2.2.2.1.below hb HT4.out.2.2.2.1.lt).cell i hszc)
        have hixs := fun W => Tryz.idxSz R 2 i hi W
        have hdi : decide ((i : Int) < 2) = true := decide_eq_true (by omega)
        have hdi' : decide (i < 2) = true := decide_eq_true hi
        have HW0 := Lib.hid (Below.refl wo.heap.size wo)
        clear hszc
        go_wp2_with fail
        go_loopw [13, 14, 15] (fun o la r wq => ∃ (P fr rr : Nat) (lz : Int), psn s.idx fr = P ∧ P ≤ I ∧ rr ≤ P ∧ o = .int .u64 (fr : Int) ∧ la = .int .i64 lz ∧ lz = (P : Int) - 1 ∧ r = .int .i64 (rr : Int) ∧ Hid (Below wo.heap.size wo wq)) (fun _ _ r _ => (70 - intOf r).toNat)
        case atStart => exact ⟨0, 0, 0, _, psn_zero, by omega, by omega, rfl, rfl, by rfl, rfl, HW0⟩
        case round =>
          obtain ⟨P, fr, rr, lz, hP, hPI, hrr, rfl, rfl, hlz, rfl, HW2⟩ := hrel
          obtain ⟨wq, hwq⟩ : ∃ wq, wq = wr := ⟨_, rfl⟩
          subst hwq
          have hr70 : rr < 70 := by omega
          have hdr : decide ((rr : Int) < 70) = true := decide_eq_true (by omega)
          have hdr' : decide (rr < 70) = true := decide_eq_true hr70
          have HPI := Lib.hid hP
          clear hP
          have HW4 := Lib.hid (HW.out.trans (HW2.out.mono HW.out.size))
          have hsc := HSC.out wq HW4.out
          have HV := Lib.hid (HT4.out.1.below HW4.out)
          go_wp2_with fail
          refine (take_v fr sz g p k S d s wq HV.out hsz1 hsz64).mono ?_
          rintro e w6 ⟨x, c, qs, rfl, hq, hqs, _, _, hb6⟩
          obtain ⟨L, hL⟩ : ∃ L, qs.length = L := ⟨_, rfl⟩
          obtain ⟨NX, hNX⟩ : ∃ NX, s.next fr sz = NX := ⟨_, rfl⟩
          obtain ⟨MR, hMR⟩ : ∃ MR, s.more fr sz = MR := ⟨_, rfl⟩
          have hLs : L = min sz (I - P) := by
            have h1 := congrArg List.length hq
            rw [List.length_map, hL, s.load_len, HPI.out, HI.out] at h1
            exact h1
          have hMR' : MR = decide (P + sz < I) := by rw [← hMR]; unfold Vst.more; rw [HPI.out, HI.out]
          rw [hL] at hqs
          rw [hL, hNX, hMR]
          have HQ := Lib.hid hq
          have HQS := Lib.hid hqs
          have HL := Lib.hid hL
          have HNX := Lib.hid hNX
          have HMR := Lib.hid hMR
          have HB6 := Lib.hid (HW2.out.trans (hb6.mono HW2.out.size))
          have HLS := Lib.hid hLs
          have HMQ := Lib.hid hMR'
          clear hq hqs hL hb6 hNX hMR hsc HV HW2 HW4 hLs hMR'
          go_upto_region 19 with fail
          obtain ⟨w7, hw7⟩ : ∃ w7, w6.alloc (.cells #[.slice x L c, .int .u64 (NX : Int), .bool MR, .int .i64 0] 35) = w7 := ⟨_, rfl⟩
          obtain ⟨X, hXq⟩ : ∃ X, w6.heap.size = X := ⟨_, rfl⟩
          have hb7 := below_alloc w6 (.cells #[.slice x L c, .int .u64 (NX : Int), .bool MR, .int .i64 0] 35)
          have hX7 := Blk.new w6 #[.slice x L c, .int .u64 (NX : Int), .bool MR, .int .i64 0] 35
          rw [hw7] at hb7 hX7
          rw [hXq] at hX7
          have HX7 := Lib.hid hX7
          have HQ7 := Lib.hid (HQS.out.mono hb7 (Nat.le_refl _))
          have HB7 := Lib.hid (HB6.out.trans (hb7.mono HB6.out.size))
          clear hb7 hX7 HQS HB6
          rw [hw7]
          try rw [hXq]
          clear hw7 hXq
          have HW7 := Lib.hid (HW.out.trans (HB7.out.mono HW.out.size))
          have hsc := HSC.out w7 HW7.out
          have x0 := HX7.out.cell 0 rfl
          have x1 := HX7.out.cell 1 rfl
          have x2 := HX7.out.cell 2 rfl
          have x3 := HX7.out.cell 3 rfl
          have hLl : L ≤ sz := by have := HLS.out; omega
          have hgt : ¬ (sz : Int) < (L : Int) := by omega
          have hgt' : decide ((sz : Int) < (L : Int)) = false := decide_eq_false hgt
          have hgtn : decide (sz < L) = false := decide_eq_false (by omega)
          have hgtm : ¬ sz < L := by omega
          have S9 : w7.drew.cell? ⟨X, 0, none⟩ = some (.slice x L c) ∧ w7.drew.cell? ⟨X, 3, none⟩ = some (.int .i64 0) ∧ w7.drew.cell? ⟨R, i, none⟩ = some (.int .i64 (sz : Int)) := ⟨x0, x3, hsc⟩
          go_region_held3 (fun wx => wx.cell? ⟨X, 0, none⟩ = some (.slice x L c) ∧ wx.cell? ⟨X, 3, none⟩ = some (.int .i64 0) ∧ wx.cell? ⟨R, i, none⟩ = some (.int .i64 (sz : Int))) (exact S9) (first | (go_at_call 13; with_reducible refine (code_nil _).mono ?_; rintro e w8 ⟨rfl, rfl⟩))
          go_wp2_with fail
          clear x1 x2 x3 hgt hgt' hgtn hgtm hsc S9
          have HS0 := Lib.hid ((Below.refl w7.heap.size w7).drew)
          go_loopw [14, 18] (fun la c wu => ∃ (j : Nat) (lz : Int), j ≤ L ∧ la = .int .i64 lz ∧ lz = (P : Int) + (j : Int) - 1 ∧ c = .int .i64 (j : Int) ∧ Hid (Below w7.heap.size w7 wu)) (fun _ c _ => (L - intOf c).toNat)
          case atStart => exact ⟨0, _, Nat.zero_le _, rfl, by omega, rfl, HS0⟩
          case round =>
            obtain ⟨j, lz2, hjL, rfl, hlz2, rfl, HU⟩ := hrel
            obtain ⟨wu, hwu⟩ : ∃ wu, wu = wr := ⟨_, rfl⟩
            subst hwu
            clear x0
            have HXU := Lib.hid (HX7.out.below HU.out HX7.out.lt)
            have x0 := HXU.out.cell 0 rfl
            by_cases hj : j < L
            · obtain ⟨hQI, n, u, hqj, hnk, hng⟩ := Vst.load_get HQ.out HPI.out (show j < qs.length by rw [HL.out]; exact hj)
              obtain ⟨b1, o1, hi1, a0, _, a2, _, _⟩ := ndl_at (HQ7.out.mono HU.out (Nat.le_refl _)) 33 48 Tryz.underlying33 Tryz.sizeNdA hqj
              have HWU := Lib.hid (HW7.out.trans (HU.out.mono HW7.out.size))
              obtain ⟨b2, o2, hi2', hp⟩ := Q.indexAt_P (P := Tryz.prog) (HT4.out.2.1.mono HWU.out (Nat.le_refl _)) 27 67 Tryz.underlying27 Tryz.sizePsT (P + j) hQI
              have v5 := (HT4.out.2.2.1.below HWU.out HT4.out.2.2.1.lt).cell 5 rfl
              rw [HI.out] at hQI
              obtain ⟨⟨pk, po, pl, pc, pg⟩, hpp⟩ : ∃ p, pat s.idx (P + j) = p := ⟨_, rfl⟩
              rw [hpp] at hp hnk hng
              obtain ⟨c0, _, _, _, c4⟩ := hp
              dsimp only at c0 c4 hnk hng
              rw [hnk] at a0
              rw [← hng] at a2
              obtain ⟨QQ, hQQ⟩ : ∃ QQ, P + j = QQ := ⟨_, rfl⟩
              rw [hQQ] at hi2' hQI
              have e2 : IntKind.i64.wrap (lz2 + 1) = (QQ : Int) := by rw [IntWalk.i64_in _ (by omega)]; omega
              have hge : ¬ (I : Int) ≤ (QQ : Int) := by omega
              have hge' : decide ((I : Int) ≤ (QQ : Int)) = false := decide_eq_false hge
              have hgem : ¬ I ≤ QQ := by omega
              have hgen : decide (I ≤ QQ) = false := decide_eq_false hgem
              have e3 : IntKind.i64.wrap ((j : Int) + 1) = (j : Int) + 1 := IntWalk.i64_in _ (by omega)
              have HQE := Lib.hid hQQ
              clear hqj hnk hng hpp hlz2 hQQ
              have S9 : wu.drew.cell? ⟨X, 0, none⟩ = some (.slice x L c) ∧ wu.drew.cell? ⟨B, 5, none⟩ = some (.slice lx I lc) ∧ wu.drew.cell? ⟨b1, o1, none⟩ = some (.int .u64 (pk : Int)) ∧ wu.drew.cell? ⟨b1, o1 + 2, none⟩ = some (.bool pg) ∧ wu.drew.cell? ⟨b2, o2, none⟩ = some (.int .u64 (pk : Int)) ∧ wu.drew.cell? ⟨b2, o2 + 4, none⟩ = some (.bool pg) := ⟨x0, v5, a0, a2, c0, c4⟩
              go_upto_region 25 with fail
              go_region_held3 (fun wx => wx.cell? ⟨X, 0, none⟩ = some (.slice x L c) ∧ wx.cell? ⟨B, 5, none⟩ = some (.slice lx I lc) ∧ wx.cell? ⟨b1, o1, none⟩ = some (.int .u64 (pk : Int)) ∧ wx.cell? ⟨b1, o1 + 2, none⟩ = some (.bool pg) ∧ wx.cell? ⟨b2, o2, none⟩ = some (.int .u64 (pk : Int)) ∧ wx.cell? ⟨b2, o2 + 4, none⟩ = some (.bool pg)) (exact S9) (fail)
              go_wp2_with fail
              have HU2 := Lib.hid (HU.out.drew)
              go_roundw
              case rel => exact ⟨j + 1, (QQ : Int), by omega, rfl, by have := HQE.out; omega, by simp, HU2⟩
              case measure => simp only [intOf]; omega
            · have hLs := HLS.out
              have hMR' := HMQ.out
              obtain rfl : L = j := by omega
              have x1 := HXU.out.cell 1 rfl
              have x2 := HXU.out.cell 2 rfl
              have HBU := Lib.hid (HB7.out.trans (HU.out.mono HB7.out.size))
              cases hmr : MR with
              | true =>
                have hms : P + sz < I := by rw [hmr] at hMR'; exact of_decide_eq_true hMR'.symm
                have HLE := Lib.hid (show lz2 = ((P + sz : Nat) : Int) - 1 ∧ rr + 1 ≤ P + sz ∧ P + sz ≤ I by omega)
                have HPN := Lib.hid (show psn s.idx NX = P + sz by rw [← HNX.out, ← HPI.out]; exact s.next_psn (by rw [HMR.out, hmr]))
                have e4 : IntKind.i64.wrap ((rr : Int) + 1) = (rr : Int) + 1 := IntWalk.i64_in _ (by omega)
                rw [hmr] at x2
                clear hLs hMR' hlz hlz2 hms hmr
                go_wp2_with fail
                go_roundw
                case rel => exact ⟨P + sz, NX, rr + 1, lz2, HPN.out, HLE.out.2.2, HLE.out.2.1, rfl, rfl, HLE.out.1, by simp, HBU⟩
                case measure => simp only [intOf]; omega
              | false =>
                have hms : ¬ P + sz < I := by rw [hmr] at hMR'; exact of_decide_eq_false hMR'.symm
                have hIe : IntKind.i64.wrap (lz2 + 1) = (I : Int) := by rw [IntWalk.i64_in _ (by omega)]; omega
                rw [hmr] at x2
                have HBW := Lib.hid (HW.out.trans (HBU.out.mono HW.out.size))
                have hCb := HC.out.below HBU.out HC.out.lt
                have hcf := fun q => hCb.free q
                have hc0 := hCb.cell 0 rfl
                have hc1 := hCb.cell 1 rfl
                have hixc := fun W => Tryz.idxCt C i hi W
                have HCB := Lib.hid hCb
                have HCW := Lib.hid (show Below w4.heap.size w4 (wu.setCell ⟨C, i, none⟩ (.int .i64 (I : Int))) from HBW.out.setCell (by rw [HCQ.out]; exact Nat.le_refl _) _)
                have HAI := Lib.hid hai
                clear hLs hMR' hlz hlz2 hms hmr hai hbi hdi hdi'
                rcases (show i = 0 ∨ i = 1 by omega) with rfl | rfl
                · have HCS := Lib.hid (show Blk (wu.setCell ⟨C, 0, none⟩ (.int .i64 (I : Int))) C #[.int .i64 (I : Int), .int .i64 (b : Int)] 70 from hCb.set 0 (.int .i64 (I : Int)))
                  clear hCb
                  go_wp2_with fail
                  go_roundw
                  case rel => exact ⟨1, I, b, by omega, by first | rfl | simp, fun _ => rfl, fun h => by omega, HCW, HCS⟩
                  case measure => simp [intOf]
                · have HCS := Lib.hid (show Blk (wu.setCell ⟨C, 1, none⟩ (.int .i64 (I : Int))) C #[.int .i64 (a : Int), .int .i64 (I : Int)] 70 from hCb.set 1 (.int .i64 (I : Int)))
                  have HA9 := Lib.hid (HAI.out (by omega))
                  clear hCb
                  go_wp2_with fail
                  go_roundw
                  case rel => exact ⟨2, a, I, by omega, by first | rfl | simp, fun _ => HA9.out, fun _ => rfl, HCW, HCS⟩
                  case measure => simp [intOf]
      · have hai := hai (by omega)
        have hbi := hbi (by omega)
        subst hai hbi
        obtain rfl : i = 2 := by omega
        have v5 := (HT4.out.2.2.1.below HW.out HT4.out.2.2.1.lt).cell 5 rfl
        have hc0 := HC.out.cell 0 rfl
        have hc1 := HC.out.cell 1 rfl
        have HBF := Lib.hid (HT4.out.2.2.2.2.trans (HW.out.mono HT4.out.2.2.2.2.size))
        go_wp2_with fail
        go_ret
        exact ⟨rfl, HBF.out⟩

end Go.Proofs.YtoblbipkkdiddaaGreatDoor
end
namespace Go.Proofs.YtoblbipkkdiddaaGreatDoor.shipPages
open Go.ChangeShapes Go.WideShapes Go.ChangeAt Go.RowKit
open Go.ChangeMaps (open_string shut_string)
open Go.Cor
set_option linter.unusedVariables false

theorem own : ownKnob Tryz.prog.godebug = none := by kernel_rfl
theorem laidOut : laidOutB Tryz.prog = true := by kernel_rfl
def lay (cs : Array Value) : Obj → Obj
  | .cells _ t frozen => .cells cs t frozen
  | o => o
/-- A world that meets the condition. -/
noncomputable def laidWorld (os : Os) : World :=
  { World.holding Tryz.prog os ⟨#[], #[], []⟩ with heap := ((((World.holding Tryz.prog os ⟨#[], #[], []⟩).heap).modify 2 (lay #[.int .u8 0, .int .u8 1, .int .u8 28, .int .u8 2, .int .u8 29, .int .u8 14, .int .u8 24, .int .u8 3, .int .u8 30, .int .u8 22, .int .u8 20, .int .u8 15, .int .u8 25, .int .u8 17, .int .u8 4, .int .u8 8, .int .u8 31, .int .u8 27, .int .u8 13, .int .u8 23, .int .u8 21, .int .u8 19, .int .u8 16, .int .u8 7, .int .u8 26, .int .u8 12, .int .u8 18, .int .u8 6, .int .u8 11, .int .u8 5, .int .u8 10, .int .u8 9])).modify 3 (lay #[.int .u8 0, .int .u8 1, .int .u8 56, .int .u8 2, .int .u8 57, .int .u8 49, .int .u8 28, .int .u8 3, .int .u8 61, .int .u8 58, .int .u8 42, .int .u8 50, .int .u8 38, .int .u8 29, .int .u8 17, .int .u8 4, .int .u8 62, .int .u8 47, .int .u8 59, .int .u8 36, .int .u8 45, .int .u8 43, .int .u8 51, .int .u8 22, .int .u8 53, .int .u8 39, .int .u8 33, .int .u8 30, .int .u8 24, .int .u8 18, .int .u8 12, .int .u8 5, .int .u8 63, .int .u8 55, .int .u8 48, .int .u8 27, .int .u8 60, .int .u8 41, .int .u8 37, .int .u8 16, .int .u8 46, .int .u8 35, .int .u8 44, .int .u8 21, .int .u8 52, .int .u8 32, .int .u8 23, .int .u8 11, .int .u8 54, .int .u8 26, .int .u8 40, .int .u8 15, .int .u8 34, .int .u8 20, .int .u8 31, .int .u8 10, .int .u8 25, .int .u8 14, .int .u8 19, .int .u8 9, .int .u8 13, .int .u8 8, .int .u8 7, .int .u8 6])).modify 1 (lay #[.int .u64 1, .int .u64 10, .int .u64 100, .int .u64 1000, .int .u64 10000, .int .u64 100000, .int .u64 1000000, .int .u64 10000000, .int .u64 100000000, .int .u64 1000000000, .int .u64 10000000000, .int .u64 100000000000, .int .u64 1000000000000, .int .u64 10000000000000, .int .u64 100000000000000, .int .u64 1000000000000000, .int .u64 10000000000000000, .int .u64 100000000000000000, .int .u64 1000000000000000000, .int .u64 10000000000000000000]) }
theorem laid_met (os : Os) : laidMet Tryz.prog Rows.shipPagesRow.laid ((laidWorld os).forCall (fun _ _ => 0) ⟨#[], #[.slice none 0 0, .int .u8 0, .int .u8 0], []⟩).memory :=
  laidMet_of_run' 8 (by kernel_rfl) (by kernel_rfl)
theorem reads (os : Os) {H : Type} (enc : TypeId × Value → H) : ∃ places, DataW.whole enc Tryz.prog ((laidWorld os).forCall (fun _ _ => 0) ⟨#[], #[.slice none 0 0, .int .u8 0, .int .u8 0], []⟩).memory Tryz.f6.params.toList Rows.shipPagesSpec.vars false (#[.slice none 0 0, .int .u8 0, .int .u8 0] : Array Value).toList 8 = some ([.nil, .lit (.int .u8 0), .lit (.int .u8 0)], [], places) :=
  ⟨[], by kernel_rfl⟩

set_option maxRecDepth 100000 in
theorem lifted (os : Os) (started : os.Started) (H : Type) (enc : TypeId × Value → H) (F : Stop.Interp) :
    ReturnsInHanded {} Tryz.checked os 6 .any ((OpenSpec.ofChange Rows.shipPagesSpec).preRow enc Tryz.prog Tryz.f6 Rows.shipPagesRow.domain false Rows.shipPagesRow.laid) (((OpenSpec.ofChange Rows.shipPagesSpec).at F).post enc Tryz.prog Tryz.f6 false true false false) := by
  obtain ⟨places, hx⟩ := reads os enc
  refine returnsInHanded_of_row (C := Tryz.checked) (s := OpenSpec.ofChange Rows.shipPagesSpec) own started (by kernel_rfl) Tryz.func6
    (witness_row_at (enc := enc) (C := Tryz.checked) false (laidWorld os) #[.slice none 0 0, .int .u8 0, .int .u8 0] rfl (by kernel_rfl) (by kernel_rfl) (by kernel_rfl)
      (OpenSpec.preRow_of_cond 8 hx (by kernel_rfl) (fun k hk => by cases hk) (by kernel_rfl) (laid_met os))) ?_
  intro W base args ds gs before hval0 hW _ _ _ hL _ _
  have hval : ∀ (j : Nat) t v, Tryz.f6.params[j]? = some t → args[j]? = some v → Value.okWide Tryz.prog W .any base t v := hval0
  have hW' := hW
  obtain ⟨p, q, hA0, hV, rfl, hfz, hnd⟩ := hW
  have hA : DataW.TrodAll enc Tryz.prog W 0 (fun _ => true) true Tryz.f6.params.toList args.toList ds p := hA0
  rw [Tryz.params6] at hA hval
  obtain ⟨v0, vs0, d0, ds0, p0, q0, hargs, rfl, rfl, h0, r0⟩ := trodAll_cons hA
  obtain ⟨v1, vs1, d1, ds1, p1, q1, rfl, rfl, rfl, h1, r1⟩ := trodAll_cons r0
  obtain ⟨v2, vs2, d2, ds2, p2, q2, rfl, rfl, rfl, h2, r2⟩ := trodAll_cons r1
  obtain ⟨rfl, rfl, rfl⟩ := trodAll_nil r2
  obtain rfl : args = #[v0, v1, v2] := by cases args; simp_all
  obtain ⟨rfl, rfl⟩ := trodVars_none hV
  obtain ⟨a0, len0, cap0, rfl⟩ := okWide_slice Tryz.underlying22 (hval 0 22 v0 rfl rfl)
  have k0 := h0
  have lt0 : ∀ x ∈ p0, x.block < W.heap.size := by obtain ⟨m, hm⟩ := k0; exact DataW.trod_lt m _ _ _ hm
  obtain ⟨l0, hI0, hF0⟩ : ∃ l : List A9v, IsA W (.slice a0 len0 cap0) l ∧ ∀ x ∈ l, x.1.n.fits := by obtain ⟨fuel, hf⟩ := h0; exact acts9_of_trod (by simpa [Value.cells] using hf)
  obtain ⟨a1, rfl, rfl, rfl, w1⟩ := open_int Tryz.underlying5 (hval 1 5 v1 rfl rfl) h1
  obtain ⟨a2, rfl, rfl, rfl, w2⟩ := open_int Tryz.underlying5 (hval 2 5 v2 rfl rfl) h2
  clear hA0 hval0
  have hw := wf_u8 w1
  have hx := wf_u8 w2
  obtain ⟨k1, rfl⟩ := Int.eq_ofNat_of_zero_le hw.1
  obtain ⟨k2, rfl⟩ := Int.eq_ofNat_of_zero_le hx.1
  refine (shipPages_all _ l0 k1 k2 W hI0 hF0 (by omega) (by omega)).mono fun e W' ⟨he, bel⟩ => ?_
  subst he
  exact ⟨_, rfl, _, _, _, [], _, [], hW', trodAll_mk1 (shut_bool Tryz.underlying4 _), (trodAll_cons_mk (Below.trod laidOut (by kernel_rfl) (of_decide_eq_true (by kernel_rfl)) k0 bel lt0) (trodAll_cons_mk (shut_int Tryz.underlying5 w1) (trodAll_cons_mk (shut_int Tryz.underlying5 w2) trodAll_mk0))), rfl, bel.frame _, fun h => by cases h⟩

theorem over : Rows.ShipPagesSaid :=
  OpenClaim.holds_of_cond 6 Tryz.f6 rfl rfl rfl rfl rfl rfl rfl ⟨rfl, rfl, rfl, rfl, rfl⟩ rfl rfl rfl rfl rfl (by kernel_rfl) Tryz.func6 (by kernel_rfl)
    (of_decide_eq_true (by kernel_rfl)) (by unfold Func.isWrapper; first | (rw [if_pos (by decide +kernel)]; kernel_rfl) | (rw [if_neg (by decide +kernel)]; exact ⟨rfl, rfl⟩))
    (fun os started H enc _ F => by rw [OpenClaim.pre_eq_preRow]; exact lifted os started H enc F)

theorem noStand : (Tryz.f6.params.toList.all fun t => !Tryz.prog.wantsStandIn t) = true := by kernel_rfl

set_option maxRecDepth 100000 in
theorem proved : Rows.ShipPagesCardSaid :=
  Claim7.holds_tied_plain_at .later [] _ _ _ _ over (fun _ h => by cases h) (by kernel_rfl) (fun _ h => by cases h) shipPages_row_tie rfl ⟨rfl, rfl⟩ (by kernel_rfl) rfl
    (fun f fn hf hfn => by
      obtain rfl : f = 6 := Option.some.inj ((show Tryz.prog.funcNamed "corncrib/corncriblaw13.ShipPages" = some 6 by kernel_rfl).symm.trans hf) |>.symm
      obtain rfl : fn = Tryz.f6 := (Option.some.inj (Tryz.func6.symm.trans hfn)).symm
      refine ⟨by kernel_rfl, fun j t ht => ?_⟩
      have hm : t ∈ Tryz.f6.params.toList := Array.mem_toList_iff.2 (Array.mem_of_getElem? ht)
      have h := List.all_eq_true.1 noStand t hm
      show Tryz.prog.wantsStandIn t = false
      cases hw : Tryz.prog.wantsStandIn t with
      | false => rfl
      | true => rw [hw] at h; cases h)
    (by kernel_rfl)
#print axioms proved
end Go.Proofs.YtoblbipkkdiddaaGreatDoor.shipPages
