/- Rvolw, Rvolp, Rvold. -/
import Derived.Test.YtoblbipkkdiddaaGreatDoorM10
import Derived.Test.YtoblbipkkdiddaaGreatDoorM6
import Derived.StillTailTactics
set_option linter.unusedVariables false
set_option linter.unusedSimpArgs false

section
namespace Go.Proofs.YtoblbipkkdiddaaGreatDoor
open Go.RowKit Go.Cor

set_option maxRecDepth 100000 in
set_option maxHeartbeats 1000000 in
theorem look_r (key c : Nat) (S : Nat → Prop) (s : Vst) (lv dv : Value) (ps : List (Ndl × Value)) (w : World) (h : DocP w S s lv dv ps) (hl : ps.length ≤ 1048576) :
    Calls Tryz.prog 63 #[dval s lv dv, .int .u64 (key : Int), .int .u32 (c : Int)] w fun e w' => e = .returned (.int .i64 (s.look key c : Int)) ∧ Below w.heap.size w w' := by
  have hal := below_alloc w (.cells #[.int .i64 (s.num : Int), .int .i64 (s.most : Int), .int .i64 (s.epoch : Int), .int .i64 (s.size : Int), .bool s.shut, lv, dv] 30)
  have HAL := Lib.hid hal
  have HC := Lib.hid (newest_r key S s lv dv ps _ (h.below hal) hl)
  unfold Vst.look
  obtain ⟨r, hr⟩ : ∃ r, newest s.ns key = r := ⟨_, rfl⟩
  rw [hr] at HC ⊢
  clear h hl hr hal
  go_enter Tryz.func63, Tryz.ntmps63
  go_wp2_with fail
  refine HC.out.mono ?_
  rintro e w1 ⟨n, vx, vL, vc, rfl, hcase, hb1⟩
  have HB1 := Lib.hid (HAL.out.trans (hb1.mono (by simp)))
  clear hb1 HC
  cases r with
  | none =>
    obtain ⟨rfl, rfl, rfl, rfl⟩ : n = ⟨0, 0, false, []⟩ ∧ vx = none ∧ vL = 0 ∧ vc = 0 := by
      rcases hcase with h | h
      · exact absurd h.1 (by simp)
      · exact h.2
    have hs := HB1.out.size
    rw [Option.isSome_none]
    go_wp2
    go_ret
    exact ⟨rfl, by first | exact HB1.out.alloc hs _ | exact HB1.out⟩
  | some m =>
    have hmn : m = n := by
      rcases hcase with h | h
      · have := h.1; cases this; rfl
      · exact absurd h.1 (by simp)
    subst hmn
    have hs := HB1.out.size
    clear hcase
    rw [Option.isSome_some]
    obtain ⟨mk, mc, mg, md⟩ := m
    simp only
    cases mg with
    | true =>
      go_wp2
      go_ret
      exact ⟨rfl, HB1.out.alloc hs _⟩
    | false =>
      by_cases hc : mc = c
      · have hc2 : (mc : Int) = (c : Int) := by rw [hc]
        go_wp2
        go_ret
        exact ⟨by simp [hc], HB1.out.alloc hs _⟩
      · have hc2 : ¬ (mc : Int) = (c : Int) := by omega
        go_wp2
        go_ret
        exact ⟨by simp [hc], HB1.out.alloc hs _⟩

theorem blk_set7 {w1 : World} {B : Nat} {a0 a1 a2 a3 a4 a5 a6 : Value} {T : TypeId} (h : Blk w1 B #[a0, a1, a2, a3, a4, a5, a6] T) (u0 u1 u2 u3 u4 u5 u6 : Value) : Blk (set7 w1 B u0 u1 u2 u3 u4 u5 u6) B #[u0, u1, u2, u3, u4, u5, u6] T := by
  have h1 := ((((((h.set 0 u0).set 1 u1).set 2 u2).set 3 u3).set 4 u4).set 5 u5).set 6 u6
  simp at h1
  exact h1
theorem below_set7 {w0 w : World} {B g : Nat} {u0 u1 u2 u3 u4 u5 u6 : Value} (hb : Below B w0 w) (hB : B ≤ g) : Below B w0 (set7 w g u0 u1 u2 u3 u4 u5 u6) :=
  ((((((hb.setCell hB _).setCell hB _).setCell hB _).setCell hB _).setCell hB _).setCell hB _).setCell hB _
theorem row_set7 {w : World} {base g : Nat} {e : TypeId} {size : Nat} {v : Value} {n : Nat} {xs : List Value} {u0 u1 u2 u3 u4 u5 u6 : Value} (h : w.ownsRow base e size v n xs) (hg : g < base) : (set7 w g u0 u1 u2 u3 u4 u5 u6).ownsRow base e size v n xs :=
  ownsRow_setCell_below (ownsRow_setCell_below (ownsRow_setCell_below (ownsRow_setCell_below (ownsRow_setCell_below (ownsRow_setCell_below (ownsRow_setCell_below h hg _) hg _) hg _) hg _) hg _) hg _) hg _
theorem below_owned {w w' : World} {B : Nat} {v : Value} (h : w.grownBy w' v.ownBlock) (hB : B ≤ w.heap.size) (hv : ∀ k, v.ownBlock = some k → B ≤ k) : Below B w w' := (Below.refl B w).grown h hB hv
theorem lit_grown {w w' : World} {v : Value} {g n cap : Nat} {cs : List Value} (hx : IsX w 4 (.slice (some ⟨g, 0, none⟩) n cap) n cs) (hg : w.grownBy w' v.ownBlock) (hne : ∀ k, v.ownBlock = some k → k ≠ g) : IsX w' 4 (.slice (some ⟨g, 0, none⟩) n cap) n cs :=
  hx.kept ((Kept.refl (fun k => v.ownBlock = some k) w).grown hg (fun k hk => .inl hk)) (fun k hk hs => by
    have h1 : some g = some k := hk.2
    cases h1
    exact hne _ hs rfl)
/-- What a write of the document's leaves. -/
theorem DocP.wrote {w w' : World} {S : Nat → Prop} {s : Vst} {lv dv lv' dv' v : Value} {ps : List (Ndl × Value)} {n : Ndl} (h : DocP w S s lv dv ps) (hb : Below w.heap.size w w') (hS : ∀ b, S b → b < w.heap.size)
    (hl : w'.ownsRow w.heap.size 67 5 lv' (put s.idx (posN n s.size)).length (row Q.pcells (put s.idx (posN n s.size)))) (hd : w'.ownsRow w.heap.size 47 4 dv' (ps.length + 1) (row ncl (ps ++ [(n, v)])))
    (hv : IsB w v n.data) (hvS : ∀ b, liesB v n.data b → ¬ S b) (hv1 : v.oneCell' = true) : DocP w' S (s.wrote n) lv' dv' (ps ++ [(n, v)]) where
  ns := by simp [h.ns, Vst.wrote]
  l := by rw [s.idx_wrote]; exact IsX.own hl
  d := ⟨by rw [List.length_append, List.length_singleton]; exact IsX.own hd, fun x hx => by
    rcases List.mem_append.1 hx with hx | hx
    · exact ⟨(h.d.2 x hx).1.mono hb (Nat.le_refl _), (h.d.2 x hx).2⟩
    · rw [List.mem_singleton.1 hx]; exact ⟨hv.mono hb (Nat.le_refl _), hv1⟩⟩
  la b hb2 hs := by
    have h1 := (hl.lt b hb2.2).1
    have h2 := hS b hs
    omega
  da b hb2 hs := by
    have h1 := (hd.lt b hb2.2).1
    have h2 := hS b hs
    omega
  na x hx b hb2 := by
    rcases List.mem_append.1 hx with hx | hx
    · exact h.na x hx b hb2
    · rw [List.mem_singleton.1 hx] at hb2
      exact hvS b hb2

set_option maxRecDepth 100000 in
set_option maxHeartbeats 2000000 in
theorem write_r (n : Ndl) (x : Option Addr) (vL vc : Nat) (S : Nat → Prop) (s : Vst) (lv dv : Value) (ps : List (Ndl × Value)) (w : World) (h : DocP w S s lv dv ps) (hsok : s.Ok) (hv : IsB w (.slice x vL vc) n.data) (hn : ncheck n = 0) (hm : s.size + nlen n ≤ s.most) (hf : s.ns.length + 1 < 4096) :
    Calls Tryz.prog 37 #[dval s lv dv, Nd.nval n (.slice x vL vc)] w fun e w' =>
      ∃ lv' dv', e = .returned (.tuple #[dval (s.wrote n) lv' dv', .int .i64 0]) ∧ w'.ownsRow w.heap.size 67 5 lv' (put s.idx (posN n s.size)).length (row Q.pcells (put s.idx (posN n s.size))) ∧ w'.ownsRow w.heap.size 47 4 dv' (ps.length + 1) (row ncl (ps ++ [(n, .slice x vL vc)])) ∧ Below w.heap.size w w' := by
  have HH := Lib.hid h
  have HV := Lib.hid hv
  have hnd := (ncheck_ok hn).1
  have hpl : ps.length = s.ns.length := by rw [← h.ns, List.length_map]
  have hidl := s.idx_len
  obtain ⟨L, hL⟩ : ∃ L, n.data.length = L := ⟨_, rfl⟩
  have hvL : vL = L := by
    obtain ⟨a, c, hh, _⟩ := hv.at_len hL
    cases hh; rfl
  subst hvL
  obtain ⟨P, hP⟩ : ∃ P, padn vL = P := ⟨_, rfl⟩
  have hP8 : P < 8 := by rw [← hP]; exact padn_lt _
  have hnl : nlen n = 32 + vL + P := by unfold nlen; rw [hL, hP]
  have hpad : pad ((32 + vL : Nat) : Int) = (P : Int) := by rw [Nd.pad_padn, ← hP]; unfold padn; omega
  have hms := hsok.most
  rw [hnl] at hm
  obtain ⟨Z, hZ⟩ : ∃ Z, s.size = Z := ⟨_, rfl⟩
  obtain ⟨M, hM⟩ : ∃ M, s.most = M := ⟨_, rfl⟩
  have HPO := Lib.hid (show posN n s.size = ⟨n.key, (Z : Int), (vL : Int), n.cookie, n.gone⟩ by unfold posN; rw [hL, hZ])
  have HSZ := Lib.hid (show ((s.wrote n).size : Int) = (Z : Int) + ((32 + vL + P : Nat) : Int) by rw [s.size_wrote, hnl, hZ]; rfl)
  obtain ⟨PL, hPL⟩ : ∃ PL, put s.idx (posN n s.size) = PL := ⟨_, rfl⟩
  obtain ⟨PS, hPS⟩ : ∃ PS, row ncl (ps ++ [(n, .slice x vL vc)]) = PS := ⟨_, rfl⟩
  rw [hPL, hPS]
  have HPL := Lib.hid hPL
  have HPS := Lib.hid (show row ncl ps ++ [.int .u64 (n.key : Int), .int .u32 (n.cookie : Int), .bool n.gone, .slice x vL vc] = PS by rw [← hPS, row_append, row_one]; rfl)
  obtain ⟨N, hN⟩ : ∃ N, ps.length = N := ⟨_, rfl⟩
  rw [hN]
  obtain ⟨I, hI⟩ : ∃ I, s.idx.length = I := ⟨_, rfl⟩
  have hI4 : I < 4096 := by omega
  have hilen := fun W => Q.len_P (P := Tryz.prog) h.l hI 27 3 67 Tryz.underlying27 W
  have HRF := Lib.hid (fun w1 (hb : Below w.heap.size w w1) => Q.rfind_any lv s.idx n.key w1 (h.l.mono hb (Nat.le_refl _)) s.idx_asc (by rw [hI]; omega))
  have HRP := Lib.hid (fun w1 (hb : Below w.heap.size w w1) => Q.rput_any lv s.idx (posN n s.size) w1 (h.l.mono hb (Nat.le_refl _)) s.idx_asc (by rw [hI]; omega))
  rw [hPL, HPO.out] at HRP
  rw [hM] at hm hms
  rw [hZ] at hm
  have HRD := Lib.hid (refpad_any ((32 + vL : Nat) : Int) · (by omega) (by omega))
  rw [hpad] at HRD
  have HN := Lib.hid hN
  have hN4 : N < 4096 := by omega
  have HZ := Lib.hid hZ
  have HM := Lib.hid hM
  have hwr1 : IntKind.i64.wrap (32 + (vL : Int)) = ((32 + vL : Nat) : Int) := by rw [IntWalk.i64_in _ (by omega)]; omega
  have hwr2 : IntKind.i64.wrap (((32 + vL : Nat) : Int) + (P : Int)) = ((32 + vL + P : Nat) : Int) := by rw [IntWalk.i64_in _ (by omega)]; omega
  have hwr3 : IntKind.i64.wrap ((Z : Int) + ((32 + vL + P : Nat) : Int)) = (Z : Int) + ((32 + vL + P : Nat) : Int) := IntWalk.i64_in _ (by omega)
  obtain ⟨T, hT⟩ : ∃ T, 32 + vL + P = T := ⟨_, rfl⟩
  obtain ⟨Y, hY⟩ : ∃ Y, 32 + vL = Y := ⟨_, rfl⟩
  rw [hY] at hwr1 hwr2 HRD
  rw [← hY, hT] at hwr2
  rw [hY] at hwr2
  rw [hT] at hwr3 HSZ hm
  have hcmp : decide ((M : Int) < (Z : Int) + (T : Int)) = false := decide_eq_false (by omega)
  have h40 : decide (4096 ≤ I) = false := decide_eq_false (by omega)
  have hTm : (T : Int) ≤ 5000 := by omega
  rw [show dval s lv dv = .agg #[.int .i64 (s.num : Int), .int .i64 (M : Int), .int .i64 (s.epoch : Int), .int .i64 (Z : Int), .bool s.shut, lv, dv] by rw [← hZ, ← hM]]
  clear h hv hn hf hpl hidl hL hP hnl hpad hsok hZ hM hPL hPS hN hI hT hY hnd hP8
  have hal1 := below_alloc w (.cells #[.int .i64 (s.num : Int), .int .i64 (M : Int), .int .i64 (s.epoch : Int), .int .i64 (Z : Int), .bool s.shut, lv, dv] 30)
  have HB0 := Lib.hid ((hal1.alloc (by simp) (Nd.ncells n (.slice x vL vc) 47)).alloc (by simp; omega) (.cells #[.int .i64 0, .int .i64 0, .int .i64 0, .int .i64 0, .bool false, .slice none 0 0, .slice none 0 0] 30))
  clear hal1
  go_enter Tryz.func37, Tryz.ntmps37
  go_wp2_with fail
  refine (HRD.out _).mono ?_
  rintro e w1 ⟨rfl, rfl⟩
  have hV1 := ((Blk.new w #[.int .i64 (s.num : Int), .int .i64 (M : Int), .int .i64 (s.epoch : Int), .int .i64 (Z : Int), .bool s.shut, lv, dv] 30).alloc (Nd.ncells n (.slice x vL vc) 47)).alloc (.cells #[.int .i64 0, .int .i64 0, .int .i64 0, .int .i64 0, .bool false, .slice none 0 0, .slice none 0 0] 30)
  have hN1 := (Blk.new (w.alloc (.cells #[.int .i64 (s.num : Int), .int .i64 (M : Int), .int .i64 (s.epoch : Int), .int .i64 (Z : Int), .bool s.shut, lv, dv] 30)) #[.int .u64 (n.key : Int), .int .u32 (n.cookie : Int), .bool n.gone, .slice x vL vc] 47).alloc (.cells #[.int .i64 0, .int .i64 0, .int .i64 0, .int .i64 0, .bool false, .slice none 0 0, .slice none 0 0] 30)
  have hR1 := Blk.new ((w.alloc (.cells #[.int .i64 (s.num : Int), .int .i64 (M : Int), .int .i64 (s.epoch : Int), .int .i64 (Z : Int), .bool s.shut, lv, dv] 30)).alloc (Nd.ncells n (.slice x vL vc) 47)) #[.int .i64 0, .int .i64 0, .int .i64 0, .int .i64 0, .bool false, .slice none 0 0, .slice none 0 0] 30
  rw [show (w.alloc (.cells #[.int .i64 (s.num : Int), .int .i64 (M : Int), .int .i64 (s.epoch : Int), .int .i64 (Z : Int), .bool s.shut, lv, dv] 30)).heap.size = w.heap.size + 1 by simp] at hN1
  rw [show ((w.alloc (.cells #[.int .i64 (s.num : Int), .int .i64 (M : Int), .int .i64 (s.epoch : Int), .int .i64 (Z : Int), .bool s.shut, lv, dv] 30)).alloc (Nd.ncells n (.slice x vL vc) 47)).heap.size = w.heap.size + 1 + 1 by simp] at hR1
  have hb0 := HB0.out
  obtain ⟨w1, hw1⟩ : ∃ w1, (((w.alloc (.cells #[.int .i64 (s.num : Int), .int .i64 (M : Int), .int .i64 (s.epoch : Int), .int .i64 (Z : Int), .bool s.shut, lv, dv] 30)).alloc (Nd.ncells n (.slice x vL vc) 47)).alloc (.cells #[.int .i64 0, .int .i64 0, .int .i64 0, .int .i64 0, .bool false, .slice none 0 0, .slice none 0 0] 30)) = w1 := ⟨_, rfl⟩
  rw [hw1] at hV1 hN1 hR1 hb0
  rw [hw1]
  clear hw1
  have HV1 := Lib.hid hV1
  have HN1 := Lib.hid hN1
  have HR1 := Lib.hid hR1
  have HB1 := Lib.hid hb0
  have v1 : w1.cell? ⟨w.heap.size, 1, none⟩ = some (.int .i64 (M : Int)) := hV1.cell 1 rfl
  have v3 : w1.cell? ⟨w.heap.size, 3, none⟩ = some (.int .i64 (Z : Int)) := hV1.cell 3 rfl
  have v5 : w1.cell? ⟨w.heap.size, 5, none⟩ = some lv := hV1.cell 5 rfl
  have n0 : w1.cell? ⟨w.heap.size + 1, 0, none⟩ = some (.int .u64 (n.key : Int)) := hN1.cell 0 rfl
  have n1 : w1.cell? ⟨w.heap.size + 1, 1, none⟩ = some (.int .u32 (n.cookie : Int)) := hN1.cell 1 rfl
  have n2 : w1.cell? ⟨w.heap.size + 1, 2, none⟩ = some (.bool n.gone) := hN1.cell 2 rfl
  have n3 : w1.cell? ⟨w.heap.size + 1, 3, none⟩ = some (.slice x vL vc) := hN1.cell 3 rfl
  clear hV1 hN1 hR1 hb0
  go_upto_region 3 with fail
  go_cut [35] from 15 to 35 (fun q wx => q = .bool false ∧ wx = w1)
  case first =>
    go_wp2_with fail
    refine (HRF.out _ HB1.out).mono ?_
    rintro e w2 ⟨rfl, rfl⟩
    obtain ⟨F, hF⟩ : ∃ F, Q.fidx s.idx n.key = F := ⟨_, rfl⟩
    rw [hF]
    by_cases hF0 : F < 0
    · go_wp2
      go_meet
      exact ⟨by rw [decide_eq_false (show ¬ (4096 : Int) ≤ (I : Int) by omega)], by trivial⟩
    · go_wp2
      go_meet
      exact ⟨rfl, by trivial⟩
  case rest =>
    obtain ⟨rfl, rfl⟩ := hcut
    go_wp2_with fail
    refine (HRP.out _ HB1.out).mono ?_
    rintro e w2 ⟨lv', rfl, hown2, hb2⟩
    obtain ⟨lx, lc, rfl, _, _⟩ := ownsRow_slice hown2
    obtain ⟨PN, hPN⟩ : ∃ PN, PL.length = PN := ⟨_, rfl⟩
    rw [hPN] at hown2 ⊢
    have HPN := Lib.hid hPN
    have hlt : w.heap.size + 1 + 1 < wc.heap.size := HR1.out.lt
    have hV2 := HV1.out.below hb2 (by omega)
    have hN2 := HN1.out.below hb2 (by omega)
    have hR2 := HR1.out.below hb2 hlt
    have HB2 := Lib.hid (HB1.out.trans (hb2.mono (by omega)))
    have hs2 := hb2.size
    have v5 := hV2.cell 5 rfl
    have f5 := hV2.free 5
    have hV3 := hV2.set 5 (.slice lx PN lc)
    have hN3 := hN2.other (a := ⟨w.heap.size, 5, none⟩) (fun e : w.heap.size = w.heap.size + 1 => by omega) (.slice lx PN lc)
    have hR3 := hR2.other (a := ⟨w.heap.size, 5, none⟩) (fun e : w.heap.size = w.heap.size + 1 + 1 => by omega) (.slice lx PN lc)
    have HO2 := Lib.hid hown2
    obtain ⟨w3, hw3⟩ : ∃ w3, w2.setCell ⟨w.heap.size, 5, none⟩ (.slice lx PN lc) = w3 := ⟨_, rfl⟩
    rw [hw3] at hV3 hN3 hR3
    have hb3 : Below w.heap.size w w3 := by rw [← hw3]; exact HB2.out.setCell (Nat.le_refl _) _
    have HB3 := Lib.hid hb3
    have hs3 : w.heap.size + 1 + 1 < w3.heap.size := hR3.lt
    have HV3 := Lib.hid (show Blk w3 w.heap.size #[.int .i64 (s.num : Int), .int .i64 (M : Int), .int .i64 (s.epoch : Int), .int .i64 (Z : Int), .bool s.shut, .slice lx PN lc, dv] 30 from hV3)
    have HN3 := Lib.hid hN3
    have HR3 := Lib.hid hR3
    have HBK := Lib.hid (fun wx (hb : Below w3.heap.size w3 wx) => HV3.out.below hb (by omega))
    have HS := Lib.hid (show ∀ wx, Below w3.heap.size w3 wx → wx.cell? ⟨w.heap.size, 6, none⟩ = some dv ∧ wx.cell? ⟨w.heap.size + 1, 0, none⟩ = some (.int .u64 (n.key : Int)) ∧ wx.cell? ⟨w.heap.size + 1, 1, none⟩ = some (.int .u32 (n.cookie : Int)) ∧ wx.cell? ⟨w.heap.size + 1, 2, none⟩ = some (.bool n.gone) ∧ wx.cell? ⟨w.heap.size + 1, 3, none⟩ = some (.slice x vL vc) from fun wx hb => by
      have h1 := HV3.out.below hb (by omega)
      have h2 := HN3.out.below hb (by omega)
      exact ⟨h1.cell 6 rfl, h2.cell 0 rfl, h2.cell 1 rfl, h2.cell 2 rfl, h2.cell 3 rfl⟩)
    have HDV := Lib.hid (fun wx (hb : Below w3.heap.size w3 wx) => show IsX wx 4 dv N (row ncl ps) by
      have h1 := (HH.out.d.mono HB3.out (Nat.le_refl _)).mono hb (Nat.le_refl _)
      rw [← HN.out]; exact h1.1)
    have HONE := Lib.hid HH.out.d.one
    have HO3 := Lib.hid (show w3.ownsRow wc.heap.size 67 5 (.slice lx PN lc) PN (row Q.pcells PL) by rw [← hw3]; exact ownsRow_setCell_below HO2.out (by show w.heap.size < _; omega) _)
    obtain ⟨i0, hi, hz0, hz1, hz2⟩ := info_parts Tryz.infoNdR
    clear hown2 hb2 hV2 hN2 hR2 v1 v3 n0 n1 n2 n3 hPN hV3 hN3 hR3 hb3
    go_upto_region 6 with fail
    clear v5 f5 hw3
    -- W6 BEGIN
    go_cut [] from 56 to 63 (fun wx => ∃ (w6 : World) (dx : Option Addr) (dc : Nat), wx = w6.setCell ⟨w.heap.size, 6, none⟩ (.slice dx (N + 1) dc) ∧ Hid (Below w3.heap.size w3 w6) ∧ Hid (w6.ownsRow w3.heap.size 47 4 (.slice dx (N + 1) dc) (N + 1) (row ncl ps ++ [.int .u64 (n.key : Int), .int .u32 (n.cookie : Int), .bool n.gone, .slice x vL vc])))
    case first =>
      refine AnyE.start (S := (fun wx => wx.cell? ⟨w.heap.size, 6, none⟩ = some dv ∧ wx.cell? ⟨w.heap.size + 1, 0, none⟩ = some (.int .u64 (n.key : Int)) ∧ wx.cell? ⟨w.heap.size + 1, 1, none⟩ = some (.int .u32 (n.cookie : Int)) ∧ wx.cell? ⟨w.heap.size + 1, 2, none⟩ = some (.bool n.gone) ∧ wx.cell? ⟨w.heap.size + 1, 3, none⟩ = some (.slice x vL vc))) 8 (by kernel_rfl) (HS.out _ ((Below.refl w3.heap.size w3).drew)) (fun hHeld => ?_)
      refine AnyE.take (i := 1) (v := ?_) rfl (by kernel_rfl) (by kernel_rfl) (by kernel_rfl) (by kernel_rfl) (fun _ _ _ h => h) (Or.inl ⟨by rfl, ?_⟩) (by assumption) ?_
      rotate_left 1
      · intro w hSw
        (try dsimp only at hSw)
        go_simp
        all_goals (with_reducible rfl)
      try simp only [Act.put, List.getElem_toArray, List.getElem_cons_zero, List.getElem_cons_succ, List.setIfInBounds_toArray, List.set_cons_zero, List.set_cons_succ]
      refine AnyE.take (i := 2) (v := ?_) rfl (by kernel_rfl) (by kernel_rfl) (by kernel_rfl) (by kernel_rfl) (fun _ _ _ h => h) (Or.inl ⟨by rfl, ?_⟩) (by assumption) ?_
      rotate_left 1
      · intro w hSw
        (try dsimp only at hSw)
        go_simp
        all_goals (with_reducible rfl)
      try simp only [Act.put, List.getElem_toArray, List.getElem_cons_zero, List.getElem_cons_succ, List.setIfInBounds_toArray, List.set_cons_zero, List.set_cons_succ]
      refine AnyE.take (i := 4) (v := ?_) rfl (by kernel_rfl) (by kernel_rfl) (by kernel_rfl) (by kernel_rfl) (fun _ _ _ h => h) (Or.inl ⟨by rfl, ?_⟩) (by assumption) ?_
      rotate_left 1
      · intro w hSw
        (try dsimp only at hSw)
        go_simp
        all_goals (with_reducible rfl)
      try simp only [Act.put, List.getElem_toArray, List.getElem_cons_zero, List.getElem_cons_succ, List.setIfInBounds_toArray, List.set_cons_zero, List.set_cons_succ]
      refine AnyE.next (rs := [0, 5]) (by kernel_rfl) (by simp) ?_
      refine AllE.cons rfl (fun K hK => ?_) ?_
      · go_simp
        refine hK.out _ _ (HS.out _ (((Below.refl w3.heap.size w3).alloc (Nat.le_refl _) (.cells #[] 47)).drew)) (fun hHeld => ?_)
        have Hwa := Lib.hid (((Below.refl w3.heap.size w3).alloc (Nat.le_refl _) (.cells #[] 47)).drew)
        have Lwa := Lib.hid (ownsRow_below (World.ownsRow_lit (base := w3.heap.size) (e := 47) (size := 4) w3 #[] 0 (Nat.le_refl _) (by unfold maxLen; omega) rfl) ((Below.refl _ _).drew) (Nat.le_refl _))
        have Bwa := Lib.hid (((Below.refl w3.heap.size w3).alloc (Nat.le_refl _) (.cells #[] 47)).drew)
        have Zwa : w3.heap.size < ((w3.alloc (.cells #[] 47)).drew).heap.size := by simp
        obtain ⟨wa, hwa⟩ : ∃ wa, (w3.alloc (.cells #[] 47)).drew = wa := ⟨_, rfl⟩
        rw [hwa] at Hwa Lwa Bwa Zwa
        rw [hwa]
        clear hK K hwa hHeld
        try simp only [Act.put, List.getElem_toArray, List.getElem_cons_zero, List.getElem_cons_succ, List.setIfInBounds_toArray, List.set_cons_zero, List.set_cons_succ]
        refine AnyE.next (rs := [3, 5]) (by kernel_rfl) (by simp) ?_
        refine AllE.cons rfl (fun K hK => ?_) ?_
        · refine step_append_X (by rfl) _ _ 28 rfl w3.heap.size 47 i0 _ 4 40 Tryz.underlying28 hi hz0 hz1 hz2 rfl (by decide) _ [] 0 rfl Lwa.out _ N (row ncl ps) rfl (HDV.out _ Hwa.out) HONE.out (by unfold maxLen; omega) (by omega) (Hwa.out).size ?_
          intro v4 w4 hown4 hgr4 hv4
          have hb4 := (Hwa.out).trans (below_owned hgr4 (Hwa.out).size (fun k hk => ((Lwa.out).lt k hk).1))
          refine hK.out _ _ (HS.out _ hb4) (fun hHeld => ?_)
          have H4 := Lib.hid hb4
          have O4 := Lib.hid hown4
          have G4 := Lib.hid hgr4
          clear hK K hHeld hb4 hown4 hgr4 hv4
          try simp only [Act.put, List.getElem_toArray, List.getElem_cons_zero, List.getElem_cons_succ, List.setIfInBounds_toArray, List.set_cons_zero, List.set_cons_succ]
          refine AnyE.next (rs := [5]) (by kernel_rfl) (by simp) ?_
          refine AllE.cons rfl (fun K hK => ?_) AllE.nil
          go_simp
          refine hK.out _ _ (HS.out _ ((H4.out).alloc (H4.out).size (.cells #[.int .u64 (n.key : Int), .int .u32 (n.cookie : Int), .bool n.gone, .slice x vL vc] 47))) (fun hHeld => ?_)
          have Hwb := Lib.hid ((H4.out).alloc (H4.out).size (.cells #[.int .u64 (n.key : Int), .int .u32 (n.cookie : Int), .bool n.gone, .slice x vL vc] 47))
          have Lwb := Lib.hid (World.ownsRow_lit (base := w3.heap.size) (e := 47) (size := 4) w4 #[.int .u64 (n.key : Int), .int .u32 (n.cookie : Int), .bool n.gone, .slice x vL vc] 1 (H4.out).size (by unfold maxLen; omega) rfl)
          have Bwb := Lib.hid (below_alloc w4 (.cells #[.int .u64 (n.key : Int), .int .u32 (n.cookie : Int), .bool n.gone, .slice x vL vc] 47))
          have Zwb : w4.heap.size < (w4.alloc (.cells #[.int .u64 (n.key : Int), .int .u32 (n.cookie : Int), .bool n.gone, .slice x vL vc] 47)).heap.size := by simp
          obtain ⟨wb, hwb⟩ : ∃ wb, w4.alloc (.cells #[.int .u64 (n.key : Int), .int .u32 (n.cookie : Int), .bool n.gone, .slice x vL vc] 47) = wb := ⟨_, rfl⟩
          rw [hwb] at Hwb Lwb Bwb Zwb
          rw [hwb]
          clear hK K hwb hHeld
          try simp only [Act.put, List.getElem_toArray, List.getElem_cons_zero, List.getElem_cons_succ, List.setIfInBounds_toArray, List.set_cons_zero, List.set_cons_succ]
          refine AnyE.next (rs := [6]) (by kernel_rfl) (by simp) ?_
          refine AllE.cons rfl (fun K hK => ?_) AllE.nil
          refine step_append_X (by rfl) _ _ 28 rfl w3.heap.size 47 i0 _ 4 40 Tryz.underlying28 hi hz0 hz1 hz2 rfl (by decide) _ ([] ++ row ncl ps) (0 + N) rfl (ownsRow_below O4.out Bwb.out (Nat.le_refl _)) _ 1 [.int .u64 (n.key : Int), .int .u32 (n.cookie : Int), .bool n.gone, .slice x vL vc] rfl (IsX.own Lwb.out) (by simp [Value.oneCell']) (by unfold maxLen; omega) (by omega) (Hwb.out).size ?_
          intro v6 w6 hown6 hgr6 hv6
          have hb6 := (Hwb.out).trans (below_owned hgr6 (Hwb.out).size (fun k hk => (((ownsRow_below O4.out Bwb.out (Nat.le_refl _))).lt k hk).1))
          rw [Nat.zero_add] at hown6
          obtain ⟨dx, dc, rfl, _, _⟩ := ownsRow_slice hown6
          refine hK.out _ _ (HS.out _ hb6) (fun hHeld => ?_)
          have H6 := Lib.hid hb6
          have O6 := Lib.hid hown6
          clear hK K hHeld hb6 hown6 hgr6 hv6
          try simp only [Act.put, List.getElem_toArray, List.getElem_cons_zero, List.getElem_cons_succ, List.setIfInBounds_toArray, List.set_cons_zero, List.set_cons_succ]
          refine AnyE.next (rs := [7]) (by kernel_rfl) (by simp) ?_
          refine AllE.cons rfl (fun K hK => ?_) AllE.nil
          go_simp
          refine hK.out _ _ (HS.out _ H6.out) (fun hHeld => ?_)
          clear hK K
          try simp only [Act.put, List.getElem_toArray, List.getElem_cons_zero, List.getElem_cons_succ, List.setIfInBounds_toArray, List.set_cons_zero, List.set_cons_succ]
          have f6 := (HBK.out _ H6.out).free 6
          refine AnyE.next (rs := [8]) (by kernel_rfl) (by simp) ?_
          refine AllE.last rfl (fun K hK => ?_)
          go_simp
          refine hK.out _ _ ?_
          clear hK K
          try simp only [Act.put, List.getElem_toArray, List.getElem_cons_zero, List.getElem_cons_succ, List.setIfInBounds_toArray, List.set_cons_zero, List.set_cons_succ]
          refine AnyE.done (by kernel_rfl) ?_ _
          go_wp2_with fail
          go_meet
          exact ⟨w6, dx, dc, rfl, H6, O6⟩
        refine AllE.cons rfl (fun K hK => ?_) AllE.nil
        go_simp
        refine hK.out _ _ (HS.out _ ((Hwa.out).alloc (Hwa.out).size (.cells #[.int .u64 (n.key : Int), .int .u32 (n.cookie : Int), .bool n.gone, .slice x vL vc] 47))) (fun hHeld => ?_)
        have Hwb := Lib.hid ((Hwa.out).alloc (Hwa.out).size (.cells #[.int .u64 (n.key : Int), .int .u32 (n.cookie : Int), .bool n.gone, .slice x vL vc] 47))
        have Lwb := Lib.hid (World.ownsRow_lit (base := w3.heap.size) (e := 47) (size := 4) wa #[.int .u64 (n.key : Int), .int .u32 (n.cookie : Int), .bool n.gone, .slice x vL vc] 1 (Hwa.out).size (by unfold maxLen; omega) rfl)
        have Bwb := Lib.hid (below_alloc wa (.cells #[.int .u64 (n.key : Int), .int .u32 (n.cookie : Int), .bool n.gone, .slice x vL vc] 47))
        have Zwb : wa.heap.size < (wa.alloc (.cells #[.int .u64 (n.key : Int), .int .u32 (n.cookie : Int), .bool n.gone, .slice x vL vc] 47)).heap.size := by simp
        obtain ⟨wb, hwb⟩ : ∃ wb, wa.alloc (.cells #[.int .u64 (n.key : Int), .int .u32 (n.cookie : Int), .bool n.gone, .slice x vL vc] 47) = wb := ⟨_, rfl⟩
        rw [hwb] at Hwb Lwb Bwb Zwb
        rw [hwb]
        clear hK K hwb hHeld
        try simp only [Act.put, List.getElem_toArray, List.getElem_cons_zero, List.getElem_cons_succ, List.setIfInBounds_toArray, List.set_cons_zero, List.set_cons_succ]
        refine AnyE.next (rs := [3]) (by kernel_rfl) (by simp) ?_
        refine AllE.cons rfl (fun K hK => ?_) AllE.nil
        refine step_append_X (by rfl) _ _ 28 rfl w3.heap.size 47 i0 _ 4 40 Tryz.underlying28 hi hz0 hz1 hz2 rfl (by decide) _ [] 0 rfl (ownsRow_below Lwa.out Bwb.out (Nat.le_refl _)) _ N (row ncl ps) rfl (HDV.out _ Hwb.out) HONE.out (by unfold maxLen; omega) (by omega) (Hwb.out).size ?_
        intro v4 w4 hown4 hgr4 hv4
        have hb4 := (Hwb.out).trans (below_owned hgr4 (Hwb.out).size (fun k hk => (((ownsRow_below Lwa.out Bwb.out (Nat.le_refl _))).lt k hk).1))
        refine hK.out _ _ (HS.out _ hb4) (fun hHeld => ?_)
        have H4 := Lib.hid hb4
        have O4 := Lib.hid hown4
        have G4 := Lib.hid hgr4
        clear hK K hHeld hb4 hown4 hgr4 hv4
        try simp only [Act.put, List.getElem_toArray, List.getElem_cons_zero, List.getElem_cons_succ, List.setIfInBounds_toArray, List.set_cons_zero, List.set_cons_succ]
        refine AnyE.next (rs := [6]) (by kernel_rfl) (by simp) ?_
        refine AllE.cons rfl (fun K hK => ?_) AllE.nil
        refine step_append_X (by rfl) _ _ 28 rfl w3.heap.size 47 i0 _ 4 40 Tryz.underlying28 hi hz0 hz1 hz2 rfl (by decide) _ ([] ++ row ncl ps) (0 + N) rfl O4.out _ 1 [.int .u64 (n.key : Int), .int .u32 (n.cookie : Int), .bool n.gone, .slice x vL vc] rfl (lit_grown (IsX.own Lwb.out) G4.out (fun k hk => by cases hk; exact Nat.ne_of_lt Zwa)) (by simp [Value.oneCell']) (by unfold maxLen; omega) (by omega) (H4.out).size ?_
        intro v6 w6 hown6 hgr6 hv6
        have hb6 := (H4.out).trans (below_owned hgr6 (H4.out).size (fun k hk => ((O4.out).lt k hk).1))
        rw [Nat.zero_add] at hown6
        obtain ⟨dx, dc, rfl, _, _⟩ := ownsRow_slice hown6
        refine hK.out _ _ (HS.out _ hb6) (fun hHeld => ?_)
        have H6 := Lib.hid hb6
        have O6 := Lib.hid hown6
        clear hK K hHeld hb6 hown6 hgr6 hv6
        try simp only [Act.put, List.getElem_toArray, List.getElem_cons_zero, List.getElem_cons_succ, List.setIfInBounds_toArray, List.set_cons_zero, List.set_cons_succ]
        refine AnyE.next (rs := [7]) (by kernel_rfl) (by simp) ?_
        refine AllE.cons rfl (fun K hK => ?_) AllE.nil
        go_simp
        refine hK.out _ _ (HS.out _ H6.out) (fun hHeld => ?_)
        clear hK K
        try simp only [Act.put, List.getElem_toArray, List.getElem_cons_zero, List.getElem_cons_succ, List.setIfInBounds_toArray, List.set_cons_zero, List.set_cons_succ]
        have f6 := (HBK.out _ H6.out).free 6
        refine AnyE.next (rs := [8]) (by kernel_rfl) (by simp) ?_
        refine AllE.last rfl (fun K hK => ?_)
        go_simp
        refine hK.out _ _ ?_
        clear hK K
        try simp only [Act.put, List.getElem_toArray, List.getElem_cons_zero, List.getElem_cons_succ, List.setIfInBounds_toArray, List.set_cons_zero, List.set_cons_succ]
        refine AnyE.done (by kernel_rfl) ?_ _
        go_wp2_with fail
        go_meet
        exact ⟨w6, dx, dc, rfl, H6, O6⟩
      refine AllE.cons rfl (fun K hK => ?_) AllE.nil
      go_simp
      refine hK.out _ _ (HS.out _ (((Below.refl w3.heap.size w3).alloc (Nat.le_refl _) (.cells #[.int .u64 (n.key : Int), .int .u32 (n.cookie : Int), .bool n.gone, .slice x vL vc] 47)).drew)) (fun hHeld => ?_)
      have Hwb := Lib.hid (((Below.refl w3.heap.size w3).alloc (Nat.le_refl _) (.cells #[.int .u64 (n.key : Int), .int .u32 (n.cookie : Int), .bool n.gone, .slice x vL vc] 47)).drew)
      have Lwb := Lib.hid (ownsRow_below (World.ownsRow_lit (base := w3.heap.size) (e := 47) (size := 4) w3 #[.int .u64 (n.key : Int), .int .u32 (n.cookie : Int), .bool n.gone, .slice x vL vc] 1 (Nat.le_refl _) (by unfold maxLen; omega) rfl) ((Below.refl _ _).drew) (Nat.le_refl _))
      have Bwb := Lib.hid (((Below.refl w3.heap.size w3).alloc (Nat.le_refl _) (.cells #[.int .u64 (n.key : Int), .int .u32 (n.cookie : Int), .bool n.gone, .slice x vL vc] 47)).drew)
      have Zwb : w3.heap.size < ((w3.alloc (.cells #[.int .u64 (n.key : Int), .int .u32 (n.cookie : Int), .bool n.gone, .slice x vL vc] 47)).drew).heap.size := by simp
      obtain ⟨wb, hwb⟩ : ∃ wb, (w3.alloc (.cells #[.int .u64 (n.key : Int), .int .u32 (n.cookie : Int), .bool n.gone, .slice x vL vc] 47)).drew = wb := ⟨_, rfl⟩
      rw [hwb] at Hwb Lwb Bwb Zwb
      rw [hwb]
      clear hK K hwb hHeld
      try simp only [Act.put, List.getElem_toArray, List.getElem_cons_zero, List.getElem_cons_succ, List.setIfInBounds_toArray, List.set_cons_zero, List.set_cons_succ]
      refine AnyE.next (rs := [0]) (by kernel_rfl) (by simp) ?_
      refine AllE.cons rfl (fun K hK => ?_) AllE.nil
      go_simp
      refine hK.out _ _ (HS.out _ ((Hwb.out).alloc (Hwb.out).size (.cells #[] 47))) (fun hHeld => ?_)
      have Hwa := Lib.hid ((Hwb.out).alloc (Hwb.out).size (.cells #[] 47))
      have Lwa := Lib.hid (World.ownsRow_lit (base := w3.heap.size) (e := 47) (size := 4) wb #[] 0 (Hwb.out).size (by unfold maxLen; omega) rfl)
      have Bwa := Lib.hid (below_alloc wb (.cells #[] 47))
      have Zwa : wb.heap.size < (wb.alloc (.cells #[] 47)).heap.size := by simp
      obtain ⟨wa, hwa⟩ : ∃ wa, wb.alloc (.cells #[] 47) = wa := ⟨_, rfl⟩
      rw [hwa] at Hwa Lwa Bwa Zwa
      rw [hwa]
      clear hK K hwa hHeld
      try simp only [Act.put, List.getElem_toArray, List.getElem_cons_zero, List.getElem_cons_succ, List.setIfInBounds_toArray, List.set_cons_zero, List.set_cons_succ]
      refine AnyE.next (rs := [3]) (by kernel_rfl) (by simp) ?_
      refine AllE.cons rfl (fun K hK => ?_) AllE.nil
      refine step_append_X (by rfl) _ _ 28 rfl w3.heap.size 47 i0 _ 4 40 Tryz.underlying28 hi hz0 hz1 hz2 rfl (by decide) _ [] 0 rfl Lwa.out _ N (row ncl ps) rfl (HDV.out _ Hwa.out) HONE.out (by unfold maxLen; omega) (by omega) (Hwa.out).size ?_
      intro v4 w4 hown4 hgr4 hv4
      have hb4 := (Hwa.out).trans (below_owned hgr4 (Hwa.out).size (fun k hk => ((Lwa.out).lt k hk).1))
      refine hK.out _ _ (HS.out _ hb4) (fun hHeld => ?_)
      have H4 := Lib.hid hb4
      have O4 := Lib.hid hown4
      have G4 := Lib.hid hgr4
      clear hK K hHeld hb4 hown4 hgr4 hv4
      try simp only [Act.put, List.getElem_toArray, List.getElem_cons_zero, List.getElem_cons_succ, List.setIfInBounds_toArray, List.set_cons_zero, List.set_cons_succ]
      refine AnyE.next (rs := [6]) (by kernel_rfl) (by simp) ?_
      refine AllE.cons rfl (fun K hK => ?_) AllE.nil
      refine step_append_X (by rfl) _ _ 28 rfl w3.heap.size 47 i0 _ 4 40 Tryz.underlying28 hi hz0 hz1 hz2 rfl (by decide) _ ([] ++ row ncl ps) (0 + N) rfl O4.out _ 1 [.int .u64 (n.key : Int), .int .u32 (n.cookie : Int), .bool n.gone, .slice x vL vc] rfl (lit_grown (IsX.mono (IsX.own Lwb.out) Bwa.out (Nat.le_refl _)) G4.out (fun k hk => by cases hk; exact Nat.ne_of_gt Zwb)) (by simp [Value.oneCell']) (by unfold maxLen; omega) (by omega) (H4.out).size ?_
      intro v6 w6 hown6 hgr6 hv6
      have hb6 := (H4.out).trans (below_owned hgr6 (H4.out).size (fun k hk => ((O4.out).lt k hk).1))
      rw [Nat.zero_add] at hown6
      obtain ⟨dx, dc, rfl, _, _⟩ := ownsRow_slice hown6
      refine hK.out _ _ (HS.out _ hb6) (fun hHeld => ?_)
      have H6 := Lib.hid hb6
      have O6 := Lib.hid hown6
      clear hK K hHeld hb6 hown6 hgr6 hv6
      try simp only [Act.put, List.getElem_toArray, List.getElem_cons_zero, List.getElem_cons_succ, List.setIfInBounds_toArray, List.set_cons_zero, List.set_cons_succ]
      refine AnyE.next (rs := [7]) (by kernel_rfl) (by simp) ?_
      refine AllE.cons rfl (fun K hK => ?_) AllE.nil
      go_simp
      refine hK.out _ _ (HS.out _ H6.out) (fun hHeld => ?_)
      clear hK K
      try simp only [Act.put, List.getElem_toArray, List.getElem_cons_zero, List.getElem_cons_succ, List.setIfInBounds_toArray, List.set_cons_zero, List.set_cons_succ]
      have f6 := (HBK.out _ H6.out).free 6
      refine AnyE.next (rs := [8]) (by kernel_rfl) (by simp) ?_
      refine AllE.last rfl (fun K hK => ?_)
      go_simp
      refine hK.out _ _ ?_
      clear hK K
      try simp only [Act.put, List.getElem_toArray, List.getElem_cons_zero, List.getElem_cons_succ, List.setIfInBounds_toArray, List.set_cons_zero, List.set_cons_succ]
      refine AnyE.done (by kernel_rfl) ?_ _
      go_wp2_with fail
      go_meet
      exact ⟨w6, dx, dc, rfl, H6, O6⟩
    case rest =>
      obtain ⟨w6, dx, dc, rfl, H6, O6⟩ := hcut
      have hV6 := (HBK.out _ H6.out).set 6 (.slice dx (N + 1) dc)
      have hR6 := (HR3.out.below H6.out hs3).other (a := ⟨w.heap.size, 6, none⟩) (fun e : w.heap.size = w.heap.size + 1 + 1 => by omega) (.slice dx (N + 1) dc)
      have hb7 : Below w.heap.size w (w6.setCell ⟨w.heap.size, 6, none⟩ (.slice dx (N + 1) dc)) := (HB3.out.trans (H6.out.mono HB3.out.size)).setCell (Nat.le_refl _) _
      have hO7 := ownsRow_setCell_below (ownsRow_base O6.out (show w.heap.size + 1 + 1 + 1 ≤ w3.heap.size by omega)) (show (⟨w.heap.size, 6, none⟩ : Addr).block < w.heap.size + 1 + 1 + 1 by show w.heap.size < _; omega) (.slice dx (N + 1) dc)
      have hL7 := ownsRow_setCell_below (ownsRow_base (ownsRow_below HO3.out H6.out (Nat.le_refl _)) (show w.heap.size + 1 + 1 + 1 ≤ wc.heap.size by omega)) (show (⟨w.heap.size, 6, none⟩ : Addr).block < w.heap.size + 1 + 1 + 1 by show w.heap.size < _; omega) (.slice dx (N + 1) dc)
      obtain ⟨w7, hw7⟩ : ∃ w7, w6.setCell ⟨w.heap.size, 6, none⟩ (.slice dx (N + 1) dc) = w7 := ⟨_, rfl⟩
      rw [hw7] at hV6 hR6 hb7 hO7 hL7
      rw [hw7]
      clear hw7
      have v3 := hV6.cell 3 rfl
      have f3 := hV6.free 3
      have hV8 := hV6.set 3 (.int .i64 ((Z : Int) + (T : Int)))
      have hR8 := hR6.other (a := ⟨w.heap.size, 3, none⟩) (fun e : w.heap.size = w.heap.size + 1 + 1 => by omega) (.int .i64 ((Z : Int) + (T : Int)))
      have hb8 := hb7.setCell (p := ⟨w.heap.size, 3, none⟩) (Nat.le_refl _) (.int .i64 ((Z : Int) + (T : Int)))
      have hO8 := ownsRow_setCell_below hO7 (show (⟨w.heap.size, 3, none⟩ : Addr).block < w.heap.size + 1 + 1 + 1 by show w.heap.size < _; omega) (.int .i64 ((Z : Int) + (T : Int)))
      have hL8 := ownsRow_setCell_below hL7 (show (⟨w.heap.size, 3, none⟩ : Addr).block < w.heap.size + 1 + 1 + 1 by show w.heap.size < _; omega) (.int .i64 ((Z : Int) + (T : Int)))
      obtain ⟨w8, hw8⟩ : ∃ w8, w7.setCell ⟨w.heap.size, 3, none⟩ (.int .i64 ((Z : Int) + (T : Int))) = w8 := ⟨_, rfl⟩
      rw [hw8] at hV8 hR8 hb8 hO8 hL8
      have hV9 : Blk w8 w.heap.size #[.int .i64 (s.num : Int), .int .i64 (M : Int), .int .i64 (s.epoch : Int), .int .i64 ((Z : Int) + (T : Int)), .bool s.shut, .slice lx PN lc, .slice dx (N + 1) dc] 30 := hV8
      have q0 := hV9.cell 0 rfl
      have q1 := hV9.cell 1 rfl
      have q2 := hV9.cell 2 rfl
      have q3 := hV9.cell 3 rfl
      have q4 := hV9.cell 4 rfl
      have q5 := hV9.cell 5 rfl
      have q6 := hV9.cell 6 rfl
      have r0 := hR8.cell 0 rfl
      have r1 := hR8.cell 1 rfl
      have r2 := hR8.cell 2 rfl
      have r3 := hR8.cell 3 rfl
      have r4 := hR8.cell 4 rfl
      have r5 := hR8.cell 5 rfl
      have r6 := hR8.cell 6 rfl
      have rf := fun j => hR8.free j
      have hF := blk_set7 hR8 (.int .i64 (s.num : Int)) (.int .i64 (M : Int)) (.int .i64 (s.epoch : Int)) (.int .i64 ((Z : Int) + (T : Int))) (.bool s.shut) (.slice lx PN lc) (.slice dx (N + 1) dc)
      have y0 := hF.cell 0 rfl
      have y1 := hF.cell 1 rfl
      have y2 := hF.cell 2 rfl
      have y3 := hF.cell 3 rfl
      have y4 := hF.cell 4 rfl
      have y5 := hF.cell 5 rfl
      have y6 := hF.cell 6 rfl
      have yb := below_set7 (u0 := .int .i64 (s.num : Int)) (u1 := .int .i64 (M : Int)) (u2 := .int .i64 (s.epoch : Int)) (u3 := .int .i64 ((Z : Int) + (T : Int))) (u4 := .bool s.shut) (u5 := .slice lx PN lc) (u6 := .slice dx (N + 1) dc) hb8 (show w.heap.size ≤ w.heap.size + 1 + 1 by omega)
      have yO := row_set7 (g := w.heap.size + 1 + 1) (u0 := .int .i64 (s.num : Int)) (u1 := .int .i64 (M : Int)) (u2 := .int .i64 (s.epoch : Int)) (u3 := .int .i64 ((Z : Int) + (T : Int))) (u4 := .bool s.shut) (u5 := .slice lx PN lc) (u6 := .slice dx (N + 1) dc) hO8 (Nat.lt_succ_self _)
      have yL := row_set7 (g := w.heap.size + 1 + 1) (u0 := .int .i64 (s.num : Int)) (u1 := .int .i64 (M : Int)) (u2 := .int .i64 (s.epoch : Int)) (u3 := .int .i64 ((Z : Int) + (T : Int))) (u4 := .bool s.shut) (u5 := .slice lx PN lc) (u6 := .slice dx (N + 1) dc) hL8 (Nat.lt_succ_self _)
      unfold set7 at y0 y1 y2 y3 y4 y5 y6 yb yO yL
      have HY := Lib.hid (And.intro y0 (And.intro y1 (And.intro y2 (And.intro y3 (And.intro y4 (And.intro y5 y6))))))
      have HYB := Lib.hid yb
      have HYO := Lib.hid (ownsRow_base yO (show w.heap.size ≤ w.heap.size + 1 + 1 + 1 by omega))
      have HYL := Lib.hid (ownsRow_base yL (show w.heap.size ≤ w.heap.size + 1 + 1 + 1 by omega))
      clear hF y0 y1 y2 y3 y4 y5 y6 yb yO yL hV6 hR6 hb7 hO7 hL7 hV8 hR8 hb8 hO8 hL8 hV9
      go_wp2
      obtain ⟨y0, y1, y2, y3, y4, y5, y6⟩ := HY.out
      have e1 := HPN.out
      have e2 := HPS.out
      have e3 := HSZ.out
      have e4 := HM.out
      refine bodyPost_ret (v := .tuple #[.agg #[.int .i64 (s.num : Int), .int .i64 (M : Int), .int .i64 (s.epoch : Int), .int .i64 ((Z : Int) + (T : Int)), .bool s.shut, .slice lx PN lc, .slice dx (N + 1) dc], .int .i64 0]) (by simp [results, Tryz.results37, go_sem, y0, y1, y2, y3, y4, y5, y6]) rfl ⟨.slice lx PN lc, .slice dx (N + 1) dc, ?_, ?_, ?_, HYB.out⟩
      · rw [← e3, ← e4]; rfl
      · rw [e1]; exact HYL.out
      · rw [← e2]; exact HYO.out
    -- W6 END

end Go.Proofs.YtoblbipkkdiddaaGreatDoor
end

section
namespace Go.Proofs.YtoblbipkkdiddaaGreatDoor
open Go.RowKit Go.Cor

/-- What a call of the document's leaves: the volume and a code. -/
def DocT (w : World) (S : Nat → Prop) (s' : Vst) (c : Nat) (e : Ending) (w' : World) : Prop := ∃ lv dv ps, e = .returned (.tuple #[dval s' lv dv, .int .i64 (c : Int)]) ∧ DocP w' S s' lv dv ps ∧ Below w.heap.size w w'
theorem three_facts {w w2 : World} {A B C : Array Value} {TA TB TC : TypeId} (hb : Below (((w.alloc (.cells A TA)).alloc (.cells B TB)).alloc (.cells C TC)).heap.size (((w.alloc (.cells A TA)).alloc (.cells B TB)).alloc (.cells C TC)) w2) :
    Blk w2 w.heap.size A TA ∧ Blk w2 (w.heap.size + 1) B TB ∧ Blk w2 (w.heap.size + 1 + 1) C TC ∧ Below w.heap.size w w2 ∧ w.heap.size + 1 + 1 < w2.heap.size := by
  have h1 := ((Blk.new w A TA).alloc (.cells B TB)).alloc (.cells C TC)
  have h2 := (Blk.new (w.alloc (.cells A TA)) B TB).alloc (.cells C TC)
  have h3 := Blk.new ((w.alloc (.cells A TA)).alloc (.cells B TB)) C TC
  rw [show (w.alloc (.cells A TA)).heap.size = w.heap.size + 1 by simp] at h2
  rw [show ((w.alloc (.cells A TA)).alloc (.cells B TB)).heap.size = w.heap.size + 1 + 1 by simp] at h3
  have hs := hb.size
  have e : (((w.alloc (.cells A TA)).alloc (.cells B TB)).alloc (.cells C TC)).heap.size = w.heap.size + 1 + 1 + 1 := by simp
  rw [e] at hb hs
  refine ⟨h1.below hb (by omega), h2.below hb (by omega), h3.below hb (by omega), ?_, by omega⟩
  exact (((below_alloc w (.cells A TA)).alloc (by simp) (.cells B TB)).alloc (by simp; omega) (.cells C TC)).trans (hb.mono (by omega))
theorem three_below (w : World) (A B C : Array Value) (TA TB TC : TypeId) : Below w.heap.size w (((w.alloc (.cells A TA)).alloc (.cells B TB)).alloc (.cells C TC)) :=
  ((below_alloc w (.cells A TA)).alloc (by simp) (.cells B TB)).alloc (by simp; omega) (.cells C TC)
abbrev zvol : Array Value := #[.int .i64 0, .int .i64 0, .int .i64 0, .int .i64 0, .bool false, .slice none 0 0, .slice none 0 0]

theorem fin7 {w w2 : World} {B : Nat} {a0 a1 a2 a3 a4 a5 a6 : Value} {T : TypeId} (h : Blk w2 B #[a0, a1, a2, a3, a4, a5, a6] T) (hb : Below w.heap.size w w2) (hB : w.heap.size ≤ B) (u0 u1 u2 u3 u4 u5 u6 : Value) :
    (set7 w2 B u0 u1 u2 u3 u4 u5 u6).cell? ⟨B, 0, none⟩ = some u0 ∧ (set7 w2 B u0 u1 u2 u3 u4 u5 u6).cell? ⟨B, 1, none⟩ = some u1 ∧ (set7 w2 B u0 u1 u2 u3 u4 u5 u6).cell? ⟨B, 2, none⟩ = some u2 ∧ (set7 w2 B u0 u1 u2 u3 u4 u5 u6).cell? ⟨B, 3, none⟩ = some u3 ∧
    (set7 w2 B u0 u1 u2 u3 u4 u5 u6).cell? ⟨B, 4, none⟩ = some u4 ∧ (set7 w2 B u0 u1 u2 u3 u4 u5 u6).cell? ⟨B, 5, none⟩ = some u5 ∧ (set7 w2 B u0 u1 u2 u3 u4 u5 u6).cell? ⟨B, 6, none⟩ = some u6 ∧ Below w.heap.size w (set7 w2 B u0 u1 u2 u3 u4 u5 u6) := by
  have hz := blk_set7 h u0 u1 u2 u3 u4 u5 u6
  exact ⟨hz.cell 0 rfl, hz.cell 1 rfl, hz.cell 2 rfl, hz.cell 3 rfl, hz.cell 4 rfl, hz.cell 5 rfl, hz.cell 6 rfl, below_set7 hb hB⟩

theorem fin7a {w w2 : World} {B : Nat} {a0 a1 a2 a3 a4 a5 a6 : Value} {T : TypeId} (h : Blk w2 B #[a0, a1, a2, a3, a4, a5, a6] T) (hb : Below w.heap.size w w2) (hB : w.heap.size ≤ B) (u0 u1 u2 u3 u4 u5 u6 : Value) (o : Obj) :
    ((set7 w2 B u0 u1 u2 u3 u4 u5 u6).alloc o).cell? ⟨B, 0, none⟩ = some u0 ∧ ((set7 w2 B u0 u1 u2 u3 u4 u5 u6).alloc o).cell? ⟨B, 1, none⟩ = some u1 ∧ ((set7 w2 B u0 u1 u2 u3 u4 u5 u6).alloc o).cell? ⟨B, 2, none⟩ = some u2 ∧ ((set7 w2 B u0 u1 u2 u3 u4 u5 u6).alloc o).cell? ⟨B, 3, none⟩ = some u3 ∧
    ((set7 w2 B u0 u1 u2 u3 u4 u5 u6).alloc o).cell? ⟨B, 4, none⟩ = some u4 ∧ ((set7 w2 B u0 u1 u2 u3 u4 u5 u6).alloc o).cell? ⟨B, 5, none⟩ = some u5 ∧ ((set7 w2 B u0 u1 u2 u3 u4 u5 u6).alloc o).cell? ⟨B, 6, none⟩ = some u6 ∧ Below w.heap.size w ((set7 w2 B u0 u1 u2 u3 u4 u5 u6).alloc o) := by
  have hz := (blk_set7 h u0 u1 u2 u3 u4 u5 u6).alloc o
  exact ⟨hz.cell 0 rfl, hz.cell 1 rfl, hz.cell 2 rfl, hz.cell 3 rfl, hz.cell 4 rfl, hz.cell 5 rfl, hz.cell 6 rfl, (below_set7 hb hB).alloc (by have := (blk_set7 h u0 u1 u2 u3 u4 u5 u6).lt; omega) o⟩

set_option maxRecDepth 100000 in
set_option maxHeartbeats 1000000 in
theorem rput_g (key cookie : Nat) (data : List UInt8) (x : Option Addr) (vL vc : Nat) (S : Nat → Prop) (s : Vst) (lv dv : Value) (ps : List (Ndl × Value)) (w : World) (h : DocP w S s lv dv ps) :
    Calls Tryz.prog 61 #[dval s lv dv, Nd.nval ⟨key, cookie, true, data⟩ (.slice x vL vc)] w (DocT w S s 1) := by
  obtain ⟨lx, lc, rfl, _, _⟩ := IsX.slice h.l
  obtain ⟨dx, dc, rfl, _, _⟩ := IsX.slice h.d.1
  have hpl : ps.length = s.ns.length := by rw [← h.ns, List.length_map]
  obtain ⟨I, hI⟩ : ∃ I, s.idx.length = I := ⟨_, rfl⟩
  obtain ⟨N, hN⟩ : ∃ N, ps.length = N := ⟨_, rfl⟩
  rw [hI, hN] at h ⊢
  have HH := Lib.hid h
  clear h hI hN
  go_enter Tryz.func61, Tryz.ntmps61
  go_wp2
  have yb := three_below w #[.int .i64 (s.num : Int), .int .i64 (s.most : Int), .int .i64 (s.epoch : Int), .int .i64 (s.size : Int), .bool s.shut, .slice lx I lc, .slice dx N dc] #[.int .u64 (key : Int), .int .u32 (cookie : Int), .bool true, .slice x vL vc] #[.int .i64 (s.num : Int), .int .i64 (s.most : Int), .int .i64 (s.epoch : Int), .int .i64 (s.size : Int), .bool s.shut, .slice lx I lc, .slice dx N dc] 30 47 30
  exact bodyPost_ret (v := .tuple #[dval s (.slice lx I lc) (.slice dx N dc), .int .i64 1]) (by simp [results, Tryz.results61, go_sem]) rfl ⟨_, _, ps, rfl, HH.out.below yb, yb⟩
set_option maxRecDepth 100000 in
set_option maxHeartbeats 1000000 in
theorem rput_b (key cookie : Nat) (data : List UInt8) (x : Option Addr) (vL vc : Nat) (S : Nat → Prop) (s : Vst) (lv dv : Value) (ps : List (Ndl × Value)) (w : World) (h : DocP w S s lv dv ps) (hv : IsB w (.slice x vL vc) data) (hc : ncheck ⟨key, cookie, false, data⟩ ≠ 0) :
    Calls Tryz.prog 61 #[dval s lv dv, Nd.nval ⟨key, cookie, false, data⟩ (.slice x vL vc)] w (DocT w S s (ncheck ⟨key, cookie, false, data⟩)) := by
  obtain ⟨lx, lc, rfl, _, _⟩ := IsX.slice h.l
  obtain ⟨dx, dc, rfl, _, _⟩ := IsX.slice h.d.1
  have hpl : ps.length = s.ns.length := by rw [← h.ns, List.length_map]
  obtain ⟨I, hI⟩ : ∃ I, s.idx.length = I := ⟨_, rfl⟩
  obtain ⟨N, hN⟩ : ∃ N, ps.length = N := ⟨_, rfl⟩
  rw [hI, hN] at h ⊢
  have HH := Lib.hid h
  have HV := Lib.hid hv
  have HB0 := Lib.hid (three_below w #[.int .i64 (s.num : Int), .int .i64 (s.most : Int), .int .i64 (s.epoch : Int), .int .i64 (s.size : Int), .bool s.shut, .slice lx I lc, .slice dx N dc] #[.int .u64 (key : Int), .int .u32 (cookie : Int), .bool false, .slice x vL vc] zvol 30 47 30)
  have HCK := Lib.hid (Nd.refcheck_any ⟨key, cookie, false, data⟩ (.slice x vL vc) _ (hv.mono HB0.out (Nat.le_refl _)))
  obtain ⟨q, hq⟩ : ∃ q, ncheck ⟨key, cookie, false, data⟩ = q := ⟨_, rfl⟩
  rw [hq] at hc HCK ⊢
  have hq0 : ¬ (q : Int) = 0 := by omega
  clear h hI hN hv hpl hq
  go_enter Tryz.func61, Tryz.ntmps61
  go_wp2_with fail
  refine HCK.out.mono ?_
  rintro e w2 ⟨rfl, hb2⟩
  obtain ⟨hV, hNN, hR, hB, hlt⟩ := three_facts hb2
  have HVB := Lib.hid hV
  have HNB := Lib.hid hNN
  have HRB := Lib.hid hR
  have HB2 := Lib.hid hB
  have v0 := hV.cell 0 rfl
  have v1 := hV.cell 1 rfl
  have v2 := hV.cell 2 rfl
  have v3 := hV.cell 3 rfl
  have v4 := hV.cell 4 rfl
  have v5 := hV.cell 5 rfl
  have v6 := hV.cell 6 rfl
  have r0 := hR.cell 0 rfl
  have r1 := hR.cell 1 rfl
  have r2 := hR.cell 2 rfl
  have r3 := hR.cell 3 rfl
  have r4 := hR.cell 4 rfl
  have r5 := hR.cell 5 rfl
  have r6 := hR.cell 6 rfl
  have rf := fun j => hR.free j
  have n0 := hNN.cell 0 rfl
  have n1 := hNN.cell 1 rfl
  have n2 := hNN.cell 2 rfl
  have n3 := hNN.cell 3 rfl
  clear hb2 hV hNN hR hB
  have hF := fin7 HRB.out HB2.out (show w.heap.size ≤ w.heap.size + 1 + 1 by omega) (.int .i64 (s.num : Int)) (.int .i64 (s.most : Int)) (.int .i64 (s.epoch : Int)) (.int .i64 (s.size : Int)) (.bool s.shut) (.slice lx I lc) (.slice dx N dc)
  unfold set7 at hF
  have HF := Lib.hid hF
  clear hF
  go_wp2
  obtain ⟨y0, y1, y2, y3, y4, y5, y6, yb⟩ := HF.out
  exact bodyPost_ret (v := .tuple #[.agg #[.int .i64 (s.num : Int), .int .i64 (s.most : Int), .int .i64 (s.epoch : Int), .int .i64 (s.size : Int), .bool s.shut, .slice lx I lc, .slice dx N dc], .int .i64 (q : Int)]) (by simp [results, Tryz.results61, go_sem, y0, y1, y2, y3, y4, y5, y6]) rfl ⟨_, _, ps, rfl, HH.out.below yb, yb⟩
set_option maxRecDepth 100000 in
set_option maxHeartbeats 1000000 in
theorem rput_s (key cookie : Nat) (data : List UInt8) (x : Option Addr) (vL vc : Nat) (S : Nat → Prop) (s : Vst) (lv dv : Value) (ps : List (Ndl × Value)) (w : World) (h : DocP w S s lv dv ps) (hv : IsB w (.slice x vL vc) data) (hc : ncheck ⟨key, cookie, false, data⟩ = 0) (hs : s.shut = true) :
    Calls Tryz.prog 61 #[dval s lv dv, Nd.nval ⟨key, cookie, false, data⟩ (.slice x vL vc)] w (DocT w S s 10) := by
  obtain ⟨lx, lc, rfl, _, _⟩ := IsX.slice h.l
  obtain ⟨dx, dc, rfl, _, _⟩ := IsX.slice h.d.1
  have hpl : ps.length = s.ns.length := by rw [← h.ns, List.length_map]
  obtain ⟨I, hI⟩ : ∃ I, s.idx.length = I := ⟨_, rfl⟩
  obtain ⟨N, hN⟩ : ∃ N, ps.length = N := ⟨_, rfl⟩
  rw [hI, hN] at h ⊢
  have HH := Lib.hid h
  have HV := Lib.hid hv
  have HB0 := Lib.hid (three_below w #[.int .i64 (s.num : Int), .int .i64 (s.most : Int), .int .i64 (s.epoch : Int), .int .i64 (s.size : Int), .bool s.shut, .slice lx I lc, .slice dx N dc] #[.int .u64 (key : Int), .int .u32 (cookie : Int), .bool false, .slice x vL vc] zvol 30 47 30)
  have HCK := Lib.hid (Nd.refcheck_any ⟨key, cookie, false, data⟩ (.slice x vL vc) _ (hv.mono HB0.out (Nat.le_refl _)))
  rw [hc] at HCK
  have HSH := Lib.hid hs
  clear h hI hN hv hpl hc hs
  go_enter Tryz.func61, Tryz.ntmps61
  go_wp2_with fail
  refine HCK.out.mono ?_
  rintro e w2 ⟨rfl, hb2⟩
  obtain ⟨hV, hNN, hR, hB, hlt⟩ := three_facts hb2
  have HVB := Lib.hid hV
  have HNB := Lib.hid hNN
  have HRB := Lib.hid hR
  have HB2 := Lib.hid hB
  have v0 := hV.cell 0 rfl
  have v1 := hV.cell 1 rfl
  have v2 := hV.cell 2 rfl
  have v3 := hV.cell 3 rfl
  have v4 := hV.cell 4 rfl
  have v5 := hV.cell 5 rfl
  have v6 := hV.cell 6 rfl
  have r0 := hR.cell 0 rfl
  have r1 := hR.cell 1 rfl
  have r2 := hR.cell 2 rfl
  have r3 := hR.cell 3 rfl
  have r4 := hR.cell 4 rfl
  have r5 := hR.cell 5 rfl
  have r6 := hR.cell 6 rfl
  have rf := fun j => hR.free j
  have n0 := hNN.cell 0 rfl
  have n1 := hNN.cell 1 rfl
  have n2 := hNN.cell 2 rfl
  have n3 := hNN.cell 3 rfl
  clear hb2 hV hNN hR hB
  rw [HSH.out] at v4
  have hF := fin7 HRB.out HB2.out (show w.heap.size ≤ w.heap.size + 1 + 1 by omega) (.int .i64 (s.num : Int)) (.int .i64 (s.most : Int)) (.int .i64 (s.epoch : Int)) (.int .i64 (s.size : Int)) (.bool true) (.slice lx I lc) (.slice dx N dc)
  unfold set7 at hF
  have HF := Lib.hid hF
  clear hF
  go_wp2
  obtain ⟨y0, y1, y2, y3, y4, y5, y6, yb⟩ := HF.out
  exact bodyPost_ret (v := .tuple #[.agg #[.int .i64 (s.num : Int), .int .i64 (s.most : Int), .int .i64 (s.epoch : Int), .int .i64 (s.size : Int), .bool true, .slice lx I lc, .slice dx N dc], .int .i64 10]) (by simp [results, Tryz.results61, go_sem, y0, y1, y2, y3, y4, y5, y6]) rfl ⟨_, _, ps, by rw [show dval s (.slice lx I lc) (.slice dx N dc) = .agg #[.int .i64 (s.num : Int), .int .i64 (s.most : Int), .int .i64 (s.epoch : Int), .int .i64 (s.size : Int), .bool true, .slice lx I lc, .slice dx N dc] by rw [← HSH.out]]; rfl, HH.out.below yb, yb⟩
set_option maxRecDepth 100000 in
set_option maxHeartbeats 1000000 in
theorem rput_d (key cookie : Nat) (data : List UInt8) (x : Option Addr) (vL vc : Nat) (S : Nat → Prop) (s : Vst) (lv dv : Value) (ps : List (Ndl × Value)) (w : World) (h : DocP w S s lv dv ps) (hv : IsB w (.slice x vL vc) data) (hc : ncheck ⟨key, cookie, false, data⟩ = 0) (hs : s.shut = false) (hf : s.ns.length < 4096) (o : Ndl) (ho : newest s.ns key = some o) (hg : o.gone = true) :
    Calls Tryz.prog 61 #[dval s lv dv, Nd.nval ⟨key, cookie, false, data⟩ (.slice x vL vc)] w (DocT w S s 7) := by
  obtain ⟨lx, lc, rfl, _, _⟩ := IsX.slice h.l
  obtain ⟨dx, dc, rfl, _, _⟩ := IsX.slice h.d.1
  have hpl : ps.length = s.ns.length := by rw [← h.ns, List.length_map]
  obtain ⟨I, hI⟩ : ∃ I, s.idx.length = I := ⟨_, rfl⟩
  obtain ⟨N, hN⟩ : ∃ N, ps.length = N := ⟨_, rfl⟩
  rw [hI, hN] at h ⊢
  have HH := Lib.hid h
  have HV := Lib.hid hv
  have HB0 := Lib.hid (three_below w #[.int .i64 (s.num : Int), .int .i64 (s.most : Int), .int .i64 (s.epoch : Int), .int .i64 (s.size : Int), .bool s.shut, .slice lx I lc, .slice dx N dc] #[.int .u64 (key : Int), .int .u32 (cookie : Int), .bool false, .slice x vL vc] zvol 30 47 30)
  have HCK := Lib.hid (Nd.refcheck_any ⟨key, cookie, false, data⟩ (.slice x vL vc) _ (hv.mono HB0.out (Nat.le_refl _)))
  rw [hc] at HCK
  have HSH := Lib.hid hs
  have HNW := Lib.hid (fun w1 (hb : Below w.heap.size w w1) => newest_r key S s _ _ ps w1 (h.below hb) (by rw [hN]; omega))
  have hdv : dval s (.slice lx I lc) (.slice dx N dc) = .agg #[.int .i64 (s.num : Int), .int .i64 (s.most : Int), .int .i64 (s.epoch : Int), .int .i64 (s.size : Int), .bool false, .slice lx I lc, .slice dx N dc] := by rw [← hs]
  rw [hdv] at HNW
  have HO := Lib.hid ho
  clear ho
  clear h hI hN hv hpl hc hs hf hdv
  go_enter Tryz.func61, Tryz.ntmps61
  go_wp2_with fail
  refine HCK.out.mono ?_
  rintro e w2 ⟨rfl, hb2⟩
  obtain ⟨hV, hNN, hR, hB, hlt⟩ := three_facts hb2
  have HVB := Lib.hid hV
  have HNB := Lib.hid hNN
  have HRB := Lib.hid hR
  have HB2 := Lib.hid hB
  have v0 := hV.cell 0 rfl
  have v1 := hV.cell 1 rfl
  have v2 := hV.cell 2 rfl
  have v3 := hV.cell 3 rfl
  have v4 := hV.cell 4 rfl
  have v5 := hV.cell 5 rfl
  have v6 := hV.cell 6 rfl
  have r0 := hR.cell 0 rfl
  have r1 := hR.cell 1 rfl
  have r2 := hR.cell 2 rfl
  have r3 := hR.cell 3 rfl
  have r4 := hR.cell 4 rfl
  have r5 := hR.cell 5 rfl
  have r6 := hR.cell 6 rfl
  have rf := fun j => hR.free j
  have n0 := hNN.cell 0 rfl
  have n1 := hNN.cell 1 rfl
  have n2 := hNN.cell 2 rfl
  have n3 := hNN.cell 3 rfl
  clear hb2 hV hNN hR hB
  rw [HSH.out] at v4
  go_wp2_with fail
  refine (HNW.out _ HB2.out).mono ?_
  rintro e w3 ⟨m, mx, mL, mc, rfl, hcase, hb3⟩
  rw [HO.out] at hcase ⊢
  have hV3 := HVB.out.below hb3 (by omega)
  have hN3 := HNB.out.below hb3 (by omega)
  have hR3 := HRB.out.below hb3 hlt
  have HB3 := Lib.hid (HB2.out.trans (hb3.mono HB2.out.size))
  have hlt3 : w.heap.size + 1 + 1 < w3.heap.size := hR3.lt
  have hl0 : w.heap.size < w3.heap.size := by omega
  have hl1 : w.heap.size + 1 < w3.heap.size := by omega
  clear v0 v1 v2 v3 v4 v5 v6 r0 r1 r2 r3 r4 r5 r6 rf n0 n1 n2 n3 hb3
  have hmo : m = o := by
    rcases hcase with h | h
    · have := h.1; cases this; rfl
    · exact absurd h.1 (by simp)
  subst hmo
  rw [Option.isSome_some]
  clear hcase
  have hmg : m.gone = true := hg
  obtain ⟨mk, mck, mg, md⟩ := m
  simp only at hmg
  subst hmg
  simp only
  have hV4 := hV3.alloc (.cells #[.int .u64 (mk : Int), .int .u32 (mck : Int), .bool true, .slice mx mL mc] 47)
  have hR4 := hR3.alloc (.cells #[.int .u64 (mk : Int), .int .u32 (mck : Int), .bool true, .slice mx mL mc] 47)
  have HB4 := Lib.hid (HB3.out.alloc HB3.out.size (.cells #[.int .u64 (mk : Int), .int .u32 (mck : Int), .bool true, .slice mx mL mc] 47))
  have v0 := hV3.cell 0 rfl
  have v1 := hV3.cell 1 rfl
  have v2 := hV3.cell 2 rfl
  have v3 := hV3.cell 3 rfl
  have v4 := hV3.cell 4 rfl
  have v5 := hV3.cell 5 rfl
  have v6 := hV3.cell 6 rfl
  rw [HSH.out] at v4
  have r0 := hR3.cell 0 rfl
  have r1 := hR3.cell 1 rfl
  have r2 := hR3.cell 2 rfl
  have r3 := hR3.cell 3 rfl
  have r4 := hR3.cell 4 rfl
  have r5 := hR3.cell 5 rfl
  have r6 := hR3.cell 6 rfl
  have rf := fun j => hR3.free j
  have HR3 := Lib.hid hR3
  clear hV3 hN3 hR3 hV4 hR4
  have hF := fin7a HR3.out HB3.out (show w.heap.size ≤ w.heap.size + 1 + 1 by omega) (.int .i64 (s.num : Int)) (.int .i64 (s.most : Int)) (.int .i64 (s.epoch : Int)) (.int .i64 (s.size : Int)) (.bool false) (.slice lx I lc) (.slice dx N dc) (.cells #[.int .u64 (mk : Int), .int .u32 (mck : Int), .bool true, .slice mx mL mc] 47)
  unfold set7 at hF
  have HF := Lib.hid hF
  clear hF
  go_wp2
  obtain ⟨y0, y1, y2, y3, y4, y5, y6, yb⟩ := HF.out
  exact bodyPost_ret (v := .tuple #[.agg #[.int .i64 (s.num : Int), .int .i64 (s.most : Int), .int .i64 (s.epoch : Int), .int .i64 (s.size : Int), .bool false, .slice lx I lc, .slice dx N dc], .int .i64 7]) (by simp [results, Tryz.results61, go_sem, y0, y1, y2, y3, y4, y5, y6]) rfl ⟨_, _, ps, by rw [show dval s (.slice lx I lc) (.slice dx N dc) = .agg #[.int .i64 (s.num : Int), .int .i64 (s.most : Int), .int .i64 (s.epoch : Int), .int .i64 (s.size : Int), .bool false, .slice lx I lc, .slice dx N dc] by rw [← HSH.out]]; rfl, HH.out.below yb, yb⟩
set_option maxRecDepth 100000 in
set_option maxHeartbeats 1000000 in
theorem rput_t (key cookie : Nat) (data : List UInt8) (x : Option Addr) (vL vc : Nat) (S : Nat → Prop) (s : Vst) (lv dv : Value) (ps : List (Ndl × Value)) (w : World) (h : DocP w S s lv dv ps) (hv : IsB w (.slice x vL vc) data) (hc : ncheck ⟨key, cookie, false, data⟩ = 0) (hs : s.shut = false) (hf : s.ns.length < 4096) (o : Ndl) (ho : newest s.ns key = some o) (hg : o.gone = false) :
    Calls Tryz.prog 61 #[dval s lv dv, Nd.nval ⟨key, cookie, false, data⟩ (.slice x vL vc)] w (DocT w S s 8) := by
  obtain ⟨lx, lc, rfl, _, _⟩ := IsX.slice h.l
  obtain ⟨dx, dc, rfl, _, _⟩ := IsX.slice h.d.1
  have hpl : ps.length = s.ns.length := by rw [← h.ns, List.length_map]
  obtain ⟨I, hI⟩ : ∃ I, s.idx.length = I := ⟨_, rfl⟩
  obtain ⟨N, hN⟩ : ∃ N, ps.length = N := ⟨_, rfl⟩
  rw [hI, hN] at h ⊢
  have HH := Lib.hid h
  have HV := Lib.hid hv
  have HB0 := Lib.hid (three_below w #[.int .i64 (s.num : Int), .int .i64 (s.most : Int), .int .i64 (s.epoch : Int), .int .i64 (s.size : Int), .bool s.shut, .slice lx I lc, .slice dx N dc] #[.int .u64 (key : Int), .int .u32 (cookie : Int), .bool false, .slice x vL vc] zvol 30 47 30)
  have HCK := Lib.hid (Nd.refcheck_any ⟨key, cookie, false, data⟩ (.slice x vL vc) _ (hv.mono HB0.out (Nat.le_refl _)))
  rw [hc] at HCK
  have HSH := Lib.hid hs
  have HNW := Lib.hid (fun w1 (hb : Below w.heap.size w w1) => newest_r key S s _ _ ps w1 (h.below hb) (by rw [hN]; omega))
  have hdv : dval s (.slice lx I lc) (.slice dx N dc) = .agg #[.int .i64 (s.num : Int), .int .i64 (s.most : Int), .int .i64 (s.epoch : Int), .int .i64 (s.size : Int), .bool false, .slice lx I lc, .slice dx N dc] := by rw [← hs]
  rw [hdv] at HNW
  have HO := Lib.hid ho
  clear ho
  clear h hI hN hv hpl hc hs hf hdv
  go_enter Tryz.func61, Tryz.ntmps61
  go_wp2_with fail
  refine HCK.out.mono ?_
  rintro e w2 ⟨rfl, hb2⟩
  obtain ⟨hV, hNN, hR, hB, hlt⟩ := three_facts hb2
  have HVB := Lib.hid hV
  have HNB := Lib.hid hNN
  have HRB := Lib.hid hR
  have HB2 := Lib.hid hB
  have v0 := hV.cell 0 rfl
  have v1 := hV.cell 1 rfl
  have v2 := hV.cell 2 rfl
  have v3 := hV.cell 3 rfl
  have v4 := hV.cell 4 rfl
  have v5 := hV.cell 5 rfl
  have v6 := hV.cell 6 rfl
  have r0 := hR.cell 0 rfl
  have r1 := hR.cell 1 rfl
  have r2 := hR.cell 2 rfl
  have r3 := hR.cell 3 rfl
  have r4 := hR.cell 4 rfl
  have r5 := hR.cell 5 rfl
  have r6 := hR.cell 6 rfl
  have rf := fun j => hR.free j
  have n0 := hNN.cell 0 rfl
  have n1 := hNN.cell 1 rfl
  have n2 := hNN.cell 2 rfl
  have n3 := hNN.cell 3 rfl
  clear hb2 hV hNN hR hB
  rw [HSH.out] at v4
  go_wp2_with fail
  refine (HNW.out _ HB2.out).mono ?_
  rintro e w3 ⟨m, mx, mL, mc, rfl, hcase, hb3⟩
  rw [HO.out] at hcase ⊢
  have hV3 := HVB.out.below hb3 (by omega)
  have hN3 := HNB.out.below hb3 (by omega)
  have hR3 := HRB.out.below hb3 hlt
  have HB3 := Lib.hid (HB2.out.trans (hb3.mono HB2.out.size))
  have hlt3 : w.heap.size + 1 + 1 < w3.heap.size := hR3.lt
  have hl0 : w.heap.size < w3.heap.size := by omega
  have hl1 : w.heap.size + 1 < w3.heap.size := by omega
  clear v0 v1 v2 v3 v4 v5 v6 r0 r1 r2 r3 r4 r5 r6 rf n0 n1 n2 n3 hb3
  have hmo : m = o := by
    rcases hcase with h | h
    · have := h.1; cases this; rfl
    · exact absurd h.1 (by simp)
  subst hmo
  rw [Option.isSome_some]
  clear hcase
  have hmg : m.gone = false := hg
  obtain ⟨mk, mck, mg, md⟩ := m
  simp only at hmg
  subst hmg
  simp only
  have hV4 := hV3.alloc (.cells #[.int .u64 (mk : Int), .int .u32 (mck : Int), .bool false, .slice mx mL mc] 47)
  have hR4 := hR3.alloc (.cells #[.int .u64 (mk : Int), .int .u32 (mck : Int), .bool false, .slice mx mL mc] 47)
  have HB4 := Lib.hid (HB3.out.alloc HB3.out.size (.cells #[.int .u64 (mk : Int), .int .u32 (mck : Int), .bool false, .slice mx mL mc] 47))
  have v0 := hV3.cell 0 rfl
  have v1 := hV3.cell 1 rfl
  have v2 := hV3.cell 2 rfl
  have v3 := hV3.cell 3 rfl
  have v4 := hV3.cell 4 rfl
  have v5 := hV3.cell 5 rfl
  have v6 := hV3.cell 6 rfl
  rw [HSH.out] at v4
  have r0 := hR3.cell 0 rfl
  have r1 := hR3.cell 1 rfl
  have r2 := hR3.cell 2 rfl
  have r3 := hR3.cell 3 rfl
  have r4 := hR3.cell 4 rfl
  have r5 := hR3.cell 5 rfl
  have r6 := hR3.cell 6 rfl
  have rf := fun j => hR3.free j
  have HR3 := Lib.hid hR3
  clear hV3 hN3 hR3 hV4 hR4
  have hF := fin7a HR3.out HB3.out (show w.heap.size ≤ w.heap.size + 1 + 1 by omega) (.int .i64 (s.num : Int)) (.int .i64 (s.most : Int)) (.int .i64 (s.epoch : Int)) (.int .i64 (s.size : Int)) (.bool false) (.slice lx I lc) (.slice dx N dc) (.cells #[.int .u64 (mk : Int), .int .u32 (mck : Int), .bool false, .slice mx mL mc] 47)
  unfold set7 at hF
  have HF := Lib.hid hF
  clear hF
  go_wp2
  obtain ⟨y0, y1, y2, y3, y4, y5, y6, yb⟩ := HF.out
  exact bodyPost_ret (v := .tuple #[.agg #[.int .i64 (s.num : Int), .int .i64 (s.most : Int), .int .i64 (s.epoch : Int), .int .i64 (s.size : Int), .bool false, .slice lx I lc, .slice dx N dc], .int .i64 8]) (by simp [results, Tryz.results61, go_sem, y0, y1, y2, y3, y4, y5, y6]) rfl ⟨_, _, ps, by rw [show dval s (.slice lx I lc) (.slice dx N dc) = .agg #[.int .i64 (s.num : Int), .int .i64 (s.most : Int), .int .i64 (s.epoch : Int), .int .i64 (s.size : Int), .bool false, .slice lx I lc, .slice dx N dc] by rw [← HSH.out]]; rfl, HH.out.below yb, yb⟩
set_option maxRecDepth 100000 in
set_option maxHeartbeats 1000000 in
theorem rput_n (key cookie : Nat) (data : List UInt8) (x : Option Addr) (vL vc : Nat) (S : Nat → Prop) (s : Vst) (lv dv : Value) (ps : List (Ndl × Value)) (w : World) (h : DocP w S s lv dv ps) (hv : IsB w (.slice x vL vc) data) (hvS : ∀ b, liesB (.slice x vL vc) data b → ¬ S b) (hSw : ∀ b, S b → b < w.heap.size) (hc : ncheck ⟨key, cookie, false, data⟩ = 0) (hs : s.shut = false) (hf : s.ns.length < 4095) (hsok : s.Ok) (hm : s.size + nlen ⟨key, cookie, false, data⟩ ≤ s.most) (ho : newest s.ns key = none) :
    Calls Tryz.prog 61 #[dval s lv dv, Nd.nval ⟨key, cookie, false, data⟩ (.slice x vL vc)] w (DocT w S (s.wrote ⟨key, cookie, false, data⟩) 0) := by
  obtain ⟨lx, lc, rfl, _, _⟩ := IsX.slice h.l
  obtain ⟨dx, dc, rfl, _, _⟩ := IsX.slice h.d.1
  have hpl : ps.length = s.ns.length := by rw [← h.ns, List.length_map]
  obtain ⟨I, hI⟩ : ∃ I, s.idx.length = I := ⟨_, rfl⟩
  obtain ⟨N, hN⟩ : ∃ N, ps.length = N := ⟨_, rfl⟩
  rw [hI, hN] at h ⊢
  have HH := Lib.hid h
  have HV := Lib.hid hv
  have HB0 := Lib.hid (three_below w #[.int .i64 (s.num : Int), .int .i64 (s.most : Int), .int .i64 (s.epoch : Int), .int .i64 (s.size : Int), .bool s.shut, .slice lx I lc, .slice dx N dc] #[.int .u64 (key : Int), .int .u32 (cookie : Int), .bool false, .slice x vL vc] zvol 30 47 30)
  have HCK := Lib.hid (Nd.refcheck_any ⟨key, cookie, false, data⟩ (.slice x vL vc) _ (hv.mono HB0.out (Nat.le_refl _)))
  have HWR := Lib.hid (fun w1 (hb : Below w.heap.size w w1) => write_r ⟨key, cookie, false, data⟩ x vL vc S s _ _ ps w1 (h.below hb) hsok (hv.mono hb (Nat.le_refl _)) hc hm (by omega))
  have HO := Lib.hid ho
  have HVS := Lib.hid hvS
  have HSW := Lib.hid hSw
  clear ho hvS hSw hsok hm
  rw [hc] at HCK
  have HSH := Lib.hid hs
  have HNW := Lib.hid (fun w1 (hb : Below w.heap.size w w1) => newest_r key S s _ _ ps w1 (h.below hb) (by rw [hN]; omega))
  have hdv : dval s (.slice lx I lc) (.slice dx N dc) = .agg #[.int .i64 (s.num : Int), .int .i64 (s.most : Int), .int .i64 (s.epoch : Int), .int .i64 (s.size : Int), .bool false, .slice lx I lc, .slice dx N dc] := by rw [← hs]
  rw [hdv] at HNW HWR
  clear h hI hN hv hpl hc hs hf hdv
  go_enter Tryz.func61, Tryz.ntmps61
  go_wp2_with fail
  refine HCK.out.mono ?_
  rintro e w2 ⟨rfl, hb2⟩
  obtain ⟨hV, hNN, hR, hB, hlt⟩ := three_facts hb2
  have HVB := Lib.hid hV
  have HNB := Lib.hid hNN
  have HRB := Lib.hid hR
  have HB2 := Lib.hid hB
  have v0 := hV.cell 0 rfl
  have v1 := hV.cell 1 rfl
  have v2 := hV.cell 2 rfl
  have v3 := hV.cell 3 rfl
  have v4 := hV.cell 4 rfl
  have v5 := hV.cell 5 rfl
  have v6 := hV.cell 6 rfl
  have r0 := hR.cell 0 rfl
  have r1 := hR.cell 1 rfl
  have r2 := hR.cell 2 rfl
  have r3 := hR.cell 3 rfl
  have r4 := hR.cell 4 rfl
  have r5 := hR.cell 5 rfl
  have r6 := hR.cell 6 rfl
  have rf := fun j => hR.free j
  have n0 := hNN.cell 0 rfl
  have n1 := hNN.cell 1 rfl
  have n2 := hNN.cell 2 rfl
  have n3 := hNN.cell 3 rfl
  clear hb2 hV hNN hR hB
  rw [HSH.out] at v4
  go_wp2_with fail
  refine (HNW.out _ HB2.out).mono ?_
  rintro e w3 ⟨m, mx, mL, mc, rfl, hcase, hb3⟩
  rw [HO.out] at hcase ⊢
  have hV3 := HVB.out.below hb3 (by omega)
  have hN3 := HNB.out.below hb3 (by omega)
  have hR3 := HRB.out.below hb3 hlt
  have HB3 := Lib.hid (HB2.out.trans (hb3.mono HB2.out.size))
  have hlt3 : w.heap.size + 1 + 1 < w3.heap.size := hR3.lt
  have hl0 : w.heap.size < w3.heap.size := by omega
  have hl1 : w.heap.size + 1 < w3.heap.size := by omega
  clear v0 v1 v2 v3 v4 v5 v6 r0 r1 r2 r3 r4 r5 r6 rf n0 n1 n2 n3 hb3
  obtain ⟨rfl, rfl, rfl, rfl⟩ : m = ⟨0, 0, false, []⟩ ∧ mx = none ∧ mL = 0 ∧ mc = 0 := by
    rcases hcase with h | h
    · exact absurd h.1 (by simp)
    · exact h.2
  rw [Option.isSome_none]
  clear hcase
  have HB4 := Lib.hid (HB3.out.alloc HB3.out.size (.cells #[.int .u64 0, .int .u32 0, .bool false, .slice none 0 0] 47))
  have HR4 := Lib.hid (hR3.alloc (.cells #[.int .u64 0, .int .u32 0, .bool false, .slice none 0 0] 47))
  have v0 := hV3.cell 0 rfl
  have v1 := hV3.cell 1 rfl
  have v2 := hV3.cell 2 rfl
  have v3 := hV3.cell 3 rfl
  have v4 := hV3.cell 4 rfl
  have v5 := hV3.cell 5 rfl
  have v6 := hV3.cell 6 rfl
  rw [HSH.out] at v4
  have n0 := hN3.cell 0 rfl
  have n1 := hN3.cell 1 rfl
  have n2 := hN3.cell 2 rfl
  have n3 := hN3.cell 3 rfl
  clear hV3 hN3 hR3
  go_wp2_with fail
  refine (HWR.out _ HB4.out).mono ?_
  rintro e w5 ⟨lv', dv', rfl, hL5, hD5, hb5⟩
  obtain ⟨lx5, lc5, rfl, _, _⟩ := ownsRow_slice hL5
  obtain ⟨dx5, dc5, rfl, _, _⟩ := ownsRow_slice hD5
  obtain ⟨PN, hPN⟩ : ∃ PN, (put s.idx (posN ⟨key, cookie, false, data⟩ s.size)).length = PN := ⟨_, rfl⟩
  obtain ⟨DN, hDN⟩ : ∃ DN, ps.length + 1 = DN := ⟨_, rfl⟩
  rw [hPN] at hL5 ⊢
  rw [hDN] at hD5 ⊢
  obtain ⟨s2, hs2⟩ : ∃ s2, s.wrote ⟨key, cookie, false, data⟩ = s2 := ⟨_, rfl⟩
  have hR5 := HR4.out.below hb5 (by simp; omega)
  have hs4 : w.heap.size ≤ w3.heap.size + 1 := by have := HB3.out.size; omega
  have HB5 := Lib.hid (HB4.out.trans (hb5.mono (by simp; omega)))
  have hL6 := row_set7 (g := w.heap.size + 1 + 1) (u0 := .int .i64 (s2.num : Int)) (u1 := .int .i64 (s2.most : Int)) (u2 := .int .i64 (s2.epoch : Int)) (u3 := .int .i64 (s2.size : Int)) (u4 := .bool s2.shut) (u5 := .slice lx5 PN lc5) (u6 := .slice dx5 DN dc5) hL5 (by simp; omega)
  have hD6 := row_set7 (g := w.heap.size + 1 + 1) (u0 := .int .i64 (s2.num : Int)) (u1 := .int .i64 (s2.most : Int)) (u2 := .int .i64 (s2.epoch : Int)) (u3 := .int .i64 (s2.size : Int)) (u4 := .bool s2.shut) (u5 := .slice lx5 PN lc5) (u6 := .slice dx5 DN dc5) hD5 (by simp; omega)
  have hF := fin7 hR5 HB5.out (show w.heap.size ≤ w.heap.size + 1 + 1 by omega) (.int .i64 (s2.num : Int)) (.int .i64 (s2.most : Int)) (.int .i64 (s2.epoch : Int)) (.int .i64 (s2.size : Int)) (.bool s2.shut) (.slice lx5 PN lc5) (.slice dx5 DN dc5)
  unfold set7 at hL6 hD6 hF
  have HF := Lib.hid hF
  have HL6 := Lib.hid hL6
  have HD6 := Lib.hid hD6
  have HPN := Lib.hid hPN
  have HDN := Lib.hid hDN
  have HS2 := Lib.hid hs2
  rw [hs2]
  have r0 := hR5.cell 0 rfl
  have r1 := hR5.cell 1 rfl
  have r2 := hR5.cell 2 rfl
  have r3 := hR5.cell 3 rfl
  have r4 := hR5.cell 4 rfl
  have r5 := hR5.cell 5 rfl
  have r6 := hR5.cell 6 rfl
  have rf := fun j => hR5.free j
  clear hF hL6 hD6 hPN hDN hs2 hL5 hD5 hR5 hb5 v0 v1 v2 v3 v4 v5 v6 n0 n1 n2 n3
  go_wp2
  obtain ⟨y0, y1, y2, y3, y4, y5, y6, yb⟩ := HF.out
  refine bodyPost_ret (v := .tuple #[dval s2 (.slice lx5 PN lc5) (.slice dx5 DN dc5), .int .i64 0]) (by simp [results, Tryz.results61, go_sem, y0, y1, y2, y3, y4, y5, y6]) rfl ⟨_, _, ps ++ [(⟨key, cookie, false, data⟩, .slice x vL vc)], by rw [← HS2.out]; rfl, ?_, yb⟩
  refine HH.out.wrote yb HSW.out ?_ ?_ HV.out HVS.out rfl
  · rw [HPN.out]; exact ownsRow_base HL6.out (by simp; omega)
  · rw [HDN.out]; exact ownsRow_base HD6.out (by simp; omega)

theorem put_r (n : Ndl) (x : Option Addr) (vL vc : Nat) (S : Nat → Prop) (s : Vst) (lv dv : Value) (ps : List (Ndl × Value)) (w : World) (h : DocP w S s lv dv ps) (hv : IsB w (.slice x vL vc) n.data) (hvS : ∀ b, liesB (.slice x vL vc) n.data b → ¬ S b) (hSw : ∀ b, S b → b < w.heap.size) (hf : s.ns.length < 4095) (hsok : s.Ok) (hm : s.size + nlen n ≤ s.most) :
    Calls Tryz.prog 61 #[dval s lv dv, Nd.nval n (.slice x vL vc)] w (DocT w S (s.put n).1 (s.put n).2) := by
  obtain ⟨key, cookie, gone, data⟩ := n
  cases gone with
  | true =>
    rw [Vst.put_gone rfl]
    exact rput_g key cookie data x vL vc S s lv dv ps w h
  | false =>
    by_cases hc : ncheck ⟨key, cookie, false, data⟩ = 0
    · cases hs : s.shut with
      | true =>
        rw [Vst.put_shut rfl hc hs]
        exact rput_s key cookie data x vL vc S s lv dv ps w h hv hc hs
      | false =>
        cases ho : newest s.ns key with
        | some o =>
          rw [Vst.put_there (n := ⟨key, cookie, false, data⟩) rfl hc hs ho]
          cases hg : o.gone with
          | true => exact rput_d key cookie data x vL vc S s lv dv ps w h hv hc hs (by omega) o ho hg
          | false => exact rput_t key cookie data x vL vc S s lv dv ps w h hv hc hs (by omega) o ho hg
        | none =>
          rw [Vst.put_new (n := ⟨key, cookie, false, data⟩) rfl hc hs ho hm]
          exact rput_n key cookie data x vL vc S s lv dv ps w h hv hvS hSw hc hs hf hsok hm ho
    · rw [Vst.put_bad rfl hc]
      exact rput_b key cookie data x vL vc S s lv dv ps w h hv hc

end Go.Proofs.YtoblbipkkdiddaaGreatDoor
end

section
namespace Go.Proofs.YtoblbipkkdiddaaGreatDoor
open Go.RowKit Go.Cor

theorem two_facts {w w2 : World} {A B : Array Value} {TA TB : TypeId} (hb : Below ((w.alloc (.cells A TA)).alloc (.cells B TB)).heap.size ((w.alloc (.cells A TA)).alloc (.cells B TB)) w2) :
    Blk w2 w.heap.size A TA ∧ Blk w2 (w.heap.size + 1) B TB ∧ Below w.heap.size w w2 ∧ w.heap.size + 1 < w2.heap.size := by
  have h1 := (Blk.new w A TA).alloc (.cells B TB)
  have h2 := Blk.new (w.alloc (.cells A TA)) B TB
  rw [show (w.alloc (.cells A TA)).heap.size = w.heap.size + 1 by simp] at h2
  have hs := hb.size
  have e : ((w.alloc (.cells A TA)).alloc (.cells B TB)).heap.size = w.heap.size + 1 + 1 := by simp
  rw [e] at hb hs
  refine ⟨h1.below hb (by omega), h2.below hb (by omega), ?_, by omega⟩
  exact ((below_alloc w (.cells A TA)).alloc (by simp) (.cells B TB)).trans (hb.mono (by omega))
theorem two_below (w : World) (A B : Array Value) (TA TB : TypeId) : Below w.heap.size w ((w.alloc (.cells A TA)).alloc (.cells B TB)) := (below_alloc w (.cells A TA)).alloc (by simp) (.cells B TB)

set_option maxRecDepth 100000 in
set_option maxHeartbeats 1000000 in
theorem rdel_b (key c : Nat) (S : Nat → Prop) (s : Vst) (lv dv : Value) (ps : List (Ndl × Value)) (w : World) (h : DocP w S s lv dv ps) (hf : s.ns.length < 4095) (hn : s.look key c ≠ 0) :
    Calls Tryz.prog 62 #[dval s lv dv, .int .u64 (key : Int), .int .u32 (c : Int)] w (DocT w S s (s.look key c)) := by
  obtain ⟨lx, lc, rfl, _, _⟩ := IsX.slice h.l
  obtain ⟨dx, dc, rfl, _, _⟩ := IsX.slice h.d.1
  have hpl : ps.length = s.ns.length := by rw [← h.ns, List.length_map]
  obtain ⟨I, hI⟩ : ∃ I, s.idx.length = I := ⟨_, rfl⟩
  obtain ⟨N, hN⟩ : ∃ N, ps.length = N := ⟨_, rfl⟩
  rw [hI, hN] at h ⊢
  have HH := Lib.hid h
  have HB0 := Lib.hid (two_below w #[.int .i64 (s.num : Int), .int .i64 (s.most : Int), .int .i64 (s.epoch : Int), .int .i64 (s.size : Int), .bool s.shut, .slice lx I lc, .slice dx N dc] zvol 30 30)
  have HLK := Lib.hid (look_r key c S s _ _ ps _ (h.below HB0.out) (by rw [hN]; omega))
  obtain ⟨q, hq⟩ : ∃ q, s.look key c = q := ⟨_, rfl⟩
  rw [hq] at hn HLK ⊢
  have hq0 : ¬ (q : Int) = 0 := by omega
  clear h hI hN hpl hq hf
  go_enter Tryz.func62, Tryz.ntmps62
  go_wp2_with fail
  refine HLK.out.mono ?_
  rintro e w2 ⟨rfl, hb2⟩
  obtain ⟨hV, hR, hB, hlt⟩ := two_facts hb2
  have HVB := Lib.hid hV
  have HRB := Lib.hid hR
  have HB2 := Lib.hid hB
  have v0 := hV.cell 0 rfl
  have v1 := hV.cell 1 rfl
  have v2 := hV.cell 2 rfl
  have v3 := hV.cell 3 rfl
  have v4 := hV.cell 4 rfl
  have v5 := hV.cell 5 rfl
  have v6 := hV.cell 6 rfl
  have r0 := hR.cell 0 rfl
  have r1 := hR.cell 1 rfl
  have r2 := hR.cell 2 rfl
  have r3 := hR.cell 3 rfl
  have r4 := hR.cell 4 rfl
  have r5 := hR.cell 5 rfl
  have r6 := hR.cell 6 rfl
  have rf := fun j => hR.free j
  clear hb2 hV hR hB
  have hF := fin7 HRB.out HB2.out (show w.heap.size ≤ w.heap.size + 1 by omega) (.int .i64 (s.num : Int)) (.int .i64 (s.most : Int)) (.int .i64 (s.epoch : Int)) (.int .i64 (s.size : Int)) (.bool s.shut) (.slice lx I lc) (.slice dx N dc)
  unfold set7 at hF
  have HF := Lib.hid hF
  clear hF
  go_wp2
  obtain ⟨y0, y1, y2, y3, y4, y5, y6, yb⟩ := HF.out
  exact bodyPost_ret (v := .tuple #[.agg #[.int .i64 (s.num : Int), .int .i64 (s.most : Int), .int .i64 (s.epoch : Int), .int .i64 (s.size : Int), .bool s.shut, .slice lx I lc, .slice dx N dc], .int .i64 (q : Int)]) (by simp [results, Tryz.results62, go_sem, y0, y1, y2, y3, y4, y5, y6]) rfl ⟨_, _, ps, rfl, HH.out.below yb, yb⟩
set_option maxRecDepth 100000 in
set_option maxHeartbeats 1000000 in
theorem rdel_s (key c : Nat) (S : Nat → Prop) (s : Vst) (lv dv : Value) (ps : List (Ndl × Value)) (w : World) (h : DocP w S s lv dv ps) (hf : s.ns.length < 4095) (hn : s.look key c = 0) (hs : s.shut = true) :
    Calls Tryz.prog 62 #[dval s lv dv, .int .u64 (key : Int), .int .u32 (c : Int)] w (DocT w S s 10) := by
  obtain ⟨lx, lc, rfl, _, _⟩ := IsX.slice h.l
  obtain ⟨dx, dc, rfl, _, _⟩ := IsX.slice h.d.1
  have hpl : ps.length = s.ns.length := by rw [← h.ns, List.length_map]
  obtain ⟨I, hI⟩ : ∃ I, s.idx.length = I := ⟨_, rfl⟩
  obtain ⟨N, hN⟩ : ∃ N, ps.length = N := ⟨_, rfl⟩
  rw [hI, hN] at h ⊢
  have HH := Lib.hid h
  have HB0 := Lib.hid (two_below w #[.int .i64 (s.num : Int), .int .i64 (s.most : Int), .int .i64 (s.epoch : Int), .int .i64 (s.size : Int), .bool s.shut, .slice lx I lc, .slice dx N dc] zvol 30 30)
  have HLK := Lib.hid (look_r key c S s _ _ ps _ (h.below HB0.out) (by rw [hN]; omega))
  rw [hn] at HLK
  have HSH := Lib.hid hs
  clear h hI hN hpl hn hs hf
  go_enter Tryz.func62, Tryz.ntmps62
  go_wp2_with fail
  refine HLK.out.mono ?_
  rintro e w2 ⟨rfl, hb2⟩
  obtain ⟨hV, hR, hB, hlt⟩ := two_facts hb2
  have HVB := Lib.hid hV
  have HRB := Lib.hid hR
  have HB2 := Lib.hid hB
  have v0 := hV.cell 0 rfl
  have v1 := hV.cell 1 rfl
  have v2 := hV.cell 2 rfl
  have v3 := hV.cell 3 rfl
  have v4 := hV.cell 4 rfl
  have v5 := hV.cell 5 rfl
  have v6 := hV.cell 6 rfl
  have r0 := hR.cell 0 rfl
  have r1 := hR.cell 1 rfl
  have r2 := hR.cell 2 rfl
  have r3 := hR.cell 3 rfl
  have r4 := hR.cell 4 rfl
  have r5 := hR.cell 5 rfl
  have r6 := hR.cell 6 rfl
  have rf := fun j => hR.free j
  clear hb2 hV hR hB
  rw [HSH.out] at v4
  have hF := fin7 HRB.out HB2.out (show w.heap.size ≤ w.heap.size + 1 by omega) (.int .i64 (s.num : Int)) (.int .i64 (s.most : Int)) (.int .i64 (s.epoch : Int)) (.int .i64 (s.size : Int)) (.bool true) (.slice lx I lc) (.slice dx N dc)
  unfold set7 at hF
  have HF := Lib.hid hF
  clear hF
  go_wp2
  obtain ⟨y0, y1, y2, y3, y4, y5, y6, yb⟩ := HF.out
  exact bodyPost_ret (v := .tuple #[.agg #[.int .i64 (s.num : Int), .int .i64 (s.most : Int), .int .i64 (s.epoch : Int), .int .i64 (s.size : Int), .bool true, .slice lx I lc, .slice dx N dc], .int .i64 10]) (by simp [results, Tryz.results62, go_sem, y0, y1, y2, y3, y4, y5, y6]) rfl ⟨_, _, ps, by rw [show dval s (.slice lx I lc) (.slice dx N dc) = .agg #[.int .i64 (s.num : Int), .int .i64 (s.most : Int), .int .i64 (s.epoch : Int), .int .i64 (s.size : Int), .bool true, .slice lx I lc, .slice dx N dc] by rw [← HSH.out]]; rfl, HH.out.below yb, yb⟩
set_option maxRecDepth 100000 in
set_option maxHeartbeats 1000000 in
theorem rdel_o (key c : Nat) (S : Nat → Prop) (s : Vst) (lv dv : Value) (ps : List (Ndl × Value)) (w : World) (h : DocP w S s lv dv ps) (hf : s.ns.length < 4095) (hSw : ∀ b, S b → b < w.heap.size) (hsok : s.Ok) (hm : s.size + nlen (grave key c) ≤ s.most) (hn : s.look key c = 0) (hs : s.shut = false) :
    Calls Tryz.prog 62 #[dval s lv dv, .int .u64 (key : Int), .int .u32 (c : Int)] w (DocT w S (s.wrote (grave key c)) 0) := by
  obtain ⟨lx, lc, rfl, _, _⟩ := IsX.slice h.l
  obtain ⟨dx, dc, rfl, _, _⟩ := IsX.slice h.d.1
  have hpl : ps.length = s.ns.length := by rw [← h.ns, List.length_map]
  obtain ⟨I, hI⟩ : ∃ I, s.idx.length = I := ⟨_, rfl⟩
  obtain ⟨N, hN⟩ : ∃ N, ps.length = N := ⟨_, rfl⟩
  rw [hI, hN] at h ⊢
  have HH := Lib.hid h
  have HB0 := Lib.hid (two_below w #[.int .i64 (s.num : Int), .int .i64 (s.most : Int), .int .i64 (s.epoch : Int), .int .i64 (s.size : Int), .bool s.shut, .slice lx I lc, .slice dx N dc] zvol 30 30)
  have HLK := Lib.hid (look_r key c S s _ _ ps _ (h.below HB0.out) (by rw [hN]; omega))
  have HWR := Lib.hid (fun w1 (hb : Below w.heap.size w w1) => write_r (grave key c) none 0 0 S s _ _ ps w1 (h.below hb) hsok (IsB.nil _) rfl hm (by omega))
  have HSW := Lib.hid hSw
  rw [hn] at HLK
  have HSH := Lib.hid hs
  have hdv : dval s (.slice lx I lc) (.slice dx N dc) = .agg #[.int .i64 (s.num : Int), .int .i64 (s.most : Int), .int .i64 (s.epoch : Int), .int .i64 (s.size : Int), .bool false, .slice lx I lc, .slice dx N dc] := by rw [← hs]
  rw [hdv] at HWR
  clear h hI hN hpl hn hs hf hSw hsok hm hdv
  go_enter Tryz.func62, Tryz.ntmps62
  go_wp2_with fail
  refine HLK.out.mono ?_
  rintro e w2 ⟨rfl, hb2⟩
  obtain ⟨hV, hR, hB, hlt⟩ := two_facts hb2
  have HVB := Lib.hid hV
  have HRB := Lib.hid hR
  have HB2 := Lib.hid hB
  have v0 := hV.cell 0 rfl
  have v1 := hV.cell 1 rfl
  have v2 := hV.cell 2 rfl
  have v3 := hV.cell 3 rfl
  have v4 := hV.cell 4 rfl
  have v5 := hV.cell 5 rfl
  have v6 := hV.cell 6 rfl
  have r0 := hR.cell 0 rfl
  have r1 := hR.cell 1 rfl
  have r2 := hR.cell 2 rfl
  have r3 := hR.cell 3 rfl
  have r4 := hR.cell 4 rfl
  have r5 := hR.cell 5 rfl
  have r6 := hR.cell 6 rfl
  have rf := fun j => hR.free j
  clear hb2 hV hR hB
  rw [HSH.out] at v4
  go_wp2_with fail
  refine (HWR.out _ HB2.out).mono ?_
  rintro e w5 ⟨lv', dv', rfl, hL5, hD5, hb5⟩
  obtain ⟨lx5, lc5, rfl, _, _⟩ := ownsRow_slice hL5
  obtain ⟨dx5, dc5, rfl, _, _⟩ := ownsRow_slice hD5
  obtain ⟨PN, hPN⟩ : ∃ PN, (put s.idx (posN (grave key c) s.size)).length = PN := ⟨_, rfl⟩
  obtain ⟨DN, hDN⟩ : ∃ DN, ps.length + 1 = DN := ⟨_, rfl⟩
  rw [hPN] at hL5 ⊢
  rw [hDN] at hD5 ⊢
  obtain ⟨s2, hs2⟩ : ∃ s2, s.wrote (grave key c) = s2 := ⟨_, rfl⟩
  have hR5 := HRB.out.below hb5 hlt
  have hs4 := HB2.out.size
  have HB5 := Lib.hid (HB2.out.trans (hb5.mono hs4))
  have hL6 := row_set7 (g := w.heap.size + 1) (u0 := .int .i64 (s2.num : Int)) (u1 := .int .i64 (s2.most : Int)) (u2 := .int .i64 (s2.epoch : Int)) (u3 := .int .i64 (s2.size : Int)) (u4 := .bool s2.shut) (u5 := .slice lx5 PN lc5) (u6 := .slice dx5 DN dc5) hL5 hlt
  have hD6 := row_set7 (g := w.heap.size + 1) (u0 := .int .i64 (s2.num : Int)) (u1 := .int .i64 (s2.most : Int)) (u2 := .int .i64 (s2.epoch : Int)) (u3 := .int .i64 (s2.size : Int)) (u4 := .bool s2.shut) (u5 := .slice lx5 PN lc5) (u6 := .slice dx5 DN dc5) hD5 hlt
  have hF := fin7 hR5 HB5.out (show w.heap.size ≤ w.heap.size + 1 by omega) (.int .i64 (s2.num : Int)) (.int .i64 (s2.most : Int)) (.int .i64 (s2.epoch : Int)) (.int .i64 (s2.size : Int)) (.bool s2.shut) (.slice lx5 PN lc5) (.slice dx5 DN dc5)
  unfold set7 at hL6 hD6 hF
  have HF := Lib.hid hF
  have HL6 := Lib.hid hL6
  have HD6 := Lib.hid hD6
  have HPN := Lib.hid hPN
  have HDN := Lib.hid hDN
  have HS2 := Lib.hid hs2
  rw [hs2]
  clear v0 v1 v2 v3 v4 v5 v6 r0 r1 r2 r3 r4 r5 r6 rf
  have r0 := hR5.cell 0 rfl
  have r1 := hR5.cell 1 rfl
  have r2 := hR5.cell 2 rfl
  have r3 := hR5.cell 3 rfl
  have r4 := hR5.cell 4 rfl
  have r5 := hR5.cell 5 rfl
  have r6 := hR5.cell 6 rfl
  have rf := fun j => hR5.free j
  clear hF hL6 hD6 hPN hDN hs2 hL5 hD5 hR5 hb5
  go_wp2
  obtain ⟨y0, y1, y2, y3, y4, y5, y6, yb⟩ := HF.out
  refine bodyPost_ret (v := .tuple #[dval s2 (.slice lx5 PN lc5) (.slice dx5 DN dc5), .int .i64 0]) (by simp [results, Tryz.results62, go_sem, y0, y1, y2, y3, y4, y5, y6]) rfl ⟨_, _, ps ++ [(grave key c, .slice none 0 0)], by rw [← HS2.out]; rfl, ?_, yb⟩
  refine HH.out.wrote yb HSW.out ?_ ?_ (IsB.nil _) (fun b hb => absurd rfl hb.1) rfl
  · rw [HPN.out]; exact ownsRow_base HL6.out hs4
  · rw [HDN.out]; exact ownsRow_base HD6.out hs4
theorem del_r (key c : Nat) (S : Nat → Prop) (s : Vst) (lv dv : Value) (ps : List (Ndl × Value)) (w : World) (h : DocP w S s lv dv ps) (hSw : ∀ b, S b → b < w.heap.size) (hf : s.ns.length < 4095) (hsok : s.Ok) (hm : s.size + nlen (grave key c) ≤ s.most) :
    Calls Tryz.prog 62 #[dval s lv dv, .int .u64 (key : Int), .int .u32 (c : Int)] w (DocT w S (s.del key c).1 (s.del key c).2) := by
  by_cases hn : s.look key c = 0
  · cases hs : s.shut with
    | true =>
      rw [del_shut hn hs]
      exact rdel_s key c S s lv dv ps w h hf hn hs
    | false =>
      rw [del_ok hn hs hm]
      exact rdel_o key c S s lv dv ps w h hf hSw hsok hm hn hs
  · rw [del_bad hn]
    exact rdel_b key c S s lv dv ps w h hf hn

theorem DocP.with {w : World} {S : Nat → Prop} {s : Vst} {lv dv : Value} {ps : List (Ndl × Value)} (h : DocP w S s lv dv ps) (e : Nat) (b : Bool) : DocP w S (Vst.with s e b) lv dv ps := ⟨h.ns, h.l, h.d, h.la, h.da, h.na⟩
set_option maxRecDepth 100000 in
set_option maxHeartbeats 1000000 in
theorem set_r (e : Int) (b : Bool) (S : Nat → Prop) (s : Vst) (lv dv : Value) (ps : List (Ndl × Value)) (w : World) (h : DocP w S s lv dv ps) :
    Calls Tryz.prog 64 #[dval s lv dv, .int .i64 e, .bool b] w (DocT w S (s.set e b).1 (s.set e b).2) := by
  obtain ⟨lx, lc, rfl, _, _⟩ := IsX.slice h.l
  obtain ⟨dx, dc, rfl, _, _⟩ := IsX.slice h.d.1
  have hpl : ps.length = s.ns.length := by rw [← h.ns, List.length_map]
  obtain ⟨I, hI⟩ : ∃ I, s.idx.length = I := ⟨_, rfl⟩
  obtain ⟨N, hN⟩ : ∃ N, ps.length = N := ⟨_, rfl⟩
  rw [hI, hN] at h ⊢
  have HH := Lib.hid h
  have HYB := Lib.hid (fun A B => two_below w A B 30 30)
  clear h hI hN hpl
  by_cases h1 : e < 0
  · rw [show s.set e b = (s, 1) by unfold Vst.set; rw [if_pos (.inl h1)]]
    go_enter Tryz.func64, Tryz.ntmps64
    go_wp2
    have yb := HYB.out #[.int .i64 (s.num : Int), .int .i64 (s.most : Int), .int .i64 (s.epoch : Int), .int .i64 (s.size : Int), .bool s.shut, .slice lx I lc, .slice dx N dc] #[.int .i64 (s.num : Int), .int .i64 (s.most : Int), .int .i64 (s.epoch : Int), .int .i64 (s.size : Int), .bool s.shut, .slice lx I lc, .slice dx N dc]
    exact bodyPost_ret (v := .tuple #[.agg #[.int .i64 (s.num : Int), .int .i64 (s.most : Int), .int .i64 (s.epoch : Int), .int .i64 (s.size : Int), .bool s.shut, .slice lx I lc, .slice dx N dc], .int .i64 1]) (by simp [results, Tryz.results64, go_sem]) rfl ⟨_, _, ps, rfl, HH.out.below yb, yb⟩
  · by_cases h2 : 2147483647 < e
    · rw [show s.set e b = (s, 1) by unfold Vst.set; rw [if_pos (.inr h2)]]
      go_enter Tryz.func64, Tryz.ntmps64
      go_wp2
      have yb := HYB.out #[.int .i64 (s.num : Int), .int .i64 (s.most : Int), .int .i64 (s.epoch : Int), .int .i64 (s.size : Int), .bool s.shut, .slice lx I lc, .slice dx N dc] #[.int .i64 (s.num : Int), .int .i64 (s.most : Int), .int .i64 (s.epoch : Int), .int .i64 (s.size : Int), .bool s.shut, .slice lx I lc, .slice dx N dc]
      exact bodyPost_ret (v := .tuple #[.agg #[.int .i64 (s.num : Int), .int .i64 (s.most : Int), .int .i64 (s.epoch : Int), .int .i64 (s.size : Int), .bool s.shut, .slice lx I lc, .slice dx N dc], .int .i64 1]) (by simp [results, Tryz.results64, go_sem]) rfl ⟨_, _, ps, rfl, HH.out.below yb, yb⟩
    · by_cases h3 : e < (s.epoch : Int)
      · rw [show s.set e b = (s, 13) by unfold Vst.set; rw [if_neg (by omega), if_pos h3]]
        go_enter Tryz.func64, Tryz.ntmps64
        go_wp2
        have yb := HYB.out #[.int .i64 (s.num : Int), .int .i64 (s.most : Int), .int .i64 (s.epoch : Int), .int .i64 (s.size : Int), .bool s.shut, .slice lx I lc, .slice dx N dc] #[.int .i64 (s.num : Int), .int .i64 (s.most : Int), .int .i64 (s.epoch : Int), .int .i64 (s.size : Int), .bool s.shut, .slice lx I lc, .slice dx N dc]
        exact bodyPost_ret (v := .tuple #[.agg #[.int .i64 (s.num : Int), .int .i64 (s.most : Int), .int .i64 (s.epoch : Int), .int .i64 (s.size : Int), .bool s.shut, .slice lx I lc, .slice dx N dc], .int .i64 13]) (by simp [results, Tryz.results64, go_sem]) rfl ⟨_, _, ps, rfl, HH.out.below yb, yb⟩
      · obtain ⟨E, rfl⟩ := Int.eq_ofNat_of_zero_le (show 0 ≤ e by omega)
        rw [set_ok (by omega) (by omega)]
        go_enter Tryz.func64, Tryz.ntmps64
        go_wp2
        have yb := HYB.out #[.int .i64 (s.num : Int), .int .i64 (s.most : Int), .int .i64 (E : Int), .int .i64 (s.size : Int), .bool b, .slice lx I lc, .slice dx N dc] #[.int .i64 (s.num : Int), .int .i64 (s.most : Int), .int .i64 (E : Int), .int .i64 (s.size : Int), .bool b, .slice lx I lc, .slice dx N dc]
        exact bodyPost_ret (v := .tuple #[dval (Vst.with s E b) (.slice lx I lc) (.slice dx N dc), .int .i64 0]) (by simp [results, Tryz.results64, go_sem, Vst.with, Vst.size]) rfl ⟨_, _, ps, rfl, DocP.with (HH.out.below yb) E b, yb⟩

end Go.Proofs.YtoblbipkkdiddaaGreatDoor
end
