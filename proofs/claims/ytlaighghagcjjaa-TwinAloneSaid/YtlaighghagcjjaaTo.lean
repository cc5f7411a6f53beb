/- Package corncriblaw20: TwinAlone. -/
import Derived.Test.YtlaighghagcjjaaTk
import Derived.Test.YtlaighghagcjjaaTn
import Derived.Test.YtlaighghagcjjaaRef01
import Derived.Test.YtlaighghagcjjaaRm19
namespace Go.Proofs.Ytlaighghagcjjaa
open Go.RowKit Go.Cor
set_option linter.unusedVariables false
set_option linter.unusedSimpArgs false

/-- A slice of n elements beside the pair's blocks. -/
def Off (S : Nat → Prop) (v : Value) (n : Nat) : Prop := ∀ k, liesX v n k → ¬ S k
theorem Off.call {S S' : Nat → Prop} {v : Value} {n size : Nat} {cs : List Value} {w : World} (h : Off S v n) (hv : IsX w size v n cs) (hs : 0 < size) (hS : ∀ k, S' k → S k ∨ w.heap.size ≤ k) : Off S' v n := fun k hk h' => (hS k h').elim (h k hk) (fun h1 => by have := hv.lies_lt hs hk; omega)
theorem Off.new {S : Nat → Prop} {v v' : Value} {n n' size : Nat} {cs cs' : List Value} {w w' : World} (h : Off S v n) (hv : IsX w size v n cs) (hv' : IsX w' size v' n' cs') (ho : v' = v ∨ ∀ k, v'.ownBlock = some k → w.heap.size ≤ k) (hS : ∀ k, S k → k < w.heap.size) : Off S v' n' := fun k hk h' => by
  rcases ho with rfl | ho
  · obtain ⟨x, c, e, _⟩ := hv.slice
    obtain ⟨x', c', e', _⟩ := hv'.slice
    rw [e] at e'
    cases e'
    exact h k hk h'
  · have h1 := ho k hk.2
    have h2 := hS k h'
    omega
theorem Off.nil (S : Nat → Prop) (v : Value) : Off S v 0 := fun k hk => absurd rfl hk.1
theorem rby_dby (L : List En) : rby L = dby L := rfl
/-- A command of a slice of the document's commands. -/
theorem cmdR_at {w : World} {v : Value} {l : List Cm} {i : Nat} {c : Cm} (hv : IsX w 8 v l.length (row ccl l)) (he : l[i]? = some c) :
    ∃ b o, (∀ W, (Instr.indexAt 26 v (.int .i64 (i : Int))).run Try.prog W = .ok (.pointer (some ⟨b, o, none⟩)) W) ∧ ∀ j, j < 8 → w.cell? ⟨b, o + j, none⟩ = (ccl c)[j]? := by
  obtain ⟨b, o, hx, _, hc⟩ := indexAt_X (P := Try.prog) hv 26 33 Try.underlying26 Try.sizeCmdR19 i (List.getElem?_eq_some_iff.1 he).1
  exact ⟨b, o, hx, fun j hj => by rw [hc j hj, row_get ccl_len he j hj]⟩
set_option maxRecDepth 100000 in
set_option maxHeartbeats 8000000 in
theorem twinAlone_all (v : Value) (l : List Cm) (sb : Bool) (w : World) (hv : IsX w 8 v l.length (row ccl l)) :
    Calls Try.prog 6 #[v, .bool sb] w fun e w' => e = .returned (.bool true) ∧ Below w.heap.size w w' := by
  obtain ⟨N, hN⟩ : ∃ N, l.length = N := ⟨_, rfl⟩
  rw [hN] at hv
  have hlen := fun W => len_X (P := Try.prog) hv 26 3 33 Try.underlying26 W
  have HV := Lib.hid hv
  have HN := Lib.hid hN
  clear hv hN
  by_cases hbig : 60 < N
  · have hbig' : (60 : Int) < (N : Int) := by omega
    go_enter Try.func6, Try.ntmps6
    go_wp2_with (go_at_call 7; refine (alive20 _).mono ?_; rintro e w1 ⟨rfl, hb1⟩)
    go_ret
    exact ⟨rfl, hb1⟩
  have hbig' : ¬ (60 : Int) < (N : Int) := by omega
  have hbd : decide ((60 : Int) < (N : Int)) = false := decide_eq_false hbig'
  have HNX := Lib.hid (show N ≤ 60 from by omega)
  clear hbig
  obtain ⟨b, hb⟩ : ∃ b, (!sb) = b := ⟨_, rfl⟩
  obtain ⟨T, hT⟩ : ∃ T : Nat, (if b then 1 else 2) = T := ⟨_, rfl⟩
  have hs1 : wrap64 (1 - (sn b : Int)) = ((sn (!b) : Nat) : Int) := by cases b <;> (rw [IntWalk.wrap64_in _ (by simp [sn])]; rfl)
  have hs2 : wrap64 (2 - (sn b : Int)) = (T : Int) := by rw [← hT]; cases b <;> (rw [IntWalk.wrap64_in _ (by simp [sn])]; rfl)
  have HB := Lib.hid hb
  have HTM := Lib.hid (show ∀ L, (alone b L).tm = T from fun L => hT)
  have HTB2 := Lib.hid (show ∀ L, (both b L).tm = T from fun L => hT)
  clear hb hT
  go_enter Try.func6, Try.ntmps6
  go_wp2_with fail
  refine (alive20 _).mono ?_
  rintro e w1 ⟨rfl, hb1⟩
  have HB1 := Lib.hid hb1
  clear hb1
  go_wp2_with fail
  refine (tnew _).mono ?_
  rintro e w2 ⟨g, S0, rfl, h2, hb2⟩
  have H2 := Lib.hid (Th.new HB1.out h2 hb2)
  clear h2 hb2
  go_upto_region 7 with fail
  go_cut [28] from 28 to 28 (fun dq wx => Hid (dq = .bool sb) ∧ wx = w2)
  case first =>
    go_wp2_with fail
    go_meet
    exact ⟨Lib.hid rfl, rfl⟩
  case rest =>
  obtain ⟨HD, hw3⟩ := hcut
  subst hw3
  go_wp2_with fail
  go_cut [6] from 29 to 29 (fun kq wx => kq = .int .i64 ((sn b : Nat) : Int) ∧ wx = wc)
  case first =>
    have hd := HD.out
    subst hd
    cases sb
    · go_wp2_with fail
      go_meet
      exact ⟨by rw [← HB.out]; rfl, rfl⟩
    · go_wp2_with fail
      go_meet
      exact ⟨by rw [← HB.out]; rfl, rfl⟩
  case rest =>
  obtain ⟨rfl, hw4⟩ := hcut
  subst hw4
  go_wp2_with fail
  refine (H2.out.fall (by decide) (sn b)).mono ?_
  rw [(fall_new b).1, (fall_new b).2, derr_zero]
  rintro e w3 ⟨rfl, S3, h3, _, _⟩
  have H3 := Lib.hid h3
  clear h3
  go_wp2_with fail
  refine H3.out.lead.mono ?_
  rw [HTM.out]
  rintro e w4 ⟨rfl, hb4⟩
  have H4 := Lib.hid (H3.out.below hb4)
  clear hb4
  have hld : ((sn (alone b []).ld : Nat) : Int) = ((sn (!b) : Nat) : Int) := rfl
  rw [hld]
  go_wp2_with (go_at_call 20; refine (code_nil _).mono ?_; rintro e wx ⟨rfl, rfl⟩)
  clear hs1 hs2
  go_loopw [10, 11] (fun xv c wr => ∃ (i : Nat) (S : Nat → Prop) (y : Value), i ≤ N ∧ c = .int .i64 i ∧ y = xv ∧ Hid (Th w wr g S (alone b (l.take i)) (1 + 3 * i)) ∧ Hid (IsX wr 6 y (repL [] (l.take i)).length (row ecl (repL [] (l.take i)))) ∧ Hid (Off S y (repL [] (l.take i)).length)) (fun _ c _ => N - (intOf c).toNat)
  case atStart => exact ⟨0, S3, _, Nat.zero_le _, rfl, rfl, H4, Lib.hid (IsX.nil _ _), Lib.hid (Off.nil _ _)⟩
  case round =>
    obtain ⟨i, S, y, hi, rfl, rfl, HT, HX, HO⟩ := hrel
    by_cases hlt : i < N
    · have HLT := Lib.hid hlt
      have hi60 : i < 60 := by have := HNX.out; omega
      have HI6 := Lib.hid hi60
      have hwi : wrap64 ((i : Int) + 1) = (i : Int) + 1 := IntWalk.wrap64_in _ (by omega)
      clear hi60
      obtain ⟨c, hc⟩ : ∃ c, l[i]? = some c := ⟨_, List.getElem?_eq_getElem (by rw [HN.out]; exact hlt)⟩
      have hvl : IsX w 8 v l.length (row ccl l) := by rw [HN.out]; exact HV.out
      have HVL := Lib.hid hvl
      have HC := Lib.hid hc
      have HLI := Lib.hid (show (l.take i).length = i from by rw [List.length_take, HN.out]; omega)
      have HTK := Lib.hid (show l.take i ++ [c] = l.take (i + 1) from by rw [List.take_add_one, hc]; rfl)
      have HRL := Lib.hid (show doL (repL [] (l.take i)) c = repL [] (l.take (i + 1)) from by rw [← HTK.out, repL_append]; rfl)
      have HAN := Lib.hid (ans_at hc)
      have HDK := Lib.hid (doK_lt (repL [] (l.take i)) c)
      have HOK := Lib.hid (show LOk (repL [] (l.take i)) 100 from (repL_ok (LOk.nil 1) (Nat.le_refl 1) (l.take i)).more (by rw [HLI.out]; have := HI6.out; omega))
      obtain ⟨b1, o1, hidx, hcell⟩ := cmdR_at (hvl.mono HT.out.bel (Nat.le_refl _)) hc
      clear hvl hc
      have HASK := HT.out.ask (by have := HI6.out; omega) ((alone b (l.take i)).tm : Int) c
      obtain ⟨a1, a2, a3⟩ := alone_ask b (l.take i) c
      rw [a1, a2, a3, HTM.out, HLI.out, HTK.out, derr_zero] at HASK
      have HASK := Lib.hid HASK
      clear a1 a2 a3
      obtain ⟨ck, cv, ce, ca, cn, c1, c2, c3⟩ := c
      have d0 : wr.cell? ⟨b1, o1, none⟩ = some (.int .i64 ck) := hcell 0 (by decide)
      have d1 : wr.cell? ⟨b1, o1 + 1, none⟩ = some (.int .i64 cv) := hcell 1 (by decide)
      have d2 : wr.cell? ⟨b1, o1 + 2, none⟩ = some (.int .i64 ce) := hcell 2 (by decide)
      have d3 : wr.cell? ⟨b1, o1 + 3, none⟩ = some (.int .i64 ca) := hcell 3 (by decide)
      have d4 : wr.cell? ⟨b1, o1 + 4, none⟩ = some (.int .i64 cn) := hcell 4 (by decide)
      have d5 : wr.cell? ⟨b1, o1 + 5, none⟩ = some (.int .i64 c1) := hcell 5 (by decide)
      have d6 : wr.cell? ⟨b1, o1 + 6, none⟩ = some (.int .i64 c2) := hcell 6 (by decide)
      have d7 : wr.cell? ⟨b1, o1 + 7, none⟩ = some (.int .i64 c3) := hcell 7 (by decide)
      clear hcell
      go_wp2_with fail
      refine HASK.out.mono ?_
      rintro e w5 ⟨rfl, S5, h5, hS5, hk5⟩
      have HT5 := Lib.hid h5
      have HO5 := Lib.hid (HO.out.call HX.out (by decide) hS5)
      have HX5 := Lib.hid (HX.out.kept hk5 HO.out)
      clear h5 hS5 hk5 HASK d0 d1 d2 d3 d4 d5 d6 d7 hidx HT HX HO
      obtain ⟨b1, o1, hidx, hcell⟩ := cmdR_at (HVL.out.mono HT5.out.bel (Nat.le_refl _)) HC.out
      have d0 : w5.cell? ⟨b1, o1, none⟩ = some (.int .i64 ck) := hcell 0 (by decide)
      have d1 : w5.cell? ⟨b1, o1 + 1, none⟩ = some (.int .i64 cv) := hcell 1 (by decide)
      have d2 : w5.cell? ⟨b1, o1 + 2, none⟩ = some (.int .i64 ce) := hcell 2 (by decide)
      have d3 : w5.cell? ⟨b1, o1 + 3, none⟩ = some (.int .i64 ca) := hcell 3 (by decide)
      have d4 : w5.cell? ⟨b1, o1 + 4, none⟩ = some (.int .i64 cn) := hcell 4 (by decide)
      have d5 : w5.cell? ⟨b1, o1 + 5, none⟩ = some (.int .i64 c1) := hcell 5 (by decide)
      have d6 : w5.cell? ⟨b1, o1 + 6, none⟩ = some (.int .i64 c2) := hcell 6 (by decide)
      have d7 : w5.cell? ⟨b1, o1 + 7, none⟩ = some (.int .i64 c3) := hcell 7 (by decide)
      clear hcell
      have HDO := Lib.hid (rdo19_at y (repL [] (l.take i)) ⟨ck, cv, ce, ca, cn, c1, c2, c3⟩ 100 w5 HX5.out HOK.out (by omega))
      obtain ⟨DN, hDN⟩ : ∃ DN, doN (repL [] (l.take i)) ⟨ck, cv, ce, ca, cn, c1, c2, c3⟩ = DN := ⟨_, rfl⟩
      obtain ⟨DK, hDK⟩ : ∃ DK, doK (repL [] (l.take i)) ⟨ck, cv, ce, ca, cn, c1, c2, c3⟩ = DK := ⟨_, rfl⟩
      rw [hDN, hDK, HRL.out] at HDO
      rw [hDN, hDK] at HAN
      rw [hDK] at HDK
      unfold cval at HDO
      clear hDN hDK
      go_wp2_with fail
      refine HDO.out.mono ?_
      rintro e w6 ⟨y6, rfl, hx6, ho6, hb6⟩
      have HT6 := Lib.hid (HT5.out.below hb6)
      have HO6 := Lib.hid (HO5.out.new HX5.out hx6 ho6 (fun k hs => (HT5.out.tw.lt (k := k) hs).2))
      have HX6 := Lib.hid hx6
      clear hx6 ho6 hb6 HDO d0 d1 d2 d3 d4 d5 d6 d7 hidx HT5 HX5 HO5
      have HANS := tanswer w6 _ g S5 (alone b (l.take (i + 1))) i HT6.out.tw HT6.out.ok (HT6.out.le.more (by have := HI6.out; omega)) (show i < (l.take (i + 1)).length from by rw [List.length_take, HN.out]; have := HLT.out; omega)
      rw [alone_log, HAN.out.1, HAN.out.2] at HANS
      have HANS := Lib.hid HANS
      go_wp2_with fail
      refine HANS.out.mono ?_
      rintro e w7 ⟨rfl, hb7⟩
      have HT7 := Lib.hid (HT6.out.below hb7)
      have HX7 := Lib.hid (HX6.out.mono hb7 (Nat.le_refl _))
      clear hb7 HANS HT6 HX6
      go_wp2_with (go_at_call 20; refine (code_nil _).mono ?_; rintro e wx ⟨rfl, rfl⟩)
      refine HT7.out.settled.mono ?_
      rw [show (alone b (l.take (i + 1))).st = i + 1 from by show (l.take (i + 1)).length = _; rw [List.length_take, HN.out]; have := HLT.out; omega]
      rintro e w8 ⟨rfl, hb8⟩
      have HT8 := Lib.hid (HT7.out.below hb8)
      have HX8 := Lib.hid (HX7.out.mono hb8 (Nat.le_refl _))
      clear hb8 HT7 HX7
      go_wp2_with (go_at_call 20; refine (code_derr DK _ HDK.out).mono ?_; rintro e wx ⟨rfl, rfl⟩)
      have HSH := HT8.out.ship (by have := HI6.out; omega) (T : Int)
      rw [(alone_ship b (l.take (i + 1)) (T : Int)).1, (alone_ship b (l.take (i + 1)) (T : Int)).2, derr_pos (by decide)] at HSH
      refine HSH.mono ?_
      clear HSH
      rintro e w9 ⟨rfl, S9, h9, hS9, hk9⟩
      have HT9 := Lib.hid (h9.more (K' := 1 + 3 * (i + 1)) (by omega))
      have HO9 := Lib.hid (HO6.out.call HX8.out (by decide) hS9)
      have HX9 := Lib.hid (HX8.out.kept hk9 HO6.out)
      clear h9 hS9 hk9
      go_wp2_with (go_at_call 20; refine (code_code 12 _ (by decide) (by decide)).mono ?_; rintro e wx ⟨rfl, rfl⟩)
      go_roundw
      case rel => exact ⟨i + 1, S9, y6, HLT.out, by go_num, rfl, HT9, HX9, HO9⟩
      case measure => simp [intOf] <;> (have := HLT.out; omega)
    · obtain rfl : i = N := by omega
      have hall : l.take i = l := by rw [List.take_of_length_le (by rw [HN.out]; exact Nat.le_refl _)]
      rw [hall] at HT HX HO
      have HLN := Lib.hid (show l.length = i from HN.out)
      have HOKL := Lib.hid (show LOk (repL [] l) 100 from (repL_ok (LOk.nil 1) (Nat.le_refl 1) l).more (by rw [HN.out]; have := HNX.out; omega))
      have HRI := HT.out.rise (by have := HNX.out; omega) (sn b)
      rw [(alone_rise b l).1, (alone_rise b l).2, derr_zero] at HRI
      have HRI := Lib.hid HRI
      clear hall
      go_wp2_with fail
      refine HRI.out.mono ?_
      rintro e w5 ⟨rfl, S5, h5, hS5, hk5⟩
      have HT5 := Lib.hid h5
      have HX5 := Lib.hid (HX.out.kept hk5 HO.out)
      have hlab : decide ((both b l).a.length = (both b l).b.length) = true := decide_eq_true rfl
      clear h5 hS5 hk5 HRI HT HX HO
      go_wp2_with fail
      refine HT5.out.logs.mono ?_
      rintro e w6 ⟨rfl, hb6⟩
      have HT6 := Lib.hid (HT5.out.below hb6)
      have HX6 := Lib.hid (HX5.out.mono hb6 (Nat.le_refl _))
      clear hb6 HT5 HX5
      rw [show (both b l).a.length = l.length from rfl, show (both b l).b.length = l.length from rfl]
      go_wp2_with (go_at_call 20; refine (code_nil _).mono ?_; rintro e wx ⟨rfl, rfl⟩)
      refine (tmap w6 _ g S5 (both b l) b HT6.out.tw (HT6.out.le.more (by have := HNX.out; omega))).mono ?_
      rw [both_log]
      rintro e wb ⟨g1, S1, rfl, hm1, hbb⟩
      have HTB := Lib.hid (HT6.out.below hbb)
      have HXB := Lib.hid (HX6.out.mono hbb (Nat.le_refl _))
      have HM1 := Lib.hid hm1
      clear hm1 hbb HT6 HX6
      go_wp2_with fail
      refine (dbytes wb _ g1 S1 _ HM1.out (HOKL.out.more (by omega))).mono ?_
      rintro e wd ⟨v1, rfl, hv1, hbd1⟩
      have HTD := Lib.hid (HTB.out.below hbd1)
      have HXD := Lib.hid (HXB.out.mono hbd1 (Nat.le_refl _))
      have HV1 := Lib.hid hv1
      clear hv1 hbd1 HM1 HTB HXB
      go_wp2_with fail
      refine (rbytes19 y _ (repL [] l) 100 wd HXD.out rfl HOKL.out (by omega)).mono ?_
      rintro e we ⟨v2, rfl, hv2, hbe⟩
      have HTE := Lib.hid (HTD.out.below hbe)
      have HV2 := Lib.hid (HV1.out.mono hbe (Nat.le_refl _))
      have HV3 := Lib.hid (show IsB we v2 (dby (repL [] l)) from hv2)
      clear hv2 hbe HV1 HTD HXD
      go_wp2_with fail
      refine (same_yes v1 v2 _ we HV2.out HV3.out (by rw [dby_len]; have := HOKL.out.len; omega)).mono ?_
      rintro e wg ⟨rfl, nq, rfl⟩
      have HTG := Lib.hid (HTE.out.drew nq)
      have HSH := HTG.out.ship (by have := HNX.out; omega) ((both b l).tm : Int)
      rw [(both_ship b l).1, (both_ship b l).2, derr_pos (by decide), HTB2.out] at HSH
      have HSH := Lib.hid HSH
      go_wp2_with fail
      refine HSH.out.mono ?_
      rintro e wh ⟨rfl, Sh, hh, _⟩
      have HTH := Lib.hid hh.bel
      clear hh HSH
      go_wp2_with (go_at_call 20; refine (code_code 6 _ (by decide) (by decide)).mono ?_; rintro e wx ⟨rfl, rfl⟩)
      go_ret
      exact ⟨rfl, HTH.out⟩
end Go.Proofs.Ytlaighghagcjjaa
