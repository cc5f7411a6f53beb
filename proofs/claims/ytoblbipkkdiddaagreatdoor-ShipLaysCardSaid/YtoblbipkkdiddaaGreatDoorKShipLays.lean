/- The statement 'ShipLays' holds: for every input the law's function returns true, and leaves its arguments as they were. Condition: the row's listed package variables (tables of numbers) hold at the call's start what the program's text lays in them; the card ties that to the text. -/
import Derived.Test.YtoblbipkkdiddaaGreatDoorM1
import Derived.Test.YtoblbipkkdiddaaGreatDoorM2
import Derived.Test.YtoblbipkkdiddaaGreatDoorM3
import Derived.Test.YtoblbipkkdiddaaGreatDoorM4
import Derived.Test.YtoblbipkkdiddaaGreatDoorM5
import Derived.Test.YtoblbipkkdiddaaGreatDoorM6
import Derived.Test.YtoblbipkkdiddaaGreatDoorM7
import Derived.Test.YtoblbipkkdiddaaGreatDoorM8
import Derived.Test.YtoblbipkkdiddaaGreatDoorM9
import Derived.Test.YtoblbipkkdiddaaGreatDoorM10
import Derived.Test.YtoblbipkkdiddaaGreatDoorM11
import Derived.Test.YtoblbipkkdiddaaGreatDoorM12
import Derived.Test.YtoblbipkkdiddaaGreatDoorM13
import Derived.Test.YtoblbipkkdiddaaGreatDoorM14
import Derived.Test.YtoblbipkkdiddaaGreatDoorM15
import Derived.Test.YtoblbipkkdiddaaGreatDoorM16
import Derived.Test.YtoblbipkkdiddaaGreatDoorM17
import Derived.Test.YtoblbipkkdiddaaGreatDoorCards
import Derived.Test.YtoblbipkkdiddaaGreatDoorTie
import Derived.WalkKit
import Derived.ProofKit
import Derived.OpenShut
import Derived.ShutString
import Derived.ChangeOld
import Derived.Below
import Derived.SevenTiedAt
import Derived.Deep.DeepHandedRow
import Derived.Lib.LaidTab
set_option linter.unusedVariables false
set_option linter.unusedSimpArgs false

section
namespace Go.Proofs.YtoblbipkkdiddaaGreatDoor
open Go.RowKit Go.Cor

theorem lays_snoc : ∀ (L : List Ndl) (s : Vst) (n : Ndl), s.lays (L ++ [n]) = if (s.lays L).2.2 ≠ 0 then s.lays L else (((s.lays L).1.lay n).1, (s.lays L).2.1 + (if ((s.lays L).1.lay n).2 = 0 then 1 else 0), ((s.lays L).1.lay n).2)
  | [], s, n => by
    show (if (s.lay n).2 ≠ 0 then ((s.lay n).1, 0, (s.lay n).2) else ((s.lay n).1, 0 + 1, 0)) = if (0 : Nat) ≠ 0 then _ else ((s.lay n).1, 0 + (if (s.lay n).2 = 0 then 1 else 0), (s.lay n).2)
    rw [if_neg (show ¬ (0 : Nat) ≠ 0 by simp)]
    by_cases h : (s.lay n).2 = 0
    · rw [if_neg (by simp [h]), if_pos h, h]
    · rw [if_pos h, if_neg h]
  | m :: r, s, n => by
    have e : ∀ L, s.lays (m :: L) = if (s.lay m).2 ≠ 0 then ((s.lay m).1, 0, (s.lay m).2) else (((s.lay m).1.lays L).1, ((s.lay m).1.lays L).2.1 + 1, ((s.lay m).1.lays L).2.2) := fun _ => rfl
    show s.lays (m :: (r ++ [n])) = _
    by_cases h : (s.lay m).2 = 0
    · have hn : ¬ (s.lay m).2 ≠ 0 := by simp [h]
      have e1 : ∀ L, s.lays (m :: L) = (((s.lay m).1.lays L).1, ((s.lay m).1.lays L).2.1 + 1, ((s.lay m).1.lays L).2.2) := fun L => by rw [e, if_neg hn]
      rw [e1, e1, lays_snoc r (s.lay m).1 n]
      simp only
      by_cases h2 : ((s.lay m).1.lays r).2.2 = 0
      · rw [if_neg (show ¬ ((s.lay m).1.lays r).2.2 ≠ 0 by simp [h2]), if_neg (show ¬ ((s.lay m).1.lays r).2.2 ≠ 0 by simp [h2])]
        simp only [Nat.add_right_comm]
      · rw [if_pos h2, if_pos h2]
    · have e1 : ∀ L, s.lays (m :: L) = ((s.lay m).1, 0, (s.lay m).2) := fun L => by rw [e, if_pos h]
      rw [e1, e1]
      simp only
      rw [if_pos h]
theorem lay_ok {s : Vst} {n : Ndl} (h : s.Ok) (hn : n.fits) (hf : s.ns.length + 1 < 4096) : (s.lay n).1.Ok ∧ (s.lay n).1.ns.length ≤ s.ns.length + 1 := by
  have hw : ncheck n = 0 → (s.write n).1.Ok ∧ (s.write n).1.ns.length ≤ s.ns.length + 1 := fun hc => by
    by_cases hm : s.size + nlen n ≤ s.most
    · rw [write_room hm]
      exact ⟨h.wrote ⟨hn, hc⟩ hm hf, by simp [Vst.wrote]⟩
    · have : (s.write n).2 ≠ 0 := by unfold Vst.write; rw [if_pos (by omega)]; simp
      rw [write_bad this]
      exact ⟨h, Nat.le_succ _⟩
  unfold Vst.lay
  split
  · exact ⟨h, Nat.le_succ _⟩
  · rename_i hc
    have hc0 : ncheck n = 0 := by omega
    split
    · exact hw hc0
    · split
      · exact ⟨h, Nat.le_succ _⟩
      · split
        · exact ⟨h, Nat.le_succ _⟩
        · split
          · exact hw hc0
          · split <;> exact ⟨h, Nat.le_succ _⟩
theorem lays_ok : ∀ (L : List Ndl) (s : Vst), s.Ok → (∀ n ∈ L, n.fits) → s.ns.length + L.length < 4096 → (s.lays L).1.Ok ∧ (s.lays L).1.ns.length ≤ s.ns.length + L.length ∧ (s.lays L).2.1 ≤ L.length ∧ (s.lays L).2.2 ≤ 17
  | [], s, h, _, _ => ⟨h, Nat.le_refl _, Nat.le_refl _, Nat.zero_le _⟩
  | n :: r, s, h, hf, hl => by
    simp only [List.length_cons] at hl ⊢
    obtain ⟨h1, h2⟩ := lay_ok h (hf n (List.mem_cons_self ..)) (by omega)
    have h17 := lay_le s n
    show (if (s.lay n).2 ≠ 0 then ((s.lay n).1, 0, (s.lay n).2) else (((s.lay n).1.lays r).1, ((s.lay n).1.lays r).2.1 + 1, ((s.lay n).1.lays r).2.2)).1.Ok ∧ (if (s.lay n).2 ≠ 0 then ((s.lay n).1, 0, (s.lay n).2) else (((s.lay n).1.lays r).1, ((s.lay n).1.lays r).2.1 + 1, ((s.lay n).1.lays r).2.2)).1.ns.length ≤ _ ∧ (if (s.lay n).2 ≠ 0 then ((s.lay n).1, 0, (s.lay n).2) else (((s.lay n).1.lays r).1, ((s.lay n).1.lays r).2.1 + 1, ((s.lay n).1.lays r).2.2)).2.1 ≤ _ ∧ (if (s.lay n).2 ≠ 0 then ((s.lay n).1, 0, (s.lay n).2) else (((s.lay n).1.lays r).1, ((s.lay n).1.lays r).2.1 + 1, ((s.lay n).1.lays r).2.2)).2.2 ≤ 17
    split
    · exact ⟨h1, by simp only; omega, by simp only; omega, h17⟩
    · obtain ⟨g1, g2, g3, g4⟩ := lays_ok r (s.lay n).1 h1 (fun m hm => hf m (List.mem_cons_of_mem _ hm)) (by omega)
      exact ⟨g1, by simp only; omega, by simp only; omega, g4⟩
/-- The room that a disk wants for such needles. -/
theorem tot_small {L : List Ndl} (h : ∀ n ∈ L, n.data.length ≤ 5000) : tot L ≤ 5100 * L.length :=
  tot_le fun n hn => by
    have := h n hn
    unfold nlen padn
    omega

end Go.Proofs.YtoblbipkkdiddaaGreatDoor
end

section
namespace Go.Proofs.YtoblbipkkdiddaaGreatDoor
open Go.RowKit Go.Cor

theorem kept_set7' (w : World) (B : Nat) (u0 u1 u2 u3 u4 u5 u6 : Value) : Kept (fun j => j = B) w (set7 w B u0 u1 u2 u3 u4 u5 u6) :=
  (((((((Kept.refl (fun j => j = B) w).setCell (.inl rfl) _).setCell (.inl rfl) _).setCell (.inl rfl) _).setCell (.inl rfl) _).setCell (.inl rfl) _).setCell (.inl rfl) _).setCell (.inl rfl) _

theorem write_rw (n : Ndl) (x : Option Addr) (vL vc : Nat) (S : Nat → Prop) (s : Vst) (lv dv : Value) (ps : List (Ndl × Value)) (w : World) (h : DocP w S s lv dv ps) (hSw : ∀ b, S b → b < w.heap.size) (hsok : s.Ok) (hv : IsB w (.slice x vL vc) n.data) (hvS : ∀ b, liesB (.slice x vL vc) n.data b → ¬ S b) (hn : ncheck n = 0) (hf : s.ns.length < 4095) :
    Calls Tryz.prog 37 #[dval s lv dv, Nd.nval n (.slice x vL vc)] w (DocT w S (s.write n).1 (s.write n).2) := by
  by_cases hm : s.most < s.size + nlen n
  · rw [show s.write n = (s, 11) by unfold Vst.write; rw [if_pos hm]]
    refine (write_rf n x vL vc S s lv dv ps w h hsok hv hn hm (by omega)).mono ?_
    rintro e w' ⟨rfl, hb⟩
    exact ⟨lv, dv, ps, rfl, h.below hb, hb⟩
  · rw [show s.write n = (s.wrote n, 0) by unfold Vst.write; rw [if_neg hm]]
    refine (write_r n x vL vc S s lv dv ps w h hsok hv hn (by omega) (by omega)).mono ?_
    rintro e w' ⟨lv', dv', rfl, hL, hD, hb⟩
    exact ⟨lv', dv', _, rfl, h.wrote hb hSw hL hD hv hvS rfl, hb⟩
set_option maxRecDepth 100000 in
set_option maxHeartbeats 2000000 in
theorem rlay_b (key cookie : Nat) (gone : Bool) (data : List UInt8) (x : Option Addr) (vL vc : Nat) (S : Nat → Prop) (s : Vst) (lv dv : Value) (ps : List (Ndl × Value)) (w : World) (h : DocP w S s lv dv ps) (hv : IsB w (.slice x vL vc) data) (hf : s.ns.length < 4095) (hc : ncheck ⟨key, cookie, gone, data⟩ ≠ 0) :
    Calls Tryz.prog 16 #[dval s lv dv, Nd.nval ⟨key, cookie, gone, data⟩ (.slice x vL vc)] w (DocT w S s (ncheck ⟨key, cookie, gone, data⟩)) := by
  obtain ⟨lx, lc, rfl, _, _⟩ := IsX.slice h.l
  obtain ⟨dx, dc, rfl, _, _⟩ := IsX.slice h.d.1
  have hpl : ps.length = s.ns.length := by rw [← h.ns, List.length_map]
  obtain ⟨I, hI⟩ : ∃ I, s.idx.length = I := ⟨_, rfl⟩
  obtain ⟨N, hN⟩ : ∃ N, ps.length = N := ⟨_, rfl⟩
  rw [hI, hN] at h ⊢
  have HH := Lib.hid h
  have HV := Lib.hid hv
  have HB0 := Lib.hid (three_below w #[.int .i64 (s.num : Int), .int .i64 (s.most : Int), .int .i64 (s.epoch : Int), .int .i64 (s.size : Int), .bool s.shut, .slice lx I lc, .slice dx N dc] #[.int .u64 (key : Int), .int .u32 (cookie : Int), .bool gone, .slice x vL vc] zvol 30 47 30)
  have HCK := Lib.hid (Nd.refcheck_any ⟨key, cookie, gone, data⟩ (.slice x vL vc) _ (hv.mono HB0.out (Nat.le_refl _)))
  obtain ⟨q, hq⟩ : ∃ q, ncheck ⟨key, cookie, gone, data⟩ = q := ⟨_, rfl⟩
  rw [hq] at hc HCK ⊢
  have hq0 : ¬ (q : Int) = 0 := by omega
  clear h hI hN hv hpl hq hf
  go_enter Tryz.func16, Tryz.ntmps16
  go_wp2_with fail
  refine HCK.out.mono ?_
  rintro e w2 ⟨rfl, hb2⟩
  obtain ⟨hV, hNN, hR, hB, hlt⟩ := three_facts hb2
  have HVB := Lib.hid hV
  have HNB := Lib.hid hNN
  have HRB := Lib.hid hR
  have HB2 := Lib.hid hB
  have v0 := hV.cell 0 rfl
  have v1 := hV.cell 1 rfl
  have v2 := hV.cell 2 rfl
  have v3 := hV.cell 3 rfl
  have v4 := hV.cell 4 rfl
  have v5 := hV.cell 5 rfl
  have v6 := hV.cell 6 rfl
  have r0 := hR.cell 0 rfl
  have r1 := hR.cell 1 rfl
  have r2 := hR.cell 2 rfl
  have r3 := hR.cell 3 rfl
  have r4 := hR.cell 4 rfl
  have r5 := hR.cell 5 rfl
  have r6 := hR.cell 6 rfl
  have rf := fun j => hR.free j
  have n0 := hNN.cell 0 rfl
  have n1 := hNN.cell 1 rfl
  have n2 := hNN.cell 2 rfl
  have n3 := hNN.cell 3 rfl
  clear hb2 hV hNN hR hB
  have hF := fin7 HRB.out HB2.out (show w.heap.size ≤ w.heap.size + 1 + 1 by omega) (.int .i64 (s.num : Int)) (.int .i64 (s.most : Int)) (.int .i64 (s.epoch : Int)) (.int .i64 (s.size : Int)) (.bool s.shut) (.slice lx I lc) (.slice dx N dc)
  unfold set7 at hF
  have HF := Lib.hid hF
  clear hF
  go_wp2
  obtain ⟨y0, y1, y2, y3, y4, y5, y6, yb⟩ := HF.out
  exact bodyPost_ret (v := .tuple #[.agg #[.int .i64 (s.num : Int), .int .i64 (s.most : Int), .int .i64 (s.epoch : Int), .int .i64 (s.size : Int), .bool s.shut, .slice lx I lc, .slice dx N dc], .int .i64 (q : Int)]) (by simp [results, Tryz.results16, go_sem, y0, y1, y2, y3, y4, y5, y6]) rfl ⟨_, _, ps, rfl, HH.out.below yb, yb⟩
set_option maxRecDepth 100000 in
set_option maxHeartbeats 2000000 in
theorem rlay_c (key cookie : Nat) (gone : Bool) (data : List UInt8) (x : Option Addr) (vL vc : Nat) (S : Nat → Prop) (s : Vst) (lv dv : Value) (ps : List (Ndl × Value)) (w : World) (h : DocP w S s lv dv ps) (hv : IsB w (.slice x vL vc) data) (hf : s.ns.length < 4095) (hc : ncheck ⟨key, cookie, gone, data⟩ = 0) (o : Ndl) (ho : newest s.ns key = some o) (hkc : o.cookie ≠ cookie) (hgc : True) :
    Calls Tryz.prog 16 #[dval s lv dv, Nd.nval ⟨key, cookie, gone, data⟩ (.slice x vL vc)] w (DocT w S s 9) := by
  obtain ⟨lx, lc, rfl, _, _⟩ := IsX.slice h.l
  obtain ⟨dx, dc, rfl, _, _⟩ := IsX.slice h.d.1
  have hpl : ps.length = s.ns.length := by rw [← h.ns, List.length_map]
  obtain ⟨I, hI⟩ : ∃ I, s.idx.length = I := ⟨_, rfl⟩
  obtain ⟨N, hN⟩ : ∃ N, ps.length = N := ⟨_, rfl⟩
  rw [hI, hN] at h ⊢
  have HH := Lib.hid h
  have HV := Lib.hid hv
  have HB0 := Lib.hid (three_below w #[.int .i64 (s.num : Int), .int .i64 (s.most : Int), .int .i64 (s.epoch : Int), .int .i64 (s.size : Int), .bool s.shut, .slice lx I lc, .slice dx N dc] #[.int .u64 (key : Int), .int .u32 (cookie : Int), .bool gone, .slice x vL vc] zvol 30 47 30)
  have HCK := Lib.hid (Nd.refcheck_any ⟨key, cookie, gone, data⟩ (.slice x vL vc) _ (hv.mono HB0.out (Nat.le_refl _)))
  rw [hc] at HCK
  have HNW := Lib.hid (fun w1 (hb : Below w.heap.size w w1) => newest_r key S s _ _ ps w1 (h.below hb) (by rw [hN]; omega))
  have HO := Lib.hid ho
  clear ho h hI hN hv hpl hc hf
  go_enter Tryz.func16, Tryz.ntmps16
  go_wp2_with fail
  refine HCK.out.mono ?_
  rintro e w2 ⟨rfl, hb2⟩
  obtain ⟨hV, hNN, hR, hB, hlt⟩ := three_facts hb2
  have HVB := Lib.hid hV
  have HNB := Lib.hid hNN
  have HRB := Lib.hid hR
  have HB2 := Lib.hid hB
  have v0 := hV.cell 0 rfl
  have v1 := hV.cell 1 rfl
  have v2 := hV.cell 2 rfl
  have v3 := hV.cell 3 rfl
  have v4 := hV.cell 4 rfl
  have v5 := hV.cell 5 rfl
  have v6 := hV.cell 6 rfl
  have r0 := hR.cell 0 rfl
  have r1 := hR.cell 1 rfl
  have r2 := hR.cell 2 rfl
  have r3 := hR.cell 3 rfl
  have r4 := hR.cell 4 rfl
  have r5 := hR.cell 5 rfl
  have r6 := hR.cell 6 rfl
  have rf := fun j => hR.free j
  have n0 := hNN.cell 0 rfl
  have n1 := hNN.cell 1 rfl
  have n2 := hNN.cell 2 rfl
  have n3 := hNN.cell 3 rfl
  clear hb2 hV hNN hR hB
  go_wp2_with fail
  refine (HNW.out _ HB2.out).mono ?_
  rintro e w3 ⟨m, mx, mL, mc, rfl, hcase, hb3⟩
  rw [HO.out] at hcase ⊢
  have hV3 := HVB.out.below hb3 (by omega)
  have hN3 := HNB.out.below hb3 (by omega)
  have hR3 := HRB.out.below hb3 hlt
  have HB3 := Lib.hid (HB2.out.trans (hb3.mono HB2.out.size))
  have hlt3 : w.heap.size + 1 + 1 < w3.heap.size := hR3.lt
  have hl0 : w.heap.size < w3.heap.size := by omega
  have hl1 : w.heap.size + 1 < w3.heap.size := by omega
  clear v0 v1 v2 v3 v4 v5 v6 r0 r1 r2 r3 r4 r5 r6 rf n0 n1 n2 n3
  have hmo : m = o ∧ (m, .slice mx mL mc) ∈ ps := by
    rcases hcase with h | h
    · exact ⟨by have := h.1; cases this; rfl, h.2⟩
    · exact absurd h.1 (by simp)
  obtain ⟨hmo, hmem⟩ := hmo
  have HOB := Lib.hid (show IsB w3 (.slice mx mL mc) m.data from ((HH.out.d.2 _ hmem).1.mono HB2.out (Nat.le_refl _)).mono hb3 (Nat.le_refl _))
  clear hb3 hmem
  subst hmo
  rw [Option.isSome_some]
  clear hcase
  obtain ⟨mk, mck, mg, md⟩ := m
  simp only at hkc hgc HOB
  have hne : ¬ (mck : Int) = (cookie : Int) := by omega
  simp only
  have hO4 := Blk.new w3 #[.int .u64 (mk : Int), .int .u32 (mck : Int), .bool mg, .slice mx mL mc] 47
  have hV4 := hV3.alloc (.cells #[.int .u64 (mk : Int), .int .u32 (mck : Int), .bool mg, .slice mx mL mc] 47)
  have hN4 := hN3.alloc (.cells #[.int .u64 (mk : Int), .int .u32 (mck : Int), .bool mg, .slice mx mL mc] 47)
  have HR4 := Lib.hid (hR3.alloc (.cells #[.int .u64 (mk : Int), .int .u32 (mck : Int), .bool mg, .slice mx mL mc] 47))
  have HB4 := Lib.hid (HB3.out.alloc HB3.out.size (.cells #[.int .u64 (mk : Int), .int .u32 (mck : Int), .bool mg, .slice mx mL mc] 47))
  have v0 := hV3.cell 0 rfl
  have v1 := hV3.cell 1 rfl
  have v2 := hV3.cell 2 rfl
  have v3 := hV3.cell 3 rfl
  have v4 := hV3.cell 4 rfl
  have v5 := hV3.cell 5 rfl
  have v6 := hV3.cell 6 rfl
  have r0 := hR3.cell 0 rfl
  have r1 := hR3.cell 1 rfl
  have r2 := hR3.cell 2 rfl
  have r3 := hR3.cell 3 rfl
  have r4 := hR3.cell 4 rfl
  have r5 := hR3.cell 5 rfl
  have r6 := hR3.cell 6 rfl
  have rf := fun j => hR3.free j
  have n0 := hN3.cell 0 rfl
  have n1 := hN3.cell 1 rfl
  have n2 := hN3.cell 2 rfl
  have n3 := hN3.cell 3 rfl
  have HV3 := Lib.hid hV3
  have HN3 := Lib.hid hN3
  have HR3 := Lib.hid hR3
  clear hV3 hN3 hR3 hV4 hN4 hO4
  have hF := fin7a HR3.out HB3.out (show w.heap.size ≤ w.heap.size + 1 + 1 by omega) (.int .i64 (s.num : Int)) (.int .i64 (s.most : Int)) (.int .i64 (s.epoch : Int)) (.int .i64 (s.size : Int)) (.bool s.shut) (.slice lx I lc) (.slice dx N dc) (.cells #[.int .u64 (mk : Int), .int .u32 (mck : Int), .bool mg, .slice mx mL mc] 47)
  unfold set7 at hF
  have HF := Lib.hid hF
  clear hF
  go_wp2
  obtain ⟨y0, y1, y2, y3, y4, y5, y6, yb⟩ := HF.out
  exact bodyPost_ret (v := .tuple #[.agg #[.int .i64 (s.num : Int), .int .i64 (s.most : Int), .int .i64 (s.epoch : Int), .int .i64 (s.size : Int), .bool s.shut, .slice lx I lc, .slice dx N dc], .int .i64 9]) (by simp [results, Tryz.results16, go_sem, y0, y1, y2, y3, y4, y5, y6]) rfl ⟨_, _, ps, rfl, HH.out.below yb, yb⟩
set_option maxRecDepth 100000 in
set_option maxHeartbeats 2000000 in
theorem rlay_g (key cookie : Nat) (gone : Bool) (data : List UInt8) (x : Option Addr) (vL vc : Nat) (S : Nat → Prop) (s : Vst) (lv dv : Value) (ps : List (Ndl × Value)) (w : World) (h : DocP w S s lv dv ps) (hv : IsB w (.slice x vL vc) data) (hf : s.ns.length < 4095) (hc : ncheck ⟨key, cookie, gone, data⟩ = 0) (o : Ndl) (ho : newest s.ns key = some o) (hkc : o.cookie = cookie) (hgc : o.gone = true) :
    Calls Tryz.prog 16 #[dval s lv dv, Nd.nval ⟨key, cookie, gone, data⟩ (.slice x vL vc)] w (DocT w S s 0) := by
  obtain ⟨lx, lc, rfl, _, _⟩ := IsX.slice h.l
  obtain ⟨dx, dc, rfl, _, _⟩ := IsX.slice h.d.1
  have hpl : ps.length = s.ns.length := by rw [← h.ns, List.length_map]
  obtain ⟨I, hI⟩ : ∃ I, s.idx.length = I := ⟨_, rfl⟩
  obtain ⟨N, hN⟩ : ∃ N, ps.length = N := ⟨_, rfl⟩
  rw [hI, hN] at h ⊢
  have HH := Lib.hid h
  have HV := Lib.hid hv
  have HB0 := Lib.hid (three_below w #[.int .i64 (s.num : Int), .int .i64 (s.most : Int), .int .i64 (s.epoch : Int), .int .i64 (s.size : Int), .bool s.shut, .slice lx I lc, .slice dx N dc] #[.int .u64 (key : Int), .int .u32 (cookie : Int), .bool gone, .slice x vL vc] zvol 30 47 30)
  have HCK := Lib.hid (Nd.refcheck_any ⟨key, cookie, gone, data⟩ (.slice x vL vc) _ (hv.mono HB0.out (Nat.le_refl _)))
  rw [hc] at HCK
  have HNW := Lib.hid (fun w1 (hb : Below w.heap.size w w1) => newest_r key S s _ _ ps w1 (h.below hb) (by rw [hN]; omega))
  have HO := Lib.hid ho
  clear ho h hI hN hv hpl hc hf
  go_enter Tryz.func16, Tryz.ntmps16
  go_wp2_with fail
  refine HCK.out.mono ?_
  rintro e w2 ⟨rfl, hb2⟩
  obtain ⟨hV, hNN, hR, hB, hlt⟩ := three_facts hb2
  have HVB := Lib.hid hV
  have HNB := Lib.hid hNN
  have HRB := Lib.hid hR
  have HB2 := Lib.hid hB
  have v0 := hV.cell 0 rfl
  have v1 := hV.cell 1 rfl
  have v2 := hV.cell 2 rfl
  have v3 := hV.cell 3 rfl
  have v4 := hV.cell 4 rfl
  have v5 := hV.cell 5 rfl
  have v6 := hV.cell 6 rfl
  have r0 := hR.cell 0 rfl
  have r1 := hR.cell 1 rfl
  have r2 := hR.cell 2 rfl
  have r3 := hR.cell 3 rfl
  have r4 := hR.cell 4 rfl
  have r5 := hR.cell 5 rfl
  have r6 := hR.cell 6 rfl
  have rf := fun j => hR.free j
  have n0 := hNN.cell 0 rfl
  have n1 := hNN.cell 1 rfl
  have n2 := hNN.cell 2 rfl
  have n3 := hNN.cell 3 rfl
  clear hb2 hV hNN hR hB
  go_wp2_with fail
  refine (HNW.out _ HB2.out).mono ?_
  rintro e w3 ⟨m, mx, mL, mc, rfl, hcase, hb3⟩
  rw [HO.out] at hcase ⊢
  have hV3 := HVB.out.below hb3 (by omega)
  have hN3 := HNB.out.below hb3 (by omega)
  have hR3 := HRB.out.below hb3 hlt
  have HB3 := Lib.hid (HB2.out.trans (hb3.mono HB2.out.size))
  have hlt3 : w.heap.size + 1 + 1 < w3.heap.size := hR3.lt
  have hl0 : w.heap.size < w3.heap.size := by omega
  have hl1 : w.heap.size + 1 < w3.heap.size := by omega
  clear v0 v1 v2 v3 v4 v5 v6 r0 r1 r2 r3 r4 r5 r6 rf n0 n1 n2 n3
  have hmo : m = o ∧ (m, .slice mx mL mc) ∈ ps := by
    rcases hcase with h | h
    · exact ⟨by have := h.1; cases this; rfl, h.2⟩
    · exact absurd h.1 (by simp)
  obtain ⟨hmo, hmem⟩ := hmo
  have HOB := Lib.hid (show IsB w3 (.slice mx mL mc) m.data from ((HH.out.d.2 _ hmem).1.mono HB2.out (Nat.le_refl _)).mono hb3 (Nat.le_refl _))
  clear hb3 hmem
  subst hmo
  rw [Option.isSome_some]
  clear hcase
  obtain ⟨mk, mck, mg, md⟩ := m
  simp only at hkc hgc HOB
  subst hkc
  subst hgc
  simp only
  have hO4 := Blk.new w3 #[.int .u64 (mk : Int), .int .u32 (mck : Int), .bool true, .slice mx mL mc] 47
  have hV4 := hV3.alloc (.cells #[.int .u64 (mk : Int), .int .u32 (mck : Int), .bool true, .slice mx mL mc] 47)
  have hN4 := hN3.alloc (.cells #[.int .u64 (mk : Int), .int .u32 (mck : Int), .bool true, .slice mx mL mc] 47)
  have HR4 := Lib.hid (hR3.alloc (.cells #[.int .u64 (mk : Int), .int .u32 (mck : Int), .bool true, .slice mx mL mc] 47))
  have HB4 := Lib.hid (HB3.out.alloc HB3.out.size (.cells #[.int .u64 (mk : Int), .int .u32 (mck : Int), .bool true, .slice mx mL mc] 47))
  have v0 := hV3.cell 0 rfl
  have v1 := hV3.cell 1 rfl
  have v2 := hV3.cell 2 rfl
  have v3 := hV3.cell 3 rfl
  have v4 := hV3.cell 4 rfl
  have v5 := hV3.cell 5 rfl
  have v6 := hV3.cell 6 rfl
  have r0 := hR3.cell 0 rfl
  have r1 := hR3.cell 1 rfl
  have r2 := hR3.cell 2 rfl
  have r3 := hR3.cell 3 rfl
  have r4 := hR3.cell 4 rfl
  have r5 := hR3.cell 5 rfl
  have r6 := hR3.cell 6 rfl
  have rf := fun j => hR3.free j
  have n0 := hN3.cell 0 rfl
  have n1 := hN3.cell 1 rfl
  have n2 := hN3.cell 2 rfl
  have n3 := hN3.cell 3 rfl
  have HV3 := Lib.hid hV3
  have HN3 := Lib.hid hN3
  have HR3 := Lib.hid hR3
  clear hV3 hN3 hR3 hV4 hN4 hO4
  have hF := fin7a HR3.out HB3.out (show w.heap.size ≤ w.heap.size + 1 + 1 by omega) (.int .i64 (s.num : Int)) (.int .i64 (s.most : Int)) (.int .i64 (s.epoch : Int)) (.int .i64 (s.size : Int)) (.bool s.shut) (.slice lx I lc) (.slice dx N dc) (.cells #[.int .u64 (mk : Int), .int .u32 (mck : Int), .bool true, .slice mx mL mc] 47)
  unfold set7 at hF
  have HF := Lib.hid hF
  clear hF
  go_wp2
  obtain ⟨y0, y1, y2, y3, y4, y5, y6, yb⟩ := HF.out
  exact bodyPost_ret (v := .tuple #[.agg #[.int .i64 (s.num : Int), .int .i64 (s.most : Int), .int .i64 (s.epoch : Int), .int .i64 (s.size : Int), .bool s.shut, .slice lx I lc, .slice dx N dc], .int .i64 0]) (by simp [results, Tryz.results16, go_sem, y0, y1, y2, y3, y4, y5, y6]) rfl ⟨_, _, ps, rfl, HH.out.below yb, yb⟩
set_option maxRecDepth 100000 in
set_option maxHeartbeats 2000000 in
theorem rlay_n (key cookie : Nat) (gone : Bool) (data : List UInt8) (x : Option Addr) (vL vc : Nat) (S : Nat → Prop) (s : Vst) (lv dv : Value) (ps : List (Ndl × Value)) (w : World) (h : DocP w S s lv dv ps) (hv : IsB w (.slice x vL vc) data) (hf : s.ns.length < 4095) (hc : ncheck ⟨key, cookie, gone, data⟩ = 0) (hSw : ∀ b, S b → b < w.heap.size) (hsok : s.Ok) (hvS : ∀ b, liesB (.slice x vL vc) data b → ¬ S b) (ho : newest s.ns key = none) :
    Calls Tryz.prog 16 #[dval s lv dv, Nd.nval ⟨key, cookie, gone, data⟩ (.slice x vL vc)] w (DocT w S (s.write ⟨key, cookie, gone, data⟩).1 (s.write ⟨key, cookie, gone, data⟩).2) := by
  obtain ⟨lx, lc, rfl, _, _⟩ := IsX.slice h.l
  obtain ⟨dx, dc, rfl, _, _⟩ := IsX.slice h.d.1
  have hpl : ps.length = s.ns.length := by rw [← h.ns, List.length_map]
  obtain ⟨I, hI⟩ : ∃ I, s.idx.length = I := ⟨_, rfl⟩
  obtain ⟨N, hN⟩ : ∃ N, ps.length = N := ⟨_, rfl⟩
  rw [hI, hN] at h ⊢
  have HH := Lib.hid h
  have HV := Lib.hid hv
  have HB0 := Lib.hid (three_below w #[.int .i64 (s.num : Int), .int .i64 (s.most : Int), .int .i64 (s.epoch : Int), .int .i64 (s.size : Int), .bool s.shut, .slice lx I lc, .slice dx N dc] #[.int .u64 (key : Int), .int .u32 (cookie : Int), .bool gone, .slice x vL vc] zvol 30 47 30)
  have HCK := Lib.hid (Nd.refcheck_any ⟨key, cookie, gone, data⟩ (.slice x vL vc) _ (hv.mono HB0.out (Nat.le_refl _)))
  have HWR := Lib.hid (fun w1 (hb : Below w.heap.size w w1) => write_rw ⟨key, cookie, gone, data⟩ x vL vc (fun b => S b ∨ (w.heap.size ≤ b ∧ b < w1.heap.size)) s (.slice lx I lc) (.slice dx N dc) ps w1 ((HH.out.below hb |> fun _ => HH.out).kept (Kept.of_below hb (Nat.le_refl _)) (fun b hb => hb.imp id (fun h => h.1))) (fun b hb2 => hb2.elim (fun h => Nat.lt_of_lt_of_le (hSw b h) hb.size) (fun h => h.2)) hsok (hv.mono hb (Nat.le_refl _)) (fun b hb2 hS => by rcases hS with hS | hS; exact hvS b hb2 hS; have := hv.lies_lt hb2; omega) hc hf)
  obtain ⟨s2, hs2⟩ : ∃ s2, (s.write ⟨key, cookie, gone, data⟩).1 = s2 := ⟨_, rfl⟩
  obtain ⟨q, hq⟩ : ∃ q, (s.write ⟨key, cookie, gone, data⟩).2 = q := ⟨_, rfl⟩
  rw [hs2, hq] at HWR ⊢
  rw [hc] at HCK
  have HNW := Lib.hid (fun w1 (hb : Below w.heap.size w w1) => newest_r key S s _ _ ps w1 (h.below hb) (by rw [hN]; omega))
  have HO := Lib.hid ho
  clear ho h hI hN hv hpl hc hf hSw hsok hvS hs2 hq
  go_enter Tryz.func16, Tryz.ntmps16
  go_wp2_with fail
  refine HCK.out.mono ?_
  rintro e w2 ⟨rfl, hb2⟩
  obtain ⟨hV, hNN, hR, hB, hlt⟩ := three_facts hb2
  have HVB := Lib.hid hV
  have HNB := Lib.hid hNN
  have HRB := Lib.hid hR
  have HB2 := Lib.hid hB
  have v0 := hV.cell 0 rfl
  have v1 := hV.cell 1 rfl
  have v2 := hV.cell 2 rfl
  have v3 := hV.cell 3 rfl
  have v4 := hV.cell 4 rfl
  have v5 := hV.cell 5 rfl
  have v6 := hV.cell 6 rfl
  have r0 := hR.cell 0 rfl
  have r1 := hR.cell 1 rfl
  have r2 := hR.cell 2 rfl
  have r3 := hR.cell 3 rfl
  have r4 := hR.cell 4 rfl
  have r5 := hR.cell 5 rfl
  have r6 := hR.cell 6 rfl
  have rf := fun j => hR.free j
  have n0 := hNN.cell 0 rfl
  have n1 := hNN.cell 1 rfl
  have n2 := hNN.cell 2 rfl
  have n3 := hNN.cell 3 rfl
  clear hb2 hV hNN hR hB
  go_wp2_with fail
  refine (HNW.out _ HB2.out).mono ?_
  rintro e w3 ⟨m, mx, mL, mc, rfl, hcase, hb3⟩
  rw [HO.out] at hcase ⊢
  have hV3 := HVB.out.below hb3 (by omega)
  have hN3 := HNB.out.below hb3 (by omega)
  have hR3 := HRB.out.below hb3 hlt
  have HB3 := Lib.hid (HB2.out.trans (hb3.mono HB2.out.size))
  have hlt3 : w.heap.size + 1 + 1 < w3.heap.size := hR3.lt
  have hl0 : w.heap.size < w3.heap.size := by omega
  have hl1 : w.heap.size + 1 < w3.heap.size := by omega
  clear v0 v1 v2 v3 v4 v5 v6 r0 r1 r2 r3 r4 r5 r6 rf n0 n1 n2 n3 hb3
  obtain ⟨rfl, rfl, rfl, rfl⟩ : m = ⟨0, 0, false, []⟩ ∧ mx = none ∧ mL = 0 ∧ mc = 0 := by
    rcases hcase with h | h
    · exact absurd h.1 (by simp)
    · exact h.2
  rw [Option.isSome_none]
  clear hcase
  have HB4 := Lib.hid (HB3.out.alloc HB3.out.size (.cells #[.int .u64 0, .int .u32 0, .bool false, .slice none 0 0] 47))
  have HR4 := Lib.hid (hR3.alloc (.cells #[.int .u64 0, .int .u32 0, .bool false, .slice none 0 0] 47))
  have v0 := hV3.cell 0 rfl
  have v1 := hV3.cell 1 rfl
  have v2 := hV3.cell 2 rfl
  have v3 := hV3.cell 3 rfl
  have v4 := hV3.cell 4 rfl
  have v5 := hV3.cell 5 rfl
  have v6 := hV3.cell 6 rfl
  have r0 := hR3.cell 0 rfl
  have r1 := hR3.cell 1 rfl
  have r2 := hR3.cell 2 rfl
  have r3 := hR3.cell 3 rfl
  have r4 := hR3.cell 4 rfl
  have r5 := hR3.cell 5 rfl
  have r6 := hR3.cell 6 rfl
  have rf := fun j => hR3.free j
  have n0 := hN3.cell 0 rfl
  have n1 := hN3.cell 1 rfl
  have n2 := hN3.cell 2 rfl
  have n3 := hN3.cell 3 rfl
  clear hV3 hN3 hR3
  go_wp2_with fail
  refine (HWR.out _ HB4.out).mono ?_
  rintro e w5 ⟨lv', dv', ps', rfl, hD5, hb5⟩
  obtain ⟨lx5, lc5, rfl, _, _⟩ := IsX.slice hD5.l
  obtain ⟨dx5, dc5, rfl, _, _⟩ := IsX.slice hD5.d.1
  obtain ⟨PN, hPN⟩ : ∃ PN, s2.idx.length = PN := ⟨_, rfl⟩
  obtain ⟨DN, hDN⟩ : ∃ DN, ps'.length = DN := ⟨_, rfl⟩
  rw [hPN, hDN] at hD5 ⊢
  have hR5 := HR4.out.below hb5 HR4.out.lt
  have HB5 := Lib.hid (HB4.out.trans (hb5.mono HB4.out.size))
  have hF := fin7 hR5 HB5.out (show w.heap.size ≤ w.heap.size + 1 + 1 by omega) (.int .i64 (s2.num : Int)) (.int .i64 (s2.most : Int)) (.int .i64 (s2.epoch : Int)) (.int .i64 (s2.size : Int)) (.bool s2.shut) (.slice lx5 PN lc5) (.slice dx5 DN dc5)
  have hD6 := (hD5.kept ((kept_set7' w5 (w.heap.size + 1 + 1) (.int .i64 (s2.num : Int)) (.int .i64 (s2.most : Int)) (.int .i64 (s2.epoch : Int)) (.int .i64 (s2.size : Int)) (.bool s2.shut) (.slice lx5 PN lc5) (.slice dx5 DN dc5)).mono (fun j _ e => .inr ⟨by omega, by have := HR4.out.lt; omega⟩)) (fun b hb => .inl hb)).kept (S' := S) (Kept.refl _ _) (fun b hb => .inl (.inl hb))
  unfold set7 at hF hD6
  have HF := Lib.hid hF
  have HD6 := Lib.hid hD6
  clear hF hD6 hPN hDN hD5 hb5 v0 v1 v2 v3 v4 v5 v6 n0 n1 n2 n3 r0 r1 r2 r3 r4 r5 r6 rf
  have r0 := hR5.cell 0 rfl
  have r1 := hR5.cell 1 rfl
  have r2 := hR5.cell 2 rfl
  have r3 := hR5.cell 3 rfl
  have r4 := hR5.cell 4 rfl
  have r5 := hR5.cell 5 rfl
  have r6 := hR5.cell 6 rfl
  have rf := fun j => hR5.free j
  clear hR5
  go_wp2
  obtain ⟨y0, y1, y2, y3, y4, y5, y6, yb⟩ := HF.out
  exact bodyPost_ret (v := .tuple #[.agg #[.int .i64 (s2.num : Int), .int .i64 (s2.most : Int), .int .i64 (s2.epoch : Int), .int .i64 (s2.size : Int), .bool s2.shut, .slice lx5 PN lc5, .slice dx5 DN dc5], .int .i64 (q : Int)]) (by simp [results, Tryz.results16, go_sem, y0, y1, y2, y3, y4, y5, y6]) rfl ⟨_, _, ps', rfl, HD6.out, yb⟩
set_option maxRecDepth 100000 in
set_option maxHeartbeats 2000000 in
theorem rlay_w (key cookie : Nat) (data : List UInt8) (x : Option Addr) (vL vc : Nat) (S : Nat → Prop) (s : Vst) (lv dv : Value) (ps : List (Ndl × Value)) (w : World) (h : DocP w S s lv dv ps) (hv : IsB w (.slice x vL vc) data) (hf : s.ns.length < 4095) (hc : ncheck ⟨key, cookie, true, data⟩ = 0) (o : Ndl) (ho : newest s.ns key = some o) (hSw : ∀ b, S b → b < w.heap.size) (hsok : s.Ok) (hvS : ∀ b, liesB (.slice x vL vc) data b → ¬ S b) (hkc : o.cookie = cookie) (hgc : o.gone = false) :
    Calls Tryz.prog 16 #[dval s lv dv, Nd.nval ⟨key, cookie, true, data⟩ (.slice x vL vc)] w (DocT w S (s.write ⟨key, cookie, true, data⟩).1 (s.write ⟨key, cookie, true, data⟩).2) := by
  obtain ⟨lx, lc, rfl, _, _⟩ := IsX.slice h.l
  obtain ⟨dx, dc, rfl, _, _⟩ := IsX.slice h.d.1
  have hpl : ps.length = s.ns.length := by rw [← h.ns, List.length_map]
  obtain ⟨I, hI⟩ : ∃ I, s.idx.length = I := ⟨_, rfl⟩
  obtain ⟨N, hN⟩ : ∃ N, ps.length = N := ⟨_, rfl⟩
  rw [hI, hN] at h ⊢
  have HH := Lib.hid h
  have HV := Lib.hid hv
  have HB0 := Lib.hid (three_below w #[.int .i64 (s.num : Int), .int .i64 (s.most : Int), .int .i64 (s.epoch : Int), .int .i64 (s.size : Int), .bool s.shut, .slice lx I lc, .slice dx N dc] #[.int .u64 (key : Int), .int .u32 (cookie : Int), .bool true, .slice x vL vc] zvol 30 47 30)
  have HCK := Lib.hid (Nd.refcheck_any ⟨key, cookie, true, data⟩ (.slice x vL vc) _ (hv.mono HB0.out (Nat.le_refl _)))
  rw [hc] at HCK
  have HNW := Lib.hid (fun w1 (hb : Below w.heap.size w w1) => newest_r key S s _ _ ps w1 (h.below hb) (by rw [hN]; omega))
  have HO := Lib.hid ho
  have HWR := Lib.hid (fun w1 (hb : Below w.heap.size w w1) => write_rw ⟨key, cookie, true, data⟩ x vL vc (fun b => S b ∨ (w.heap.size ≤ b ∧ b < w1.heap.size)) s (.slice lx I lc) (.slice dx N dc) ps w1 ((HH.out.below hb |> fun _ => HH.out).kept (Kept.of_below hb (Nat.le_refl _)) (fun b hb => hb.imp id (fun h => h.1))) (fun b hb2 => hb2.elim (fun h => Nat.lt_of_lt_of_le (hSw b h) hb.size) (fun h => h.2)) hsok (hv.mono hb (Nat.le_refl _)) (fun b hb2 hS => by rcases hS with hS | hS; exact hvS b hb2 hS; have := hv.lies_lt hb2; omega) hc hf)
  obtain ⟨s2, hs2⟩ : ∃ s2, (s.write ⟨key, cookie, true, data⟩).1 = s2 := ⟨_, rfl⟩
  obtain ⟨q, hq⟩ : ∃ q, (s.write ⟨key, cookie, true, data⟩).2 = q := ⟨_, rfl⟩
  rw [hs2, hq] at HWR ⊢
  clear ho h hI hN hv hpl hc hf hSw hsok hvS hs2 hq
  go_enter Tryz.func16, Tryz.ntmps16
  go_wp2_with fail
  refine HCK.out.mono ?_
  rintro e w2 ⟨rfl, hb2⟩
  obtain ⟨hV, hNN, hR, hB, hlt⟩ := three_facts hb2
  have HVB := Lib.hid hV
  have HNB := Lib.hid hNN
  have HRB := Lib.hid hR
  have HB2 := Lib.hid hB
  have v0 := hV.cell 0 rfl
  have v1 := hV.cell 1 rfl
  have v2 := hV.cell 2 rfl
  have v3 := hV.cell 3 rfl
  have v4 := hV.cell 4 rfl
  have v5 := hV.cell 5 rfl
  have v6 := hV.cell 6 rfl
  have r0 := hR.cell 0 rfl
  have r1 := hR.cell 1 rfl
  have r2 := hR.cell 2 rfl
  have r3 := hR.cell 3 rfl
  have r4 := hR.cell 4 rfl
  have r5 := hR.cell 5 rfl
  have r6 := hR.cell 6 rfl
  have rf := fun j => hR.free j
  have n0 := hNN.cell 0 rfl
  have n1 := hNN.cell 1 rfl
  have n2 := hNN.cell 2 rfl
  have n3 := hNN.cell 3 rfl
  clear hb2 hV hNN hR hB
  go_wp2_with fail
  refine (HNW.out _ HB2.out).mono ?_
  rintro e w3 ⟨m, mx, mL, mc, rfl, hcase, hb3⟩
  rw [HO.out] at hcase ⊢
  have hV3 := HVB.out.below hb3 (by omega)
  have hN3 := HNB.out.below hb3 (by omega)
  have hR3 := HRB.out.below hb3 hlt
  have HB3 := Lib.hid (HB2.out.trans (hb3.mono HB2.out.size))
  have hlt3 : w.heap.size + 1 + 1 < w3.heap.size := hR3.lt
  have hl0 : w.heap.size < w3.heap.size := by omega
  have hl1 : w.heap.size + 1 < w3.heap.size := by omega
  clear v0 v1 v2 v3 v4 v5 v6 r0 r1 r2 r3 r4 r5 r6 rf n0 n1 n2 n3
  have hmo : m = o ∧ (m, .slice mx mL mc) ∈ ps := by
    rcases hcase with h | h
    · exact ⟨by have := h.1; cases this; rfl, h.2⟩
    · exact absurd h.1 (by simp)
  obtain ⟨hmo, hmem⟩ := hmo
  have HOB := Lib.hid (show IsB w3 (.slice mx mL mc) m.data from ((HH.out.d.2 _ hmem).1.mono HB2.out (Nat.le_refl _)).mono hb3 (Nat.le_refl _))
  clear hb3 hmem
  subst hmo
  rw [Option.isSome_some]
  clear hcase
  obtain ⟨mk, mck, mg, md⟩ := m
  simp only at hkc hgc HOB
  subst hkc
  subst hgc
  simp only
  have hO4 := Blk.new w3 #[.int .u64 (mk : Int), .int .u32 (mck : Int), .bool false, .slice mx mL mc] 47
  have hV4 := hV3.alloc (.cells #[.int .u64 (mk : Int), .int .u32 (mck : Int), .bool false, .slice mx mL mc] 47)
  have hN4 := hN3.alloc (.cells #[.int .u64 (mk : Int), .int .u32 (mck : Int), .bool false, .slice mx mL mc] 47)
  have HR4 := Lib.hid (hR3.alloc (.cells #[.int .u64 (mk : Int), .int .u32 (mck : Int), .bool false, .slice mx mL mc] 47))
  have HB4 := Lib.hid (HB3.out.alloc HB3.out.size (.cells #[.int .u64 (mk : Int), .int .u32 (mck : Int), .bool false, .slice mx mL mc] 47))
  have v0 := hV3.cell 0 rfl
  have v1 := hV3.cell 1 rfl
  have v2 := hV3.cell 2 rfl
  have v3 := hV3.cell 3 rfl
  have v4 := hV3.cell 4 rfl
  have v5 := hV3.cell 5 rfl
  have v6 := hV3.cell 6 rfl
  have r0 := hR3.cell 0 rfl
  have r1 := hR3.cell 1 rfl
  have r2 := hR3.cell 2 rfl
  have r3 := hR3.cell 3 rfl
  have r4 := hR3.cell 4 rfl
  have r5 := hR3.cell 5 rfl
  have r6 := hR3.cell 6 rfl
  have rf := fun j => hR3.free j
  have n0 := hN3.cell 0 rfl
  have n1 := hN3.cell 1 rfl
  have n2 := hN3.cell 2 rfl
  have n3 := hN3.cell 3 rfl
  have HV3 := Lib.hid hV3
  have HN3 := Lib.hid hN3
  have HR3 := Lib.hid hR3
  clear hV3 hN3 hR3 hV4 hN4 hO4
  go_wp2_with fail
  refine (HWR.out _ HB4.out).mono ?_
  rintro e w5 ⟨lv', dv', ps', rfl, hD5, hb5⟩
  obtain ⟨lx5, lc5, rfl, _, _⟩ := IsX.slice hD5.l
  obtain ⟨dx5, dc5, rfl, _, _⟩ := IsX.slice hD5.d.1
  obtain ⟨PN, hPN⟩ : ∃ PN, s2.idx.length = PN := ⟨_, rfl⟩
  obtain ⟨DN, hDN⟩ : ∃ DN, ps'.length = DN := ⟨_, rfl⟩
  rw [hPN, hDN] at hD5 ⊢
  have hR5 := HR4.out.below hb5 HR4.out.lt
  have HB5 := Lib.hid (HB4.out.trans (hb5.mono HB4.out.size))
  have hF := fin7 hR5 HB5.out (show w.heap.size ≤ w.heap.size + 1 + 1 by omega) (.int .i64 (s2.num : Int)) (.int .i64 (s2.most : Int)) (.int .i64 (s2.epoch : Int)) (.int .i64 (s2.size : Int)) (.bool s2.shut) (.slice lx5 PN lc5) (.slice dx5 DN dc5)
  have hD6 := (hD5.kept ((kept_set7' w5 (w.heap.size + 1 + 1) (.int .i64 (s2.num : Int)) (.int .i64 (s2.most : Int)) (.int .i64 (s2.epoch : Int)) (.int .i64 (s2.size : Int)) (.bool s2.shut) (.slice lx5 PN lc5) (.slice dx5 DN dc5)).mono (fun j _ e => .inr ⟨by omega, by have := HR4.out.lt; omega⟩)) (fun b hb => .inl hb)).kept (S' := S) (Kept.refl _ _) (fun b hb => .inl (.inl hb))
  unfold set7 at hF hD6
  have HF := Lib.hid hF
  have HD6 := Lib.hid hD6
  clear hF hD6 hPN hDN hD5 hb5 v0 v1 v2 v3 v4 v5 v6 n0 n1 n2 n3 r0 r1 r2 r3 r4 r5 r6 rf
  have r0 := hR5.cell 0 rfl
  have r1 := hR5.cell 1 rfl
  have r2 := hR5.cell 2 rfl
  have r3 := hR5.cell 3 rfl
  have r4 := hR5.cell 4 rfl
  have r5 := hR5.cell 5 rfl
  have r6 := hR5.cell 6 rfl
  have rf := fun j => hR5.free j
  clear hR5
  go_wp2
  obtain ⟨y0, y1, y2, y3, y4, y5, y6, yb⟩ := HF.out
  exact bodyPost_ret (v := .tuple #[.agg #[.int .i64 (s2.num : Int), .int .i64 (s2.most : Int), .int .i64 (s2.epoch : Int), .int .i64 (s2.size : Int), .bool s2.shut, .slice lx5 PN lc5, .slice dx5 DN dc5], .int .i64 (q : Int)]) (by simp [results, Tryz.results16, go_sem, y0, y1, y2, y3, y4, y5, y6]) rfl ⟨_, _, ps', rfl, HD6.out, yb⟩
set_option maxRecDepth 100000 in
set_option maxHeartbeats 2000000 in
theorem rlay_s (key cookie : Nat) (data : List UInt8) (x : Option Addr) (vL vc : Nat) (S : Nat → Prop) (s : Vst) (lv dv : Value) (ps : List (Ndl × Value)) (w : World) (h : DocP w S s lv dv ps) (hv : IsB w (.slice x vL vc) data) (hf : s.ns.length < 4095) (hc : ncheck ⟨key, cookie, false, data⟩ = 0) (o : Ndl) (ho : newest s.ns key = some o) (hkc : o.cookie = cookie) (hgc : o.gone = false) (hsm : sameN o ⟨key, cookie, false, data⟩ = true) (hol : o.data.length ≤ 1099511627776) :
    Calls Tryz.prog 16 #[dval s lv dv, Nd.nval ⟨key, cookie, false, data⟩ (.slice x vL vc)] w (DocT w S s 0) := by
  obtain ⟨lx, lc, rfl, _, _⟩ := IsX.slice h.l
  obtain ⟨dx, dc, rfl, _, _⟩ := IsX.slice h.d.1
  have hpl : ps.length = s.ns.length := by rw [← h.ns, List.length_map]
  obtain ⟨I, hI⟩ : ∃ I, s.idx.length = I := ⟨_, rfl⟩
  obtain ⟨N, hN⟩ : ∃ N, ps.length = N := ⟨_, rfl⟩
  rw [hI, hN] at h ⊢
  have HH := Lib.hid h
  have HV := Lib.hid hv
  have HB0 := Lib.hid (three_below w #[.int .i64 (s.num : Int), .int .i64 (s.most : Int), .int .i64 (s.epoch : Int), .int .i64 (s.size : Int), .bool s.shut, .slice lx I lc, .slice dx N dc] #[.int .u64 (key : Int), .int .u32 (cookie : Int), .bool false, .slice x vL vc] zvol 30 47 30)
  have HCK := Lib.hid (Nd.refcheck_any ⟨key, cookie, false, data⟩ (.slice x vL vc) _ (hv.mono HB0.out (Nat.le_refl _)))
  rw [hc] at HCK
  have HNW := Lib.hid (fun w1 (hb : Below w.heap.size w w1) => newest_r key S s _ _ ps w1 (h.below hb) (by rw [hN]; omega))
  have HO := Lib.hid ho
  have HSM := Lib.hid (fun va vb wx (ha : IsB wx va o.data) (hb : IsB wx vb data) => show Calls Tryz.prog 15 #[Nd.nval o va, Nd.nval ⟨key, cookie, false, data⟩ vb] wx (fun e w' => e = .returned (.bool true) ∧ Below wx.heap.size wx w') by
    have := Nd.refsame_any o ⟨key, cookie, false, data⟩ va vb wx ha hb hol
    rw [hsm] at this
    exact this)
  have HVM := Lib.hid (fun wx (hb : Below w.heap.size w wx) => hv.mono hb (Nat.le_refl _))
  clear ho h hI hN hv hpl hc hf hsm hol
  go_enter Tryz.func16, Tryz.ntmps16
  go_wp2_with fail
  refine HCK.out.mono ?_
  rintro e w2 ⟨rfl, hb2⟩
  obtain ⟨hV, hNN, hR, hB, hlt⟩ := three_facts hb2
  have HVB := Lib.hid hV
  have HNB := Lib.hid hNN
  have HRB := Lib.hid hR
  have HB2 := Lib.hid hB
  have v0 := hV.cell 0 rfl
  have v1 := hV.cell 1 rfl
  have v2 := hV.cell 2 rfl
  have v3 := hV.cell 3 rfl
  have v4 := hV.cell 4 rfl
  have v5 := hV.cell 5 rfl
  have v6 := hV.cell 6 rfl
  have r0 := hR.cell 0 rfl
  have r1 := hR.cell 1 rfl
  have r2 := hR.cell 2 rfl
  have r3 := hR.cell 3 rfl
  have r4 := hR.cell 4 rfl
  have r5 := hR.cell 5 rfl
  have r6 := hR.cell 6 rfl
  have rf := fun j => hR.free j
  have n0 := hNN.cell 0 rfl
  have n1 := hNN.cell 1 rfl
  have n2 := hNN.cell 2 rfl
  have n3 := hNN.cell 3 rfl
  clear hb2 hV hNN hR hB
  go_wp2_with fail
  refine (HNW.out _ HB2.out).mono ?_
  rintro e w3 ⟨m, mx, mL, mc, rfl, hcase, hb3⟩
  rw [HO.out] at hcase ⊢
  have hV3 := HVB.out.below hb3 (by omega)
  have hN3 := HNB.out.below hb3 (by omega)
  have hR3 := HRB.out.below hb3 hlt
  have HB3 := Lib.hid (HB2.out.trans (hb3.mono HB2.out.size))
  have hlt3 : w.heap.size + 1 + 1 < w3.heap.size := hR3.lt
  have hl0 : w.heap.size < w3.heap.size := by omega
  have hl1 : w.heap.size + 1 < w3.heap.size := by omega
  clear v0 v1 v2 v3 v4 v5 v6 r0 r1 r2 r3 r4 r5 r6 rf n0 n1 n2 n3
  have hmo : m = o ∧ (m, .slice mx mL mc) ∈ ps := by
    rcases hcase with h | h
    · exact ⟨by have := h.1; cases this; rfl, h.2⟩
    · exact absurd h.1 (by simp)
  obtain ⟨hmo, hmem⟩ := hmo
  have HOB := Lib.hid (show IsB w3 (.slice mx mL mc) m.data from ((HH.out.d.2 _ hmem).1.mono HB2.out (Nat.le_refl _)).mono hb3 (Nat.le_refl _))
  clear hb3 hmem
  subst hmo
  rw [Option.isSome_some]
  clear hcase
  obtain ⟨mk, mck, mg, md⟩ := m
  simp only at hkc hgc HOB
  subst hkc
  subst hgc
  simp only
  have hO4 := Blk.new w3 #[.int .u64 (mk : Int), .int .u32 (mck : Int), .bool false, .slice mx mL mc] 47
  have hV4 := hV3.alloc (.cells #[.int .u64 (mk : Int), .int .u32 (mck : Int), .bool false, .slice mx mL mc] 47)
  have hN4 := hN3.alloc (.cells #[.int .u64 (mk : Int), .int .u32 (mck : Int), .bool false, .slice mx mL mc] 47)
  have HR4 := Lib.hid (hR3.alloc (.cells #[.int .u64 (mk : Int), .int .u32 (mck : Int), .bool false, .slice mx mL mc] 47))
  have HB4 := Lib.hid (HB3.out.alloc HB3.out.size (.cells #[.int .u64 (mk : Int), .int .u32 (mck : Int), .bool false, .slice mx mL mc] 47))
  have v0 := hV3.cell 0 rfl
  have v1 := hV3.cell 1 rfl
  have v2 := hV3.cell 2 rfl
  have v3 := hV3.cell 3 rfl
  have v4 := hV3.cell 4 rfl
  have v5 := hV3.cell 5 rfl
  have v6 := hV3.cell 6 rfl
  have r0 := hR3.cell 0 rfl
  have r1 := hR3.cell 1 rfl
  have r2 := hR3.cell 2 rfl
  have r3 := hR3.cell 3 rfl
  have r4 := hR3.cell 4 rfl
  have r5 := hR3.cell 5 rfl
  have r6 := hR3.cell 6 rfl
  have rf := fun j => hR3.free j
  have n0 := hN3.cell 0 rfl
  have n1 := hN3.cell 1 rfl
  have n2 := hN3.cell 2 rfl
  have n3 := hN3.cell 3 rfl
  have HV3 := Lib.hid hV3
  have HN3 := Lib.hid hN3
  have HR3 := Lib.hid hR3
  clear hV3 hN3 hR3 hV4 hN4 hO4
  have HB4b := Lib.hid (HB4.out)
  go_wp2_with fail
  refine (HSM.out _ _ _ (HOB.out.mono (below_alloc w3 _) (Nat.le_refl _)) (HVM.out _ HB4.out)).mono ?_
  rintro e w5 ⟨rfl, hb5⟩
  have hV5 := (HV3.out.alloc (.cells #[.int .u64 (mk : Int), .int .u32 (mck : Int), .bool false, .slice mx mL mc] 47)).below hb5 (HV3.out.alloc _).lt
  have hR5 := (HR4.out).below hb5 HR4.out.lt
  have HB5 := Lib.hid (HB4.out.trans (hb5.mono HB4.out.size))
  clear v0 v1 v2 v3 v4 v5 v6 n0 n1 n2 n3 r0 r1 r2 r3 r4 r5 r6 rf hb5
  have v0 := hV5.cell 0 rfl
  have v1 := hV5.cell 1 rfl
  have v2 := hV5.cell 2 rfl
  have v3 := hV5.cell 3 rfl
  have v4 := hV5.cell 4 rfl
  have v5 := hV5.cell 5 rfl
  have v6 := hV5.cell 6 rfl
  have r0 := hR5.cell 0 rfl
  have r1 := hR5.cell 1 rfl
  have r2 := hR5.cell 2 rfl
  have r3 := hR5.cell 3 rfl
  have r4 := hR5.cell 4 rfl
  have r5 := hR5.cell 5 rfl
  have r6 := hR5.cell 6 rfl
  have rf := fun j => hR5.free j
  have HR5 := Lib.hid hR5
  clear hV5 hR5
  have hF := fin7 HR5.out HB5.out (show w.heap.size ≤ w.heap.size + 1 + 1 by omega) (.int .i64 (s.num : Int)) (.int .i64 (s.most : Int)) (.int .i64 (s.epoch : Int)) (.int .i64 (s.size : Int)) (.bool s.shut) (.slice lx I lc) (.slice dx N dc)
  unfold set7 at hF
  have HF := Lib.hid hF
  clear hF
  go_wp2
  obtain ⟨y0, y1, y2, y3, y4, y5, y6, yb⟩ := HF.out
  exact bodyPost_ret (v := .tuple #[.agg #[.int .i64 (s.num : Int), .int .i64 (s.most : Int), .int .i64 (s.epoch : Int), .int .i64 (s.size : Int), .bool s.shut, .slice lx I lc, .slice dx N dc], .int .i64 0]) (by simp [results, Tryz.results16, go_sem, y0, y1, y2, y3, y4, y5, y6]) rfl ⟨_, _, ps, rfl, HH.out.below yb, yb⟩
set_option maxRecDepth 100000 in
set_option maxHeartbeats 2000000 in
theorem rlay_x (key cookie : Nat) (data : List UInt8) (x : Option Addr) (vL vc : Nat) (S : Nat → Prop) (s : Vst) (lv dv : Value) (ps : List (Ndl × Value)) (w : World) (h : DocP w S s lv dv ps) (hv : IsB w (.slice x vL vc) data) (hf : s.ns.length < 4095) (hc : ncheck ⟨key, cookie, false, data⟩ = 0) (o : Ndl) (ho : newest s.ns key = some o) (hkc : o.cookie = cookie) (hgc : o.gone = false) (hsm : sameN o ⟨key, cookie, false, data⟩ = false) (hol : o.data.length ≤ 1099511627776) :
    Calls Tryz.prog 16 #[dval s lv dv, Nd.nval ⟨key, cookie, false, data⟩ (.slice x vL vc)] w (DocT w S s 8) := by
  obtain ⟨lx, lc, rfl, _, _⟩ := IsX.slice h.l
  obtain ⟨dx, dc, rfl, _, _⟩ := IsX.slice h.d.1
  have hpl : ps.length = s.ns.length := by rw [← h.ns, List.length_map]
  obtain ⟨I, hI⟩ : ∃ I, s.idx.length = I := ⟨_, rfl⟩
  obtain ⟨N, hN⟩ : ∃ N, ps.length = N := ⟨_, rfl⟩
  rw [hI, hN] at h ⊢
  have HH := Lib.hid h
  have HV := Lib.hid hv
  have HB0 := Lib.hid (three_below w #[.int .i64 (s.num : Int), .int .i64 (s.most : Int), .int .i64 (s.epoch : Int), .int .i64 (s.size : Int), .bool s.shut, .slice lx I lc, .slice dx N dc] #[.int .u64 (key : Int), .int .u32 (cookie : Int), .bool false, .slice x vL vc] zvol 30 47 30)
  have HCK := Lib.hid (Nd.refcheck_any ⟨key, cookie, false, data⟩ (.slice x vL vc) _ (hv.mono HB0.out (Nat.le_refl _)))
  rw [hc] at HCK
  have HNW := Lib.hid (fun w1 (hb : Below w.heap.size w w1) => newest_r key S s _ _ ps w1 (h.below hb) (by rw [hN]; omega))
  have HO := Lib.hid ho
  have HSM := Lib.hid (fun va vb wx (ha : IsB wx va o.data) (hb : IsB wx vb data) => show Calls Tryz.prog 15 #[Nd.nval o va, Nd.nval ⟨key, cookie, false, data⟩ vb] wx (fun e w' => e = .returned (.bool false) ∧ Below wx.heap.size wx w') by
    have := Nd.refsame_any o ⟨key, cookie, false, data⟩ va vb wx ha hb hol
    rw [hsm] at this
    exact this)
  have HVM := Lib.hid (fun wx (hb : Below w.heap.size w wx) => hv.mono hb (Nat.le_refl _))
  clear ho h hI hN hv hpl hc hf hsm hol
  go_enter Tryz.func16, Tryz.ntmps16
  go_wp2_with fail
  refine HCK.out.mono ?_
  rintro e w2 ⟨rfl, hb2⟩
  obtain ⟨hV, hNN, hR, hB, hlt⟩ := three_facts hb2
  have HVB := Lib.hid hV
  have HNB := Lib.hid hNN
  have HRB := Lib.hid hR
  have HB2 := Lib.hid hB
  have v0 := hV.cell 0 rfl
  have v1 := hV.cell 1 rfl
  have v2 := hV.cell 2 rfl
  have v3 := hV.cell 3 rfl
  have v4 := hV.cell 4 rfl
  have v5 := hV.cell 5 rfl
  have v6 := hV.cell 6 rfl
  have r0 := hR.cell 0 rfl
  have r1 := hR.cell 1 rfl
  have r2 := hR.cell 2 rfl
  have r3 := hR.cell 3 rfl
  have r4 := hR.cell 4 rfl
  have r5 := hR.cell 5 rfl
  have r6 := hR.cell 6 rfl
  have rf := fun j => hR.free j
  have n0 := hNN.cell 0 rfl
  have n1 := hNN.cell 1 rfl
  have n2 := hNN.cell 2 rfl
  have n3 := hNN.cell 3 rfl
  clear hb2 hV hNN hR hB
  go_wp2_with fail
  refine (HNW.out _ HB2.out).mono ?_
  rintro e w3 ⟨m, mx, mL, mc, rfl, hcase, hb3⟩
  rw [HO.out] at hcase ⊢
  have hV3 := HVB.out.below hb3 (by omega)
  have hN3 := HNB.out.below hb3 (by omega)
  have hR3 := HRB.out.below hb3 hlt
  have HB3 := Lib.hid (HB2.out.trans (hb3.mono HB2.out.size))
  have hlt3 : w.heap.size + 1 + 1 < w3.heap.size := hR3.lt
  have hl0 : w.heap.size < w3.heap.size := by omega
  have hl1 : w.heap.size + 1 < w3.heap.size := by omega
  clear v0 v1 v2 v3 v4 v5 v6 r0 r1 r2 r3 r4 r5 r6 rf n0 n1 n2 n3
  have hmo : m = o ∧ (m, .slice mx mL mc) ∈ ps := by
    rcases hcase with h | h
    · exact ⟨by have := h.1; cases this; rfl, h.2⟩
    · exact absurd h.1 (by simp)
  obtain ⟨hmo, hmem⟩ := hmo
  have HOB := Lib.hid (show IsB w3 (.slice mx mL mc) m.data from ((HH.out.d.2 _ hmem).1.mono HB2.out (Nat.le_refl _)).mono hb3 (Nat.le_refl _))
  clear hb3 hmem
  subst hmo
  rw [Option.isSome_some]
  clear hcase
  obtain ⟨mk, mck, mg, md⟩ := m
  simp only at hkc hgc HOB
  subst hkc
  subst hgc
  simp only
  have hO4 := Blk.new w3 #[.int .u64 (mk : Int), .int .u32 (mck : Int), .bool false, .slice mx mL mc] 47
  have hV4 := hV3.alloc (.cells #[.int .u64 (mk : Int), .int .u32 (mck : Int), .bool false, .slice mx mL mc] 47)
  have hN4 := hN3.alloc (.cells #[.int .u64 (mk : Int), .int .u32 (mck : Int), .bool false, .slice mx mL mc] 47)
  have HR4 := Lib.hid (hR3.alloc (.cells #[.int .u64 (mk : Int), .int .u32 (mck : Int), .bool false, .slice mx mL mc] 47))
  have HB4 := Lib.hid (HB3.out.alloc HB3.out.size (.cells #[.int .u64 (mk : Int), .int .u32 (mck : Int), .bool false, .slice mx mL mc] 47))
  have v0 := hV3.cell 0 rfl
  have v1 := hV3.cell 1 rfl
  have v2 := hV3.cell 2 rfl
  have v3 := hV3.cell 3 rfl
  have v4 := hV3.cell 4 rfl
  have v5 := hV3.cell 5 rfl
  have v6 := hV3.cell 6 rfl
  have r0 := hR3.cell 0 rfl
  have r1 := hR3.cell 1 rfl
  have r2 := hR3.cell 2 rfl
  have r3 := hR3.cell 3 rfl
  have r4 := hR3.cell 4 rfl
  have r5 := hR3.cell 5 rfl
  have r6 := hR3.cell 6 rfl
  have rf := fun j => hR3.free j
  have n0 := hN3.cell 0 rfl
  have n1 := hN3.cell 1 rfl
  have n2 := hN3.cell 2 rfl
  have n3 := hN3.cell 3 rfl
  have HV3 := Lib.hid hV3
  have HN3 := Lib.hid hN3
  have HR3 := Lib.hid hR3
  clear hV3 hN3 hR3 hV4 hN4 hO4
  have HB4b := Lib.hid (HB4.out)
  go_wp2_with fail
  refine (HSM.out _ _ _ (HOB.out.mono (below_alloc w3 _) (Nat.le_refl _)) (HVM.out _ HB4.out)).mono ?_
  rintro e w5 ⟨rfl, hb5⟩
  have hV5 := (HV3.out.alloc (.cells #[.int .u64 (mk : Int), .int .u32 (mck : Int), .bool false, .slice mx mL mc] 47)).below hb5 (HV3.out.alloc _).lt
  have hR5 := (HR4.out).below hb5 HR4.out.lt
  have HB5 := Lib.hid (HB4.out.trans (hb5.mono HB4.out.size))
  clear v0 v1 v2 v3 v4 v5 v6 n0 n1 n2 n3 r0 r1 r2 r3 r4 r5 r6 rf hb5
  have v0 := hV5.cell 0 rfl
  have v1 := hV5.cell 1 rfl
  have v2 := hV5.cell 2 rfl
  have v3 := hV5.cell 3 rfl
  have v4 := hV5.cell 4 rfl
  have v5 := hV5.cell 5 rfl
  have v6 := hV5.cell 6 rfl
  have r0 := hR5.cell 0 rfl
  have r1 := hR5.cell 1 rfl
  have r2 := hR5.cell 2 rfl
  have r3 := hR5.cell 3 rfl
  have r4 := hR5.cell 4 rfl
  have r5 := hR5.cell 5 rfl
  have r6 := hR5.cell 6 rfl
  have rf := fun j => hR5.free j
  have HR5 := Lib.hid hR5
  clear hV5 hR5
  have hF := fin7 HR5.out HB5.out (show w.heap.size ≤ w.heap.size + 1 + 1 by omega) (.int .i64 (s.num : Int)) (.int .i64 (s.most : Int)) (.int .i64 (s.epoch : Int)) (.int .i64 (s.size : Int)) (.bool s.shut) (.slice lx I lc) (.slice dx N dc)
  unfold set7 at hF
  have HF := Lib.hid hF
  clear hF
  go_wp2
  obtain ⟨y0, y1, y2, y3, y4, y5, y6, yb⟩ := HF.out
  exact bodyPost_ret (v := .tuple #[.agg #[.int .i64 (s.num : Int), .int .i64 (s.most : Int), .int .i64 (s.epoch : Int), .int .i64 (s.size : Int), .bool s.shut, .slice lx I lc, .slice dx N dc], .int .i64 8]) (by simp [results, Tryz.results16, go_sem, y0, y1, y2, y3, y4, y5, y6]) rfl ⟨_, _, ps, rfl, HH.out.below yb, yb⟩
/-- The document's Lay. -/
theorem rlay_any (n : Ndl) (x : Option Addr) (vL vc : Nat) (S : Nat → Prop) (s : Vst) (lv dv : Value) (ps : List (Ndl × Value)) (w : World) (h : DocP w S s lv dv ps) (hv : IsB w (.slice x vL vc) n.data) (hvS : ∀ b, liesB (.slice x vL vc) n.data b → ¬ S b) (hSw : ∀ b, S b → b < w.heap.size) (hf : s.ns.length < 4095) (hsok : s.Ok) :
    Calls Tryz.prog 16 #[dval s lv dv, Nd.nval n (.slice x vL vc)] w (DocT w S (s.lay n).1 (s.lay n).2) := by
  obtain ⟨key, cookie, gone, data⟩ := n
  by_cases hc : ncheck ⟨key, cookie, gone, data⟩ = 0
  · cases ho : newest s.ns key with
    | none =>
      rw [show s.lay ⟨key, cookie, gone, data⟩ = s.write ⟨key, cookie, gone, data⟩ by unfold Vst.lay; rw [if_neg (by simp [hc])]; simp only [ho]]
      exact rlay_n key cookie gone data x vL vc S s lv dv ps w h hv hf hc hSw hsok hvS ho
    | some o =>
      have hl : ∀ r, (if o.cookie ≠ cookie then (s, 9) else if o.gone = true then (s, 0) else if gone = true then s.write ⟨key, cookie, gone, data⟩ else if sameN o ⟨key, cookie, gone, data⟩ = true then (s, 0) else (s, 8)) = r → s.lay ⟨key, cookie, gone, data⟩ = r := fun r e => by
        rw [← e]; unfold Vst.lay; rw [if_neg (by simp [hc])]; simp only [ho]
      have hod : o.data.length ≤ 1099511627776 := by
        have := (ncheck_ok (hsok.all o (newest_mem ho).1).2).1
        omega
      by_cases hk : o.cookie = cookie
      · cases hg : o.gone with
        | true =>
          rw [hl (s, 0) (by rw [if_neg (by simp [hk]), if_pos hg])]
          exact rlay_g key cookie gone data x vL vc S s lv dv ps w h hv hf hc o ho hk hg
        | false =>
          cases gone with
          | true =>
            rw [hl (s.write ⟨key, cookie, true, data⟩) (by rw [if_neg (by simp [hk]), if_neg (by simp [hg]), if_pos rfl])]
            exact rlay_w key cookie data x vL vc S s lv dv ps w h hv hf hc o ho hSw hsok hvS hk hg
          | false =>
            cases hs : sameN o ⟨key, cookie, false, data⟩ with
            | true =>
              rw [hl (s, 0) (by rw [if_neg (by simp [hk]), if_neg (by simp [hg]), if_neg (by simp), if_pos hs])]
              exact rlay_s key cookie data x vL vc S s lv dv ps w h hv hf hc o ho hk hg hs hod
            | false =>
              rw [hl (s, 8) (by rw [if_neg (by simp [hk]), if_neg (by simp [hg]), if_neg (by simp), if_neg (by simp [hs])])]
              exact rlay_x key cookie data x vL vc S s lv dv ps w h hv hf hc o ho hk hg hs hod
      · rw [hl (s, 9) (by rw [if_pos hk])]
        exact rlay_c key cookie gone data x vL vc S s lv dv ps w h hv hf hc o ho hk trivial
  · rw [show s.lay ⟨key, cookie, gone, data⟩ = (s, ncheck ⟨key, cookie, gone, data⟩) by unfold Vst.lay; rw [if_pos hc]]
    exact rlay_b key cookie gone data x vL vc S s lv dv ps w h hv hf hc


end Go.Proofs.YtoblbipkkdiddaaGreatDoor
end

section
namespace Go.Proofs.YtoblbipkkdiddaaGreatDoor
open Go.RowKit Go.Cor

theorem below_drawn9 {B : Nat} {a w : World} (h : Below B a w) (n : Nat) : Below B a (w.drewN n) := h.trans ⟨rfl, rfl, rfl, Nat.le_refl _, fun _ _ => rfl⟩
theorem from_all (l : List Pos) (h : l.length ≤ 5000) : Q.fromL l 0 5000 = l := by
  unfold Q.fromL
  have h0 : psn l 0 = 0 := by
    cases l <;> simp [psn]
  rw [h0, List.drop_zero]
  exact List.take_of_length_le (by simpa using h)
set_option maxRecDepth 100000 in
set_option maxHeartbeats 4000000 in
theorem same_v (g p k : Nat) (S : Nat → Prop) (d : Dsk) (s : Vst) (S2 : Nat → Prop) (lv dv : Value) (ps : List (Ndl × Value)) (w : World) (h : Vready w g p S d k s) (hd : DocP w S2 s lv dv ps) :
    Calls Tryz.prog 18 #[.pointer (some ⟨g, 0, none⟩), dval s lv dv] w fun e w' => e = .returned (.bool true) ∧ Below w.heap.size w w' := by
  obtain ⟨lx, lc, rfl, _, _⟩ := IsX.slice hd.l
  obtain ⟨dx, dc, rfl, _, _⟩ := IsX.slice hd.d.1
  have hI5 : s.idx.length ≤ 5000 := by have := s.idx_len; have := h.ok.few; omega
  have hGI := Q.goneN_le s.idx
  have HAL := Lib.hid (from_all s.idx hI5)
  obtain ⟨I, hI⟩ : ∃ I, s.idx.length = I := ⟨_, rfl⟩
  obtain ⟨N, hN⟩ : ∃ N, ps.length = N := ⟨_, rfl⟩
  obtain ⟨G, hG⟩ : ∃ G, Q.goneN s.idx = G := ⟨_, rfl⟩
  have hbx := below_alloc w (.cells #[.int .i64 (s.num : Int), .int .i64 (s.most : Int), .int .i64 (s.epoch : Int), .int .i64 (s.size : Int), .bool s.shut, .slice lx I lc, .slice dx N dc] 30)
  have HINF := Lib.hid (show Calls Tryz.prog 21 #[.pointer (some ⟨g, 0, none⟩)] (w.alloc (.cells #[.int .i64 (s.num : Int), .int .i64 (s.most : Int), .int .i64 (s.epoch : Int), .int .i64 (s.size : Int), .bool s.shut, .slice lx I lc, .slice dx N dc] 30)) (fun r w' => r = .returned (.agg #[.int .i64 (s.num : Int), .int .i64 (s.gen : Int), .int .i64 (s.epoch : Int), .int .i64 (s.size : Int), .int .i64 ((I : Int) - (G : Int)), .int .i64 (G : Int), .bool s.shut]) ∧ Below (w.alloc (.cells #[.int .i64 (s.num : Int), .int .i64 (s.most : Int), .int .i64 (s.epoch : Int), .int .i64 (s.size : Int), .bool s.shut, .slice lx I lc, .slice dx N dc] 30)).heap.size (w.alloc (.cells #[.int .i64 (s.num : Int), .int .i64 (s.most : Int), .int .i64 (s.epoch : Int), .int .i64 (s.size : Int), .bool s.shut, .slice lx I lc, .slice dx N dc] 30)) w') by
    have := info_v g p k S d s _ (h.below hbx)
    unfold infoV at this
    rw [hI, hG] at this
    exact this)
  rw [hI, hN] at hd ⊢
  rw [hG, hI] at hGI
  rw [hI] at hI5
  have HH := Lib.hid h
  have HD := Lib.hid hd
  have HI := Lib.hid hI
  have HG := Lib.hid hG
  have HB0 := Lib.hid hbx
  clear h hd hI hG hN hbx
  go_enter Tryz.func18, Tryz.ntmps18
  go_wp2_with fail
  refine HINF.out.mono ?_
  rintro e w2 ⟨rfl, hb⟩
  have hb2 : Below w.heap.size w w2 := HB0.out.trans (hb.mono (by simp))
  have hv2 := (Blk.new w #[.int .i64 (s.num : Int), .int .i64 (s.most : Int), .int .i64 (s.epoch : Int), .int .i64 (s.size : Int), .bool s.shut, .slice lx I lc, .slice dx N dc] 30).below hb (Blk.new w #[.int .i64 (s.num : Int), .int .i64 (s.most : Int), .int .i64 (s.epoch : Int), .int .i64 (s.size : Int), .bool s.shut, .slice lx I lc, .slice dx N dc] 30).lt
  have hv3 := hv2.alloc (.cells #[.int .i64 (s.num : Int), .int .i64 (s.gen : Int), .int .i64 (s.epoch : Int), .int .i64 (s.size : Int), .int .i64 ((I : Int) - (G : Int)), .int .i64 (G : Int), .bool s.shut] 62)
  have hi3 := Blk.new w2 #[.int .i64 (s.num : Int), .int .i64 (s.gen : Int), .int .i64 (s.epoch : Int), .int .i64 (s.size : Int), .int .i64 ((I : Int) - (G : Int)), .int .i64 (G : Int), .bool s.shut] 62
  have hb3 := hb2.alloc hb2.size (.cells #[.int .i64 (s.num : Int), .int .i64 (s.gen : Int), .int .i64 (s.epoch : Int), .int .i64 (s.size : Int), .int .i64 ((I : Int) - (G : Int)), .int .i64 (G : Int), .bool s.shut] 62)
  go_upto_region 2 with fail
  obtain ⟨w3, hw3⟩ : ∃ w3, w2.alloc (.cells #[.int .i64 (s.num : Int), .int .i64 (s.gen : Int), .int .i64 (s.epoch : Int), .int .i64 (s.size : Int), .int .i64 ((I : Int) - (G : Int)), .int .i64 (G : Int), .bool s.shut] 62) = w3 := ⟨_, rfl⟩
  obtain ⟨IB, hIB⟩ : ∃ IB, w2.heap.size = IB := ⟨_, rfl⟩
  rw [hw3, hIB] at hi3
  rw [hw3] at hv3 hb3
  rw [hw3, hIB]
  have HV3 := Lib.hid hv3
  have HI3 := Lib.hid hi3
  have HB3 := Lib.hid hb3
  have v5 := HV3.out.cell 5 rfl
  clear hw3 hIB hb2 hv2 hv3 hi3 hb3 hb HINF HB0
  go_wp2_with fail
  go_loopw [6, 7] (fun gc c wr => ∃ i : Nat, i ≤ I ∧ gc = .int .i64 (Q.goneN (s.idx.take i) : Int) ∧ c = .int .i64 (i : Int) ∧ wr = w3) (fun _ c _ => (I - intOf c).toNat)
  case atStart => exact ⟨0, Nat.zero_le _, rfl, rfl, rfl⟩
  case round =>
    obtain ⟨i, hiI, rfl, rfl, rfl⟩ := hrel
    obtain ⟨M, hM⟩ : ∃ M, Q.goneN (s.idx.take i) = M := ⟨_, rfl⟩
    have hMI : M ≤ i := by
      rw [← hM]
      exact Nat.le_trans (Q.goneN_le _) (by rw [List.length_take]; exact Nat.min_le_left _ _)
    rw [hM]
    by_cases hi : i < I
    · obtain ⟨b, o, hidx, hp⟩ := Q.indexAt_P (P := Tryz.prog) (HD.out.l.mono HB3.out (Nat.le_refl _)) 27 67 Tryz.underlying27 Tryz.sizePs5 i (by rw [HI.out]; exact hi)
      have hsn := Q.goneN_snoc (show i < s.idx.length by rw [HI.out]; exact hi)
      rw [hM] at hsn
      obtain ⟨⟨pk, po, pl, pc, pg⟩, hpp⟩ : ∃ p, pat s.idx i = p := ⟨_, rfl⟩
      rw [hpp] at hp hsn
      obtain ⟨c0, c1, c2, c3, c4⟩ := hp
      dsimp only at c0 c1 c2 c3 c4 hsn
      have e1 : IntKind.i64.wrap ((i : Int) + 1) = (i : Int) + 1 := IntWalk.i64_in _ (by omega)
      have e2 : IntKind.i64.wrap ((M : Int) + 1) = (M : Int) + 1 := IntWalk.i64_in _ (by omega)
      clear hpp hM
      cases pg with
      | true =>
        have HSN := Lib.hid (show Q.goneN (s.idx.take (i + 1)) = M + 1 by simpa using hsn)
        clear hsn
        go_wp2
        go_roundw
        case rel => exact ⟨i + 1, by omega, by rw [HSN.out]; simp, by simp, by trivial⟩
        case measure => simp [intOf] <;> omega
      | false =>
        have HSN := Lib.hid (show Q.goneN (s.idx.take (i + 1)) = M by simpa using hsn)
        clear hsn
        go_wp2
        go_roundw
        case rel => exact ⟨i + 1, by omega, by rw [HSN.out], by simp, by trivial⟩
        case measure => simp [intOf] <;> omega
    · obtain rfl : I = i := by omega
      have hMG : M = G := by rw [← hM, ← HG.out, List.take_of_length_le (by rw [HI.out]; exact Nat.le_refl _)]
      subst hMG
      clear hM hi
      have e3 : IntKind.i64.wrap ((I : Int) - (M : Int)) = (I : Int) - (M : Int) := IntWalk.i64_in _ (by omega)
      have HS8 := Lib.hid (show ∀ wx, Below wr.heap.size wr wx → (fun wx => (wx.cell? ⟨w.heap.size, 0, none⟩ = some (.int .i64 (s.num : Int)) ∧ wx.cell? ⟨w.heap.size, 1, none⟩ = some (.int .i64 (s.most : Int)) ∧ wx.cell? ⟨w.heap.size, 2, none⟩ = some (.int .i64 (s.epoch : Int)) ∧ wx.cell? ⟨w.heap.size, 3, none⟩ = some (.int .i64 (s.size : Int)) ∧ wx.cell? ⟨w.heap.size, 4, none⟩ = some (.bool s.shut) ∧ wx.cell? ⟨w.heap.size, 5, none⟩ = some (.slice lx I lc) ∧ wx.cell? ⟨w.heap.size, 6, none⟩ = some (.slice dx N dc)) ∧ (wx.cell? ⟨IB, 0, none⟩ = some (.int .i64 (s.num : Int)) ∧ wx.cell? ⟨IB, 1, none⟩ = some (.int .i64 (s.gen : Int)) ∧ wx.cell? ⟨IB, 2, none⟩ = some (.int .i64 (s.epoch : Int)) ∧ wx.cell? ⟨IB, 3, none⟩ = some (.int .i64 (s.size : Int)) ∧ wx.cell? ⟨IB, 4, none⟩ = some (.int .i64 ((I : Int) - (M : Int))) ∧ wx.cell? ⟨IB, 5, none⟩ = some (.int .i64 (M : Int)) ∧ wx.cell? ⟨IB, 6, none⟩ = some (.bool s.shut))) wx from fun wx hb => by
        have h1 := HV3.out.below hb HV3.out.lt
        have h2 := HI3.out.below hb HI3.out.lt
        exact ⟨⟨h1.cell 0 rfl, h1.cell 1 rfl, h1.cell 2 rfl, h1.cell 3 rfl, h1.cell 4 rfl, h1.cell 5 rfl, h1.cell 6 rfl⟩, ⟨h2.cell 0 rfl, h2.cell 1 rfl, h2.cell 2 rfl, h2.cell 3 rfl, h2.cell 4 rfl, h2.cell 5 rfl, h2.cell 6 rfl⟩⟩)
      have HKY := Lib.hid (fun wx (hb : Below w.heap.size w wx) => show Calls Tryz.prog 27 #[.pointer (some ⟨g, 0, none⟩), .int .u64 0, .int .i64 5000] wx (fun r w' => ∃ v', r = .returned v' ∧ w'.ownsRow wx.heap.size 83 5 v' s.idx.length (row Q.pcells s.idx) ∧ Below wx.heap.size wx w') by
        have := keys_v 0 5000 g p k S d s wx (HH.out.below hb)
        rw [HAL.out] at this
        exact this)
      have HQ0 := Lib.hid ((Below.refl wr.heap.size wr).drew)
      have HW0 := Lib.hid HB3.out.drew
      go_upto_region 8 with fail
      refine wp_region_held_drew (S := (fun wx => (wx.cell? ⟨w.heap.size, 0, none⟩ = some (.int .i64 (s.num : Int)) ∧ wx.cell? ⟨w.heap.size, 1, none⟩ = some (.int .i64 (s.most : Int)) ∧ wx.cell? ⟨w.heap.size, 2, none⟩ = some (.int .i64 (s.epoch : Int)) ∧ wx.cell? ⟨w.heap.size, 3, none⟩ = some (.int .i64 (s.size : Int)) ∧ wx.cell? ⟨w.heap.size, 4, none⟩ = some (.bool s.shut) ∧ wx.cell? ⟨w.heap.size, 5, none⟩ = some (.slice lx I lc) ∧ wx.cell? ⟨w.heap.size, 6, none⟩ = some (.slice dx N dc)) ∧ (wx.cell? ⟨IB, 0, none⟩ = some (.int .i64 (s.num : Int)) ∧ wx.cell? ⟨IB, 1, none⟩ = some (.int .i64 (s.gen : Int)) ∧ wx.cell? ⟨IB, 2, none⟩ = some (.int .i64 (s.epoch : Int)) ∧ wx.cell? ⟨IB, 3, none⟩ = some (.int .i64 (s.size : Int)) ∧ wx.cell? ⟨IB, 4, none⟩ = some (.int .i64 ((I : Int) - (M : Int))) ∧ wx.cell? ⟨IB, 5, none⟩ = some (.int .i64 (M : Int)) ∧ wx.cell? ⟨IB, 6, none⟩ = some (.bool s.shut)))) (by kernel_rfl) (HS8.out _ HQ0.out) (fun hHeld => ?_)
      refine wpAnyH_take (i := 0) (v := ?_) rfl (by kernel_rfl) (by kernel_rfl) (by kernel_rfl) (fun _ _ _ h => h) (Or.inl ⟨by rfl, ?_⟩) (by assumption) ?_
      rotate_left 1
      · intro w hSw
        (try dsimp only at hSw)
        go_simp
        all_goals (with_reducible rfl)
      try simp only [Act.put, List.getElem_toArray, List.getElem_cons_zero, List.getElem_cons_succ, List.setIfInBounds_toArray, List.set_cons_zero, List.set_cons_succ]
      refine wpAnyH_take (i := 1) (v := ?_) rfl (by kernel_rfl) (by kernel_rfl) (by kernel_rfl) (fun _ _ _ h => h) (Or.inl ⟨by rfl, ?_⟩) (by assumption) ?_
      rotate_left 1
      · intro w hSw
        (try dsimp only at hSw)
        go_simp
        all_goals (with_reducible rfl)
      try simp only [Act.put, List.getElem_toArray, List.getElem_cons_zero, List.getElem_cons_succ, List.setIfInBounds_toArray, List.set_cons_zero, List.set_cons_succ]
      refine wpAnyH_take (i := 2) (v := ?_) rfl (by kernel_rfl) (by kernel_rfl) (by kernel_rfl) (fun _ _ _ h => h) (Or.inl ⟨by rfl, ?_⟩) (by assumption) ?_
      rotate_left 1
      · intro w hSw
        (try dsimp only at hSw)
        go_simp
        all_goals (with_reducible rfl)
      try simp only [Act.put, List.getElem_toArray, List.getElem_cons_zero, List.getElem_cons_succ, List.setIfInBounds_toArray, List.set_cons_zero, List.set_cons_succ]
      refine wpAnyH_take (i := 3) (v := ?_) rfl (by kernel_rfl) (by kernel_rfl) (by kernel_rfl) (fun _ _ _ h => h) (Or.inl ⟨by rfl, ?_⟩) (by assumption) ?_
      rotate_left 1
      · intro w hSw
        (try dsimp only at hSw)
        go_simp
        all_goals (with_reducible rfl)
      try simp only [Act.put, List.getElem_toArray, List.getElem_cons_zero, List.getElem_cons_succ, List.setIfInBounds_toArray, List.set_cons_zero, List.set_cons_succ]
      refine wpAnyH_take (i := 4) (v := ?_) rfl (by kernel_rfl) (by kernel_rfl) (by kernel_rfl) (fun _ _ _ h => h) (Or.inl ⟨by rfl, ?_⟩) (by assumption) ?_
      rotate_left 1
      · intro w hSw
        (try dsimp only at hSw)
        go_simp
        all_goals (with_reducible rfl)
      try simp only [Act.put, List.getElem_toArray, List.getElem_cons_zero, List.getElem_cons_succ, List.setIfInBounds_toArray, List.set_cons_zero, List.set_cons_succ]
      refine wpAnyH_take (i := 5) (v := ?_) rfl (by kernel_rfl) (by kernel_rfl) (by kernel_rfl) (fun _ _ _ h => h) (Or.inl ⟨by rfl, ?_⟩) (by assumption) ?_
      rotate_left 1
      · intro w hSw
        (try dsimp only at hSw)
        go_simp
        all_goals (with_reducible rfl)
      try simp only [Act.put, List.getElem_toArray, List.getElem_cons_zero, List.getElem_cons_succ, List.setIfInBounds_toArray, List.set_cons_zero, List.set_cons_succ]
      refine wpAnyH_take (i := 6) (v := ?_) rfl (by kernel_rfl) (by kernel_rfl) (by kernel_rfl) (fun _ _ _ h => h) (Or.inl ⟨by rfl, ?_⟩) (by assumption) ?_
      rotate_left 1
      · intro w hSw
        (try dsimp only at hSw)
        go_simp
        all_goals (with_reducible rfl)
      try simp only [Act.put, List.getElem_toArray, List.getElem_cons_zero, List.getElem_cons_succ, List.setIfInBounds_toArray, List.set_cons_zero, List.set_cons_succ]
      refine wpAnyH_take (i := 7) (v := ?_) rfl (by kernel_rfl) (by kernel_rfl) (by kernel_rfl) (fun _ _ _ h => h) (Or.inl ⟨by rfl, ?_⟩) (by assumption) ?_
      rotate_left 1
      · intro w hSw
        (try dsimp only at hSw)
        go_simp
        all_goals (with_reducible rfl)
      try simp only [Act.put, List.getElem_toArray, List.getElem_cons_zero, List.getElem_cons_succ, List.setIfInBounds_toArray, List.set_cons_zero, List.set_cons_succ]
      refine wpAnyH_take (i := 8) (v := ?_) rfl (by kernel_rfl) (by kernel_rfl) (by kernel_rfl) (fun _ _ _ h => h) (Or.inl ⟨by rfl, ?_⟩) (by assumption) ?_
      rotate_left 1
      · intro w hSw
        (try dsimp only at hSw)
        go_simp
        all_goals (with_reducible rfl)
      try simp only [Act.put, List.getElem_toArray, List.getElem_cons_zero, List.getElem_cons_succ, List.setIfInBounds_toArray, List.set_cons_zero, List.set_cons_succ]
      refine wpAnyH_take (i := 9) (v := ?_) rfl (by kernel_rfl) (by kernel_rfl) (by kernel_rfl) (fun _ _ _ h => h) (Or.inl ⟨by rfl, ?_⟩) (by assumption) ?_
      rotate_left 1
      · intro w hSw
        (try dsimp only at hSw)
        go_simp
        all_goals (with_reducible rfl)
      try simp only [Act.put, List.getElem_toArray, List.getElem_cons_zero, List.getElem_cons_succ, List.setIfInBounds_toArray, List.set_cons_zero, List.set_cons_succ]
      refine wpAnyH_take (i := 10) (v := ?_) rfl (by kernel_rfl) (by kernel_rfl) (by kernel_rfl) (fun _ _ _ h => h) (Or.inl ⟨by rfl, ?_⟩) (by assumption) ?_
      rotate_left 1
      · intro w hSw
        (try dsimp only at hSw)
        go_simp
        all_goals (with_reducible rfl)
      try simp only [Act.put, List.getElem_toArray, List.getElem_cons_zero, List.getElem_cons_succ, List.setIfInBounds_toArray, List.set_cons_zero, List.set_cons_succ]
      refine wpAnyH_take (i := 11) (v := ?_) rfl (by kernel_rfl) (by kernel_rfl) (by kernel_rfl) (fun _ _ _ h => h) (Or.inl ⟨by rfl, ?_⟩) (by assumption) ?_
      rotate_left 1
      · intro w hSw
        (try dsimp only at hSw)
        go_simp
        all_goals (with_reducible rfl)
      try simp only [Act.put, List.getElem_toArray, List.getElem_cons_zero, List.getElem_cons_succ, List.setIfInBounds_toArray, List.set_cons_zero, List.set_cons_succ]
      refine wpAnyH_take (i := 12) (v := ?_) rfl (by kernel_rfl) (by kernel_rfl) (by kernel_rfl) (fun _ _ _ h => h) (Or.inl ⟨by rfl, ?_⟩) (by assumption) ?_
      rotate_left 1
      · intro w hSw
        (try dsimp only at hSw)
        go_simp
        all_goals (with_reducible rfl)
      try simp only [Act.put, List.getElem_toArray, List.getElem_cons_zero, List.getElem_cons_succ, List.setIfInBounds_toArray, List.set_cons_zero, List.set_cons_succ]
      refine wpAnyH_take (i := 13) (v := ?_) rfl (by kernel_rfl) (by kernel_rfl) (by kernel_rfl) (fun _ _ _ h => h) (Or.inl ⟨by rfl, ?_⟩) (by assumption) ?_
      rotate_left 1
      · intro w hSw
        (try dsimp only at hSw)
        go_simp
        all_goals (with_reducible rfl)
      try simp only [Act.put, List.getElem_toArray, List.getElem_cons_zero, List.getElem_cons_succ, List.setIfInBounds_toArray, List.set_cons_zero, List.set_cons_succ]
      refine wpAnyH_take (i := 14) (v := ?_) rfl (by kernel_rfl) (by kernel_rfl) (by kernel_rfl) (fun _ _ _ h => h) (Or.inl ⟨by rfl, ?_⟩) (by assumption) ?_
      rotate_left 1
      · intro w hSw
        (try dsimp only at hSw)
        go_simp
        all_goals (with_reducible rfl)
      try simp only [Act.put, List.getElem_toArray, List.getElem_cons_zero, List.getElem_cons_succ, List.setIfInBounds_toArray, List.set_cons_zero, List.set_cons_succ]
      refine wpAnyH_take (i := 15) (v := ?_) rfl (by kernel_rfl) (by kernel_rfl) (by kernel_rfl) (fun _ _ _ h => h) (Or.inl ⟨by rfl, ?_⟩) (by assumption) ?_
      rotate_left 1
      · intro w hSw
        (try dsimp only at hSw)
        go_simp
        all_goals (with_reducible rfl)
      try simp only [Act.put, List.getElem_toArray, List.getElem_cons_zero, List.getElem_cons_succ, List.setIfInBounds_toArray, List.set_cons_zero, List.set_cons_succ]
      refine wpAnyH_take (i := 16) (v := ?_) rfl (by kernel_rfl) (by kernel_rfl) (by kernel_rfl) (fun _ _ _ h => h) (Or.inl ⟨by rfl, ?_⟩) (by assumption) ?_
      rotate_left 1
      · intro w hSw
        (try dsimp only at hSw)
        go_simp
        all_goals (with_reducible rfl)
      try simp only [Act.put, List.getElem_toArray, List.getElem_cons_zero, List.getElem_cons_succ, List.setIfInBounds_toArray, List.set_cons_zero, List.set_cons_succ]
      refine wpAnyH_take (i := 17) (v := ?_) rfl (by kernel_rfl) (by kernel_rfl) (by kernel_rfl) (fun _ _ _ h => h) (Or.inl ⟨by rfl, ?_⟩) (by assumption) ?_
      rotate_left 1
      · intro w hSw
        (try dsimp only at hSw)
        go_simp
        all_goals (with_reducible rfl)
      try simp only [Act.put, List.getElem_toArray, List.getElem_cons_zero, List.getElem_cons_succ, List.setIfInBounds_toArray, List.set_cons_zero, List.set_cons_succ]
      refine wpAnyH_take (i := 18) (v := ?_) rfl (by kernel_rfl) (by kernel_rfl) (by kernel_rfl) (fun _ _ _ h => h) (Or.inl ⟨by rfl, ?_⟩) (by assumption) ?_
      rotate_left 1
      · intro w hSw
        (try dsimp only at hSw)
        go_simp
        all_goals (with_reducible rfl)
      try simp only [Act.put, List.getElem_toArray, List.getElem_cons_zero, List.getElem_cons_succ, List.setIfInBounds_toArray, List.set_cons_zero, List.set_cons_succ]
      refine wpAnyH_take (i := 19) (v := ?_) rfl (by kernel_rfl) (by kernel_rfl) (by kernel_rfl) (fun _ _ _ h => h) (Or.inl ⟨by rfl, ?_⟩) (by assumption) ?_
      rotate_left 1
      · intro w hSw
        (try dsimp only at hSw)
        go_simp
        all_goals (with_reducible rfl)
      try simp only [Act.put, List.getElem_toArray, List.getElem_cons_zero, List.getElem_cons_succ, List.setIfInBounds_toArray, List.set_cons_zero, List.set_cons_succ]
      refine wpAnyH_take (i := 20) (v := ?_) rfl (by kernel_rfl) (by kernel_rfl) (by kernel_rfl) (fun _ _ _ h => h) (Or.inl ⟨by rfl, ?_⟩) (by assumption) ?_
      rotate_left 1
      · intro w hSw
        (try dsimp only at hSw)
        go_simp
        all_goals (with_reducible rfl)
      try simp only [Act.put, List.getElem_toArray, List.getElem_cons_zero, List.getElem_cons_succ, List.setIfInBounds_toArray, List.set_cons_zero, List.set_cons_succ]
      refine wpAnyH_take (i := 21) (v := ?_) rfl (by kernel_rfl) (by kernel_rfl) (by kernel_rfl) (fun _ _ _ h => h) (Or.inl ⟨by rfl, ?_⟩) (by assumption) ?_
      rotate_left 1
      · intro w hSw
        (try dsimp only at hSw)
        go_simp
        all_goals (with_reducible rfl)
      try simp only [Act.put, List.getElem_toArray, List.getElem_cons_zero, List.getElem_cons_succ, List.setIfInBounds_toArray, List.set_cons_zero, List.set_cons_succ]
      refine wpAnyH_take (i := 22) (v := ?_) rfl (by kernel_rfl) (by kernel_rfl) (by kernel_rfl) (fun _ _ _ h => h) (Or.inl ⟨by rfl, ?_⟩) (by assumption) ?_
      rotate_left 1
      · intro w hSw
        (try dsimp only at hSw)
        go_simp
        all_goals (with_reducible rfl)
      try simp only [Act.put, List.getElem_toArray, List.getElem_cons_zero, List.getElem_cons_succ, List.setIfInBounds_toArray, List.set_cons_zero, List.set_cons_succ]
      refine wpAnyH_take (i := 23) (v := ?_) rfl (by kernel_rfl) (by kernel_rfl) (by kernel_rfl) (fun _ _ _ h => h) (Or.inl ⟨by rfl, ?_⟩) (by assumption) ?_
      rotate_left 1
      · intro w hSw
        (try dsimp only at hSw)
        go_simp
        all_goals (with_reducible rfl)
      try simp only [Act.put, List.getElem_toArray, List.getElem_cons_zero, List.getElem_cons_succ, List.setIfInBounds_toArray, List.set_cons_zero, List.set_cons_succ]
      refine wpAnyH_take (i := 24) (v := ?_) rfl (by kernel_rfl) (by kernel_rfl) (by kernel_rfl) (fun _ _ _ h => h) (Or.inl ⟨by rfl, ?_⟩) (by assumption) ?_
      rotate_left 1
      · intro w hSw
        (try dsimp only at hSw)
        go_simp
        all_goals (with_reducible rfl)
      try simp only [Act.put, List.getElem_toArray, List.getElem_cons_zero, List.getElem_cons_succ, List.setIfInBounds_toArray, List.set_cons_zero, List.set_cons_succ]
      refine wpAnyH_take (i := 25) (v := ?_) rfl (by kernel_rfl) (by kernel_rfl) (by kernel_rfl) (fun _ _ _ h => h) (Or.inl ⟨by rfl, ?_⟩) (by assumption) ?_
      rotate_left 1
      · intro w hSw
        (try dsimp only at hSw)
        go_simp
        all_goals (with_reducible rfl)
      try simp only [Act.put, List.getElem_toArray, List.getElem_cons_zero, List.getElem_cons_succ, List.setIfInBounds_toArray, List.set_cons_zero, List.set_cons_succ]
      refine wpAnyH_take (i := 26) (v := ?_) rfl (by kernel_rfl) (by kernel_rfl) (by kernel_rfl) (fun _ _ _ h => h) (Or.inl ⟨by rfl, ?_⟩) (by assumption) ?_
      rotate_left 1
      · intro w hSw
        (try dsimp only at hSw)
        go_simp
        all_goals (with_reducible rfl)
      try simp only [Act.put, List.getElem_toArray, List.getElem_cons_zero, List.getElem_cons_succ, List.setIfInBounds_toArray, List.set_cons_zero, List.set_cons_succ]
      refine wpAnyH_take (i := 27) (v := ?_) rfl (by kernel_rfl) (by kernel_rfl) (by kernel_rfl) (fun _ _ _ h => h) (Or.inl ⟨by rfl, ?_⟩) (by assumption) ?_
      rotate_left 1
      · intro w hSw
        (try dsimp only at hSw)
        go_simp
        all_goals (with_reducible rfl)
      try simp only [Act.put, List.getElem_toArray, List.getElem_cons_zero, List.getElem_cons_succ, List.setIfInBounds_toArray, List.set_cons_zero, List.set_cons_succ]
      refine wpAnyH_take (i := 28) (v := ?_) rfl (by kernel_rfl) (by kernel_rfl) (by kernel_rfl) (fun _ _ _ h => h) (Or.inl ⟨by rfl, ?_⟩) (by assumption) ?_
      rotate_left 1
      · intro w hSw
        (try dsimp only at hSw)
        go_simp
        all_goals (with_reducible rfl)
      try simp only [Act.put, List.getElem_toArray, List.getElem_cons_zero, List.getElem_cons_succ, List.setIfInBounds_toArray, List.set_cons_zero, List.set_cons_succ]
      refine wpAnyH_take (i := 29) (v := ?_) rfl (by kernel_rfl) (by kernel_rfl) (by kernel_rfl) (fun _ _ _ h => h) (Or.inl ⟨by rfl, ?_⟩) (by assumption) ?_
      rotate_left 1
      · intro w hSw
        (try dsimp only at hSw)
        go_simp
        all_goals (with_reducible rfl)
      try simp only [Act.put, List.getElem_toArray, List.getElem_cons_zero, List.getElem_cons_succ, List.setIfInBounds_toArray, List.set_cons_zero, List.set_cons_succ]
      refine wpAnyH_take (i := 30) (v := ?_) rfl (by kernel_rfl) (by kernel_rfl) (by kernel_rfl) (fun _ _ _ h => h) (Or.inl ⟨by rfl, ?_⟩) (by assumption) ?_
      rotate_left 1
      · intro w hSw
        (try dsimp only at hSw)
        go_simp
        all_goals (with_reducible rfl)
      try simp only [Act.put, List.getElem_toArray, List.getElem_cons_zero, List.getElem_cons_succ, List.setIfInBounds_toArray, List.set_cons_zero, List.set_cons_succ]
      refine wpAnyH_take (i := 31) (v := ?_) rfl (by kernel_rfl) (by kernel_rfl) (by kernel_rfl) (fun _ _ _ h => h) (Or.inl ⟨by rfl, ?_⟩) (by assumption) ?_
      rotate_left 1
      · intro w hSw
        (try dsimp only at hSw)
        go_simp
        all_goals (with_reducible rfl)
      try simp only [Act.put, List.getElem_toArray, List.getElem_cons_zero, List.getElem_cons_succ, List.setIfInBounds_toArray, List.set_cons_zero, List.set_cons_succ]
      refine wpAnyH_take (i := 32) (v := ?_) rfl (by kernel_rfl) (by kernel_rfl) (by kernel_rfl) (fun _ _ _ h => h) (Or.inl ⟨by rfl, ?_⟩) (by assumption) ?_
      rotate_left 1
      · intro w hSw
        (try dsimp only at hSw)
        go_simp
        all_goals (with_reducible rfl)
      try simp only [Act.put, List.getElem_toArray, List.getElem_cons_zero, List.getElem_cons_succ, List.setIfInBounds_toArray, List.set_cons_zero, List.set_cons_succ]
      refine wpAnyH_take (i := 33) (v := ?_) rfl (by kernel_rfl) (by kernel_rfl) (by kernel_rfl) (fun _ _ _ h => h) (Or.inl ⟨by rfl, ?_⟩) (by assumption) ?_
      rotate_left 1
      · intro w hSw
        (try dsimp only at hSw)
        go_simp
        all_goals (with_reducible rfl)
      try simp only [Act.put, List.getElem_toArray, List.getElem_cons_zero, List.getElem_cons_succ, List.setIfInBounds_toArray, List.set_cons_zero, List.set_cons_succ]
      refine wpAnyH_take (i := 34) (v := ?_) rfl (by kernel_rfl) (by kernel_rfl) (by kernel_rfl) (fun _ _ _ h => h) (Or.inl ⟨by rfl, ?_⟩) (by assumption) ?_
      rotate_left 1
      · intro w hSw
        (try dsimp only at hSw)
        go_simp
        all_goals (with_reducible rfl)
      try simp only [Act.put, List.getElem_toArray, List.getElem_cons_zero, List.getElem_cons_succ, List.setIfInBounds_toArray, List.set_cons_zero, List.set_cons_succ]
      refine wpAnyH_take (i := 35) (v := ?_) rfl (by kernel_rfl) (by kernel_rfl) (by kernel_rfl) (fun _ _ _ h => h) (Or.inl ⟨by rfl, ?_⟩) (by assumption) ?_
      rotate_left 1
      · intro w hSw
        (try dsimp only at hSw)
        go_simp
        all_goals (with_reducible rfl)
      try simp only [Act.put, List.getElem_toArray, List.getElem_cons_zero, List.getElem_cons_succ, List.setIfInBounds_toArray, List.set_cons_zero, List.set_cons_succ]
      refine wpAnyH_take (i := 36) (v := ?_) rfl (by kernel_rfl) (by kernel_rfl) (by kernel_rfl) (fun _ _ _ h => h) (Or.inl ⟨by rfl, ?_⟩) (by assumption) ?_
      rotate_left 1
      · intro w hSw
        (try dsimp only at hSw)
        go_simp
        all_goals (with_reducible rfl)
      try simp only [Act.put, List.getElem_toArray, List.getElem_cons_zero, List.getElem_cons_succ, List.setIfInBounds_toArray, List.set_cons_zero, List.set_cons_succ]
      refine wpAnyH_take (i := 37) (v := ?_) rfl (by kernel_rfl) (by kernel_rfl) (by kernel_rfl) (fun _ _ _ h => h) (Or.inl ⟨by rfl, ?_⟩) (by assumption) ?_
      rotate_left 1
      · intro w hSw
        (try dsimp only at hSw)
        go_simp
        all_goals (with_reducible rfl)
      try simp only [Act.put, List.getElem_toArray, List.getElem_cons_zero, List.getElem_cons_succ, List.setIfInBounds_toArray, List.set_cons_zero, List.set_cons_succ]
      refine wpAnyH_take (i := 38) (v := ?_) rfl (by kernel_rfl) (by kernel_rfl) (by kernel_rfl) (fun _ _ _ h => h) (Or.inl ⟨by rfl, ?_⟩) (by assumption) ?_
      rotate_left 1
      · intro w hSw
        (try dsimp only at hSw)
        go_simp
        all_goals (with_reducible rfl)
      try simp only [Act.put, List.getElem_toArray, List.getElem_cons_zero, List.getElem_cons_succ, List.setIfInBounds_toArray, List.set_cons_zero, List.set_cons_succ]
      refine wpAnyH_take (i := 39) (v := ?_) rfl (by kernel_rfl) (by kernel_rfl) (by kernel_rfl) (fun _ _ _ h => h) (Or.inl ⟨by rfl, ?_⟩) (by assumption) ?_
      rotate_left 1
      · intro w hSw
        (try dsimp only at hSw)
        go_simp
        all_goals (with_reducible rfl)
      try simp only [Act.put, List.getElem_toArray, List.getElem_cons_zero, List.getElem_cons_succ, List.setIfInBounds_toArray, List.set_cons_zero, List.set_cons_succ]
      refine wpAnyH_take (i := 40) (v := ?_) rfl (by kernel_rfl) (by kernel_rfl) (by kernel_rfl) (fun _ _ _ h => h) (Or.inl ⟨by rfl, ?_⟩) (by assumption) ?_
      rotate_left 1
      · intro w hSw
        (try dsimp only at hSw)
        go_simp
        all_goals (with_reducible rfl)
      try simp only [Act.put, List.getElem_toArray, List.getElem_cons_zero, List.getElem_cons_succ, List.setIfInBounds_toArray, List.set_cons_zero, List.set_cons_succ]
      refine wpAnyH_take (i := 41) (v := ?_) rfl (by kernel_rfl) (by kernel_rfl) (by kernel_rfl) (fun _ _ _ h => h) (Or.inl ⟨by rfl, ?_⟩) (by assumption) ?_
      rotate_left 1
      · intro w hSw
        (try dsimp only at hSw)
        go_simp
        all_goals (with_reducible rfl)
      try simp only [Act.put, List.getElem_toArray, List.getElem_cons_zero, List.getElem_cons_succ, List.setIfInBounds_toArray, List.set_cons_zero, List.set_cons_succ]
      refine wpAnyH_take (i := 42) (v := ?_) rfl (by kernel_rfl) (by kernel_rfl) (by kernel_rfl) (fun _ _ _ h => h) (Or.inl ⟨by rfl, ?_⟩) (by assumption) ?_
      rotate_left 1
      · intro w hSw
        (try dsimp only at hSw)
        go_simp
        all_goals (with_reducible rfl)
      try simp only [Act.put, List.getElem_toArray, List.getElem_cons_zero, List.getElem_cons_succ, List.setIfInBounds_toArray, List.set_cons_zero, List.set_cons_succ]
      refine wpAnyH_take (i := 43) (v := ?_) rfl (by kernel_rfl) (by kernel_rfl) (by kernel_rfl) (fun _ _ _ h => h) (Or.inl ⟨by rfl, ?_⟩) (by assumption) ?_
      rotate_left 1
      · intro w hSw
        (try dsimp only at hSw)
        go_simp
        all_goals (with_reducible rfl)
      try simp only [Act.put, List.getElem_toArray, List.getElem_cons_zero, List.getElem_cons_succ, List.setIfInBounds_toArray, List.set_cons_zero, List.set_cons_succ]
      refine wpAnyH_take (i := 46) (v := ?_) rfl (by kernel_rfl) (by kernel_rfl) (by kernel_rfl) (fun _ _ _ h => h) (Or.inl ⟨by rfl, ?_⟩) (by assumption) ?_
      rotate_left 1
      · intro w hSw
        (try dsimp only at hSw)
        go_simp
        all_goals (with_reducible rfl)
      try simp only [Act.put, List.getElem_toArray, List.getElem_cons_zero, List.getElem_cons_succ, List.setIfInBounds_toArray, List.set_cons_zero, List.set_cons_succ]
      refine wpAnyH_take (i := 47) (v := ?_) rfl (by kernel_rfl) (by kernel_rfl) (by kernel_rfl) (fun _ _ _ h => h) (Or.inl ⟨by rfl, ?_⟩) (by assumption) ?_
      rotate_left 1
      · intro w hSw
        (try dsimp only at hSw)
        go_simp
        all_goals (with_reducible rfl)
      try simp only [Act.put, List.getElem_toArray, List.getElem_cons_zero, List.getElem_cons_succ, List.setIfInBounds_toArray, List.set_cons_zero, List.set_cons_succ]
      refine wpAnyH_ready (rs := [44]) (by kernel_rfl) (by simp) ?_
      refine AllReadyH.cons rfl (fun K hK => ?_) AllReadyH.nil
      go_simp
      refine (HKY.out _ HW0.out).mono ?_
      rintro e q1 ⟨kv, rfl, hown, hb⟩
      have HQ1 := Lib.hid (HQ0.out.trans (hb.mono HQ0.out.size))
      have HW1 := Lib.hid (HW0.out.trans (hb.mono HW0.out.size))
      have HP1 := Lib.hid (show Q.IsP q1 kv s.idx from Q.IsP.own hown rfl)
      clear hown hb
      refine hK.out _ _ (HS8.out _ HQ1.out) (fun hHeld => ?_)
      clear hK K
      try simp only [Act.put, List.getElem_toArray, List.getElem_cons_zero, List.getElem_cons_succ, List.setIfInBounds_toArray, List.set_cons_zero, List.set_cons_succ]
      refine wpAnyH_ready (rs := [45]) (by kernel_rfl) (by simp) ?_
      refine AllReadyH.cons rfl (fun K hK => ?_) AllReadyH.nil
      go_simp
      refine (Q.to5_any kv s.idx _ HP1.out (by rw [HI.out]; omega)).mono ?_
      rintro e q2 ⟨kw, rfl, hown, hb⟩
      have HQ2 := Lib.hid (HQ1.out.trans (hb.mono HQ1.out.size))
      have HW2 := Lib.hid (HW1.out.trans (hb.mono HW1.out.size))
      have HP2 := Lib.hid (show Q.IsP q2 kw s.idx from Q.IsP.own hown rfl)
      clear hown hb
      refine hK.out _ _ (HS8.out _ HQ2.out) (fun hHeld => ?_)
      clear hK K
      try simp only [Act.put, List.getElem_toArray, List.getElem_cons_zero, List.getElem_cons_succ, List.setIfInBounds_toArray, List.set_cons_zero, List.set_cons_succ]
      refine wpAnyH_ready (rs := [48]) (by kernel_rfl) (by simp) ?_
      refine AllReadyH.cons rfl (fun K hK => ?_) AllReadyH.nil
      go_simp
      refine (Q.same5_yes kw _ s.idx _ HP2.out (HD.out.l.mono HW2.out (Nat.le_refl _)) (by rw [HI.out]; omega)).mono ?_
      rintro e q3 ⟨rfl, n, rfl⟩
      have HQ3 := Lib.hid (below_drawn9 HQ2.out n)
      have HW3 := Lib.hid (below_drawn9 HW2.out n)
      refine hK.out _ _ (HS8.out _ HQ3.out) (fun hHeld => ?_)
      clear hK K
      try simp only [Act.put, List.getElem_toArray, List.getElem_cons_zero, List.getElem_cons_succ, List.setIfInBounds_toArray, List.set_cons_zero, List.set_cons_succ]
      refine wpAnyH_take (i := 49) (v := ?_) rfl (by kernel_rfl) (by kernel_rfl) (by kernel_rfl) (fun _ _ _ h => h) (Or.inl ⟨by rfl, ?_⟩) (by assumption) ?_
      rotate_left 1
      · intro w hSw
        (try dsimp only at hSw)
        go_simp
        all_goals (with_reducible rfl)
      try simp only [Act.put, List.getElem_toArray, List.getElem_cons_zero, List.getElem_cons_succ, List.setIfInBounds_toArray, List.set_cons_zero, List.set_cons_succ]
      refine wpAnyH_take (i := 50) (v := ?_) rfl (by kernel_rfl) (by kernel_rfl) (by kernel_rfl) (fun _ _ _ h => h) (Or.inl ⟨by rfl, ?_⟩) (by assumption) ?_
      rotate_left 1
      · intro w hSw
        (try dsimp only at hSw)
        go_simp
        all_goals (with_reducible rfl)
      try simp only [Act.put, List.getElem_toArray, List.getElem_cons_zero, List.getElem_cons_succ, List.setIfInBounds_toArray, List.set_cons_zero, List.set_cons_succ]
      refine wpAnyH_done (by kernel_rfl) ?_ _
      go_wp2
      go_ret
      exact ⟨rfl, HW3.out⟩

end Go.Proofs.YtoblbipkkdiddaaGreatDoor
end

section
namespace Go.Proofs.YtoblbipkkdiddaaGreatDoor
open Go.RowKit Go.Cor

theorem Tryz.infoNdA : (Tryz.prog.info? 48).map (fun i => (i.zero, i.size, i.bytes)) = some (some (.agg #[.int .u64 0, .int .u32 0, .bool false, .slice none 0 0]), 4, 40) := by kernel_rfl
/-- What is carried along the law's loop. -/
structure ShL (w w4 wr : World) (g p : Nat) (S : Nat → Prop) (d : Dsk) (k : Nat) (s : Vst) (B : Nat) (vs : Value) (ps : List (Ndl × Value)) (i j : Nat) (sm : Vst) (done er : Nat) (lv dv : Value) (qs : List (Ndl × Value)) : Prop where
  bel : Below w4.heap.size w4 wr
  box : Blk wr B #[.int .i64 (sm.num : Int), .int .i64 (sm.most : Int), .int .i64 (sm.epoch : Int), .int .i64 (sm.size : Int), .bool sm.shut, lv, dv] 30
  doc : DocP wr (fun b => S b ∨ b = B ∨ vs.ownBlock = some b) sm lv dv qs
  vrow : wr.ownsRow w4.heap.size 48 4 vs j (row ncl (ps.take j))
  apart : vs.ownBlock ≠ some B
  laid : s.lays ((ps.take i).map (·.1)) = (sm, done, er)
  small : ∀ x ∈ ps.take j, x.1.data.length ≤ 5000

theorem take_next {α : Type} {l : List α} {i : Nat} {x : α} (h : l[i]? = some x) : l.take (i + 1) = l.take i ++ [x] := by
  obtain ⟨h1, h2⟩ := List.getElem?_eq_some_iff.1 h
  rw [List.take_succ_eq_append_getElem h1, h2]
theorem ShL.app {w w4 wo w5 : World} {g p : Nat} {S : Nat → Prop} {d : Dsk} {k : Nat} {s : Vst} {B : Nat} {vs v5 : Value} {ps : List (Ndl × Value)} {i : Nat} {sm : Vst} {done er : Nat} {lv dv : Value} {qs : List (Ndl × Value)} (h : ShL w w4 wo g p S d k s B vs ps i i sm done er lv dv qs) {x : Ndl × Value} (hx : ps[i]? = some x) (hxd : x.1.data.length ≤ 5000) (hB : w4.heap.size ≤ B) (o : Obj)
    (hown : w5.ownsRow w4.heap.size 48 4 v5 (i + 1) (row ncl (ps.take i) ++ ncl x)) (hgr : (wo.alloc o).grownBy w5 vs.ownBlock) (hat : v5.ownBlock = vs.ownBlock ∨ v5.ownBlock = some (wo.heap.size + 1)) : ShL w w4 w5 g p S d k s B v5 ps i (i + 1) sm done er lv dv qs := by
  have hsz : (wo.alloc o).heap.size = wo.heap.size + 1 := by simp
  have hBl := h.box.lt
  refine ⟨(h.bel.alloc h.bel.size o).grown hgr (by have := h.bel.size; omega) (fun k hk => (h.vrow.lt k hk).1), (h.box.alloc o).grown hgr h.apart, ?_, ?_, ?_, h.laid, ?_⟩
  · refine h.doc.kept ((Kept.of_below (below_alloc wo o) (Nat.le_refl _)).grown hgr (fun k hk => .inl (.inr (.inr hk)))) (fun b hb => ?_)
    rcases hb with hb | hb | hb
    · exact .inl (.inl hb)
    · exact .inl (.inr (.inl hb))
    · rcases hat with e | e
      · exact .inl (.inr (.inr (e ▸ hb)))
      · rw [e] at hb
        simp only [Option.some.injEq] at hb
        exact .inr (by omega)
  · rw [take_next hx, row_append, row_one]
    exact hown
  · rcases hat with e | e
    · rw [e]; exact h.apart
    · rw [e]
      intro e2
      simp only [Option.some.injEq] at e2
      omega
  · intro y hy
    rw [take_next hx] at hy
    rcases List.mem_append.1 hy with hy | hy
    · exact h.small y hy
    · rw [List.mem_singleton.1 hy]; exact hxd
theorem ShL.bad {w w4 wo : World} {g p : Nat} {S : Nat → Prop} {d : Dsk} {k : Nat} {s : Vst} {B : Nat} {vs : Value} {ps : List (Ndl × Value)} {i : Nat} {sm : Vst} {done er : Nat} {lv dv : Value} {qs : List (Ndl × Value)} (h : ShL w w4 wo g p S d k s B vs ps i (i + 1) sm done er lv dv qs) {x : Ndl × Value} (hx : ps[i]? = some x) (he : er ≠ 0) : ShL w w4 wo g p S d k s B vs ps (i + 1) (i + 1) sm done er lv dv qs := by
  refine ⟨h.bel, h.box, h.doc, h.vrow, h.apart, ?_, h.small⟩
  rw [take_next hx, List.map_append]
  show s.lays (_ ++ [x.1]) = _
  rw [lays_snoc, h.laid]
  exact if_pos he
theorem ShL.ok {w w4 w5 w6 : World} {g p : Nat} {S : Nat → Prop} {d : Dsk} {k : Nat} {s : Vst} {B : Nat} {vs : Value} {ps : List (Ndl × Value)} {i : Nat} {sm : Vst} {done : Nat} {lv dv lv2 dv2 : Value} {qs qs2 : List (Ndl × Value)} (h : ShL w w4 w5 g p S d k s B vs ps i (i + 1) sm done 0 lv dv qs) {x : Ndl × Value} (hx : ps[i]? = some x) (hB : w4.heap.size ≤ B)
    (hd : DocP w6 (fun b => S b ∨ b = B ∨ vs.ownBlock = some b) (sm.lay x.1).1 lv2 dv2 qs2) (hb : Below w5.heap.size w5 w6) {s1 : Vst} {q : Nat} (hs1 : (sm.lay x.1).1 = s1) (hq : (sm.lay x.1).2 = q) :
    ShL w w4 (set7 w6 B (.int .i64 (s1.num : Int)) (.int .i64 (s1.most : Int)) (.int .i64 (s1.epoch : Int)) (.int .i64 (s1.size : Int)) (.bool s1.shut) lv2 dv2) g p S d k s B vs ps (i + 1) (i + 1) s1 (done + (if q = 0 then 1 else 0)) q lv2 dv2 qs2 := by
  subst hs1 hq
  have hk7 := kept_set7' w6 B (.int .i64 ((sm.lay x.1).1.num : Int)) (.int .i64 ((sm.lay x.1).1.most : Int)) (.int .i64 ((sm.lay x.1).1.epoch : Int)) (.int .i64 ((sm.lay x.1).1.size : Int)) (.bool (sm.lay x.1).1.shut) lv2 dv2
  refine ⟨below_set7 (h.bel.trans (hb.mono h.bel.size)) hB, blk_set7 (h.box.below hb h.box.lt) _ _ _ _ _ _ _, hd.kept (hk7.mono (fun j _ e => .inr (.inl e))) (fun b hb => .inl hb), ?_, h.apart, ?_, h.small⟩
  · exact ownsRow_kept (ownsRow_below h.vrow hb (Nat.le_refl _)) hk7 (fun k e e2 => h.apart (e2 ▸ e))
  · rw [take_next hx, List.map_append]
    show s.lays (_ ++ [x.1]) = _
    rw [lays_snoc, h.laid]
    exact if_neg (by simp)

set_option maxRecDepth 100000 in
set_option maxHeartbeats 4000000 in
theorem shipLays_all (v : Value) (l : List A9v) (nv : Value) (ps : List (Ndl × Value)) (most : Nat) (w : World) (h : IsA w v l) (hf : ∀ x ∈ l, x.1.n.fits) (hn : IsN w nv ps) (hnf : ∀ x ∈ ps, x.1.fits) (hmost : most < 65536) :
    Calls Tryz.prog 4 #[v, nv, .int .u16 (most : Int)] w fun e w' => e = .returned (.bool true) ∧ Below w.heap.size w w' := by
  have HA := Lib.hid (alive13 w)
  have hlen := fun W => len_X (P := Tryz.prog) hn.1 28 3 _ Tryz.underlying28 W
  obtain ⟨AN, hAN⟩ : ∃ AN, ps.length = AN := ⟨_, rfl⟩
  rw [hAN] at hlen
  have HH := Lib.hid h
  have HF := Lib.hid hf
  have HN := Lib.hid hn
  have HNF := Lib.hid hnf
  have HAN := Lib.hid hAN
  have HFA := Lib.hid (fun wx (hb : Below w.heap.size w wx) => far_w v l wx (HH.out.mono hb (Nat.le_refl _)))
  cases hr : farA (l.map (·.1)) with
  | true =>
    rw [hr] at HFA
    clear hr h hf hn hnf hAN
    go_enter Tryz.func4, Tryz.ntmps4
    go_wp2_with fail
    refine HA.out.mono ?_
    rintro e w1 ⟨rfl, hb⟩
    have HB := Lib.hid hb
    clear hb
    go_wp2_with fail
    refine (HFA.out _ HB.out).mono ?_
    rintro e w2 ⟨rfl, rfl⟩
    go_wp2
    go_ret
    exact ⟨rfl, HB.out⟩
  | false =>
    have HM := Lib.hid (fun wx (hb : Below w.heap.size w wx) => made_any 1 (16 + most) (by decide) (by decide) (by omega) (by omega) v l wx (HH.out.mono hb (Nat.le_refl _)) (far_few hr).1 (far_few hr).2 HF.out)
    have HL60 := Lib.hid (far_few hr).1
    rw [hr] at HFA
    clear hr h hf hn hnf hAN
    by_cases h40 : 40 < AN
    · have g1 : decide ((40 : Int) < (AN : Int)) = true := decide_eq_true (by omega)
      have g2 : (40 : Int) < (AN : Int) := by omega
      go_enter Tryz.func4, Tryz.ntmps4
      go_wp2_with fail
      refine HA.out.mono ?_
      rintro e w1 ⟨rfl, hb⟩
      have HB := Lib.hid hb
      clear hb
      go_wp2_with fail
      refine (HFA.out _ HB.out).mono ?_
      rintro e w2 ⟨rfl, rfl⟩
      go_wp2
      go_ret
      exact ⟨rfl, HB.out⟩
    · have g1 : decide ((40 : Int) < (AN : Int)) = false := decide_eq_false (by omega)
      have g2 : ¬ (40 : Int) < (AN : Int) := by omega
      have em : IntKind.i64.wrap (16 + (most : Int)) = ((16 + most : Nat) : Int) := by rw [IntWalk.i64_in _ (by omega)]; omega
      go_enter Tryz.func4, Tryz.ntmps4
      go_wp2_with fail
      refine HA.out.mono ?_
      rintro e w1 ⟨rfl, hb⟩
      have HB := Lib.hid hb
      clear hb
      go_wp2_with fail
      refine (HFA.out _ HB.out).mono ?_
      rintro e w1' ⟨rfl, rfl⟩
      clear g1 g2
      go_wp2_with fail
      refine (HM.out _ HB.out).mono ?_
      rintro e w2 ⟨g, p, S, d, k, s, lv, dv, qs, rfl, hr, hdoc, hb, hS, hm⟩
      obtain ⟨lx, lc, rfl, _, _⟩ := IsX.slice hdoc.l
      obtain ⟨dx, dc, rfl, _, _⟩ := IsX.slice hdoc.d.1
      obtain ⟨I, hI⟩ : ∃ I, s.idx.length = I := ⟨_, rfl⟩
      obtain ⟨N, hN⟩ : ∃ N, qs.length = N := ⟨_, rfl⟩
      rw [hI, hN]
      obtain ⟨i0, hi, hz0, hz1, hz2⟩ := info_parts Tryz.infoNdA
      have HIN := Lib.hid hi
      have HZ0 := Lib.hid hz0
      have HZ1 := Lib.hid hz1
      have HZ2 := Lib.hid hz2
      clear hi hz0 hz1 hz2
      have HM2 := Lib.hid (show s.ns.length ≤ 60 ∧ d.used = 24 + s.size ∧ d.cap = 1048576 ∧ s.size ≤ 24016 ∧ k ≤ 616 from by
        have := hm.ns; have := hm.used; have := hm.cap; have := hm.size; have := hm.few; have := HL60.out
        omega)
      have HR := Lib.hid hr
      have HSW := Lib.hid (show ∀ b, S b → w.heap.size ≤ b ∧ b < w2.heap.size from fun b h1 => ⟨Nat.le_trans HB.out.size (hS b h1), hr.vl.lt b h1⟩)
      have HB2 := Lib.hid (HB.out.trans (hb.mono HB.out.size))
      have hL0 : ShL w w2 (w2.alloc (.cells #[.int .i64 (s.num : Int), .int .i64 (s.most : Int), .int .i64 (s.epoch : Int), .int .i64 (s.size : Int), .bool s.shut, .slice lx I lc, .slice dx N dc] 30)) g p S d k s w2.heap.size (.slice none 0 0) ps 0 0 s 0 0 (.slice lx I lc) (.slice dx N dc) qs := by
        have hba := below_alloc w2 (.cells #[.int .i64 (s.num : Int), .int .i64 (s.most : Int), .int .i64 (s.epoch : Int), .int .i64 (s.size : Int), .bool s.shut, .slice lx I lc, .slice dx N dc] 30)
        refine ⟨hba, Blk.new _ _ _, ?_, World.ownsRow_nil _ _ _ _, (fun e => by cases e), rfl, fun x hx => by simp at hx⟩
        rw [← hI, ← hN]
        rw [← hI, ← hN] at hba
        refine hdoc.kept (Kept.of_below hba (Nat.le_refl _)) (fun b hb => ?_)
        rcases hb with hb | hb | hb
        · exact .inl hb
        · exact .inr (by omega)
        · cases hb
      have HL0 := Lib.hid hL0
      clear hr hdoc hb hS hm hL0 HM HFA HA HB
      go_upto_region 6 with fail
      obtain ⟨w3, hw3⟩ : ∃ w3, w2.alloc (.cells #[.int .i64 (s.num : Int), .int .i64 (s.most : Int), .int .i64 (s.epoch : Int), .int .i64 (s.size : Int), .bool s.shut, .slice lx I lc, .slice dx N dc] 30) = w3 := ⟨_, rfl⟩
      obtain ⟨B, hBq⟩ : ∃ B, w2.heap.size = B := ⟨_, rfl⟩
      rw [hw3, hBq] at HL0
      rw [hw3]
      try rw [hBq]
      have HBQ := Lib.hid hBq
      have HI := Lib.hid hI
      have HQN := Lib.hid hN
      clear hw3 hBq hI hN em
      go_wp2_with fail
      go_loopw [10, 11, 12, 13] (fun x10 x11 x12 x13 wr => ∃ (i done er : Nat) (x : Option Addr) (cp : Nat) (sm : Vst) (lv dv : Value) (qs : List (Ndl × Value)), i ≤ AN ∧ x10 = .slice x i cp ∧ x11 = .int .i64 (done : Int) ∧ x12 = .int .i64 (er : Int) ∧ x13 = .int .i64 (i : Int) ∧ Hid (ShL w w2 wr g p S d k s B (.slice x i cp) ps i i sm done er lv dv qs)) (fun _ _ _ c _ => (AN - intOf c).toNat)
      case atStart => exact ⟨0, 0, 0, none, 0, s, _, _, qs, Nat.zero_le _, rfl, rfl, rfl, rfl, HL0⟩
      case round =>
        obtain ⟨i, done, er, x, cp, sm, lv1, dv1, qs1, hiA, rfl, rfl, rfl, rfl, HO⟩ := hrel
        obtain ⟨wo, hwo⟩ : ∃ wo, wo = wr := ⟨_, rfl⟩
        subst hwo
        by_cases hi : i < AN
        · have hi1 : i < ps.length := by rw [HAN.out]; exact hi
          obtain ⟨⟨n, u⟩, hpi⟩ : ∃ q, ps[i]? = some q := ⟨_, List.getElem?_eq_getElem hi1⟩
          have hbel := HB2.out.trans (HO.out.bel.mono HB2.out.size)
          obtain ⟨b1, o1, hx1, a0, a1, a2, a3, ha⟩ := ndl_at (HN.out.mono hbel (Nat.le_refl _)) 28 47 Tryz.underlying28 Tryz.sizeNdR hpi
          have HFN := Lib.hid (HNF.out _ (List.mem_of_getElem? hpi))
          have HNV := Lib.hid (HN.out.2 _ (List.mem_of_getElem? hpi)).1
          have HBW := Lib.hid hbel
          obtain ⟨nk, nc, ng, nd⟩ := n
          dsimp only at a0 a1 a2 a3 ha HFN HNV
          obtain ⟨UL, hUL⟩ : ∃ UL, nd.length = UL := ⟨_, rfl⟩
          obtain ⟨ux, uc, hu, _, hcm⟩ := ha.at_len hUL
          subst hu
          clear ha hbel
          by_cases hD : 5000 < UL
          · have g1 : decide ((5000 : Int) < (UL : Int)) = true := decide_eq_true (by omega)
            have g2 : (5000 : Int) < (UL : Int) := by omega
            clear hUL hpi
            go_wp2
            go_ret
            exact ⟨rfl, HBW.out⟩
          · have g1 : decide ((5000 : Int) < (UL : Int)) = false := decide_eq_false (by omega)
            have g2 : ¬ (5000 : Int) < (UL : Int) := by omega
            have HPI := Lib.hid hpi
            have HUL := Lib.hid (show nd.length ≤ 5000 by omega)
            have hsz := HO.out.bel.size
            have hi40 : i < 40 := by omega
            clear hUL hpi
            go_wp2_with (at_builtin; (refine wpList_append_X (by rfl) _ _ 33 33 rfl (fun _ _ _ => rfl) w2.heap.size 48 i0 _ 4 40 Tryz.underlying33 HIN.out HZ0.out HZ1.out HZ2.out rfl (by decide) _ (row ncl (ps.take i)) i rfl (HO.out.vrow.alloc _) _ 1 _ rfl (IsX.lit wo #[.int .u64 (nk : Int), .int .u32 (nc : Int), .bool ng, .slice ux UL uc] 48 4 1 rfl (by decide)) (by intro u hu; simp only [List.mem_cons, List.not_mem_nil, or_false] at hu; rcases hu with rfl | rfl | rfl | rfl <;> rfl) (by unfold maxLen; omega) (by omega) (by simp; omega) ?_))
            intro v5 w5 hown5 hgr5 hat5
            have hM5 := HO.out.app HPI.out HUL.out (by rw [HBQ.out]; exact Nat.le_refl _) _ hown5 hgr5 hat5
            obtain ⟨x5, z5, rfl, _, _⟩ := ownsRow_slice hown5
            have HM5 := Lib.hid hM5
            have HNV5 := Lib.hid (HNV.out.mono (HB2.out.trans (hM5.bel.mono HB2.out.size)) (Nat.le_refl _))
            have e1 : IntKind.i64.wrap ((i : Int) + 1) = (i : Int) + 1 := IntWalk.i64_in _ (by omega)
            clear hown5 hgr5 hat5 hM5 a0 a1 a2 a3 hx1 g1 g2
            by_cases he : er = 0
            · subst he
              obtain ⟨lx1, lc1, rfl, _, _⟩ := IsX.slice HM5.out.doc.l
              obtain ⟨dx1, dc1, rfl, _, _⟩ := IsX.slice HM5.out.doc.d.1
              obtain ⟨I1, hI1⟩ : ∃ I, sm.idx.length = I := ⟨_, rfl⟩
              obtain ⟨N1, hN1⟩ : ∃ N, qs1.length = N := ⟨_, rfl⟩
              rw [hI1, hN1] at HM5
              have hbb := HM5.out.box
              have b0 := hbb.cell 0 rfl
              have b1' := hbb.cell 1 rfl
              have b2 := hbb.cell 2 rfl
              have b3 := hbb.cell 3 rfl
              have b4 := hbb.cell 4 rfl
              have b5 := hbb.cell 5 rfl
              have b6 := hbb.cell 6 rfl
              obtain ⟨b1, o1, hx1, a0, a1, a2, a3, _⟩ := ndl_at (HN.out.mono (HB2.out.trans (HM5.out.bel.mono HB2.out.size)) (Nat.le_refl _)) 28 47 Tryz.underlying28 Tryz.sizeNdR HPI.out
              dsimp only at a0 a1 a2 a3
              obtain ⟨q, hq⟩ : ∃ q, (sm.lay ⟨nk, nc, ng, nd⟩).2 = q := ⟨_, rfl⟩
              obtain ⟨s1, hs1⟩ : ∃ s1, (sm.lay ⟨nk, nc, ng, nd⟩).1 = s1 := ⟨_, rfl⟩
              have HLK := Lib.hid (show sm.Ok ∧ sm.ns.length < 4095 ∧ done ≤ i from by
                have hl := HM5.out.laid
                have htl : (ps.take i).length = i := by rw [List.length_take, HAN.out]; omega
                have := lays_ok ((ps.take i).map (·.1)) s HR.out.ok (fun n hn => by obtain ⟨y, hy, rfl⟩ := List.mem_map.1 hn; exact HNF.out y (List.mem_of_mem_take hy)) (by rw [List.length_map, htl]; have := HM2.out.1; omega)
                rw [hl, List.length_map, htl] at this
                have h60 := HM2.out.1
                exact ⟨this.1, by have := this.2.1; simp only at this; omega, this.2.2.1⟩)
              have HRL := Lib.hid (show Calls Tryz.prog 16 #[dval sm (.slice lx1 I1 lc1) (.slice dx1 N1 dc1), Nd.nval ⟨nk, nc, ng, nd⟩ (.slice ux UL uc)] w5.drew (DocT w5.drew (fun b => S b ∨ b = B ∨ (Value.slice x5 (i + 1) z5).ownBlock = some b) s1 q) by
                rw [← hq, ← hs1]
                have hbd := (Below.refl w5.heap.size w5).drew
                refine rlay_any ⟨nk, nc, ng, nd⟩ ux UL uc _ sm _ _ qs1 w5.drew (HM5.out.doc.below hbd) (HNV5.out.mono hbd (Nat.le_refl _)) (fun b h1 h2 => ?_) (fun b h2 => ?_) HLK.out.2.1 HLK.out.1
                · have h3 := HNV.out.lies_lt h1
                  rcases h2 with h2 | h2 | h2
                  · have := HSW.out b h2; omega
                  · have := HB2.out.size; have := HBQ.out; omega
                  · have := (HM5.out.vrow.lt b h2).1; have := HB2.out.size; omega
                · show b < w5.heap.size
                  rcases h2 with h2 | h2 | h2
                  · have := HSW.out b h2; have := HM5.out.bel.size; omega
                  · rw [h2]; exact hbb.lt
                  · exact (HM5.out.vrow.lt b h2).2)
              have HSQ := Lib.hid (show (sm.lay ⟨nk, nc, ng, nd⟩).1 = s1 ∧ (sm.lay ⟨nk, nc, ng, nd⟩).2 = q ∧ q ≤ 17 from ⟨hs1, hq, by rw [← hq]; exact lay_le sm _⟩)
              clear hq hs1 hbb
              go_upto_region 17 with fail
              have b0' : w5.drew.cell? ⟨B, 0, none⟩ = _ := b0
              have b1'' : w5.drew.cell? ⟨B, 1, none⟩ = _ := b1'
              have b2' : w5.drew.cell? ⟨B, 2, none⟩ = _ := b2
              have b3' : w5.drew.cell? ⟨B, 3, none⟩ = _ := b3
              have b4' : w5.drew.cell? ⟨B, 4, none⟩ = _ := b4
              have b5' : w5.drew.cell? ⟨B, 5, none⟩ = _ := b5
              have b6' : w5.drew.cell? ⟨B, 6, none⟩ = _ := b6
              have a0' : w5.drew.cell? ⟨b1, o1, none⟩ = _ := a0
              have a1' : w5.drew.cell? ⟨b1, o1 + 1, none⟩ = _ := a1
              have a2' : w5.drew.cell? ⟨b1, o1 + 2, none⟩ = _ := a2
              have a3' : w5.drew.cell? ⟨b1, o1 + 3, none⟩ = _ := a3
              clear b0 b1' b2 b3 b4 b5 b6 a0 a1 a2 a3
              go_cut [12] from 58 to 66 (fun x12 wx => x12 = .int .i64 (q : Int) ∧ Hid (∃ lv dv qs, ShL w w2 wx g p S d k s B (.slice x5 (i + 1) z5) ps (i + 1) (i + 1) s1 (done + (if q = 0 then 1 else 0)) q lv dv qs))
              case first =>
                go_region_law (first
                  | (go_simp; refine HRL.out.mono ?_; rintro e w6 ⟨lv2, dv2, qs2, rfl, hd2, hb2⟩; obtain ⟨lx2, lc2, rfl, _, _⟩ := IsX.slice hd2.l; obtain ⟨dx2, dc2, rfl, _, _⟩ := IsX.slice hd2.d.1; have hb6 := ((Below.refl w5.heap.size w5).drew).trans hb2; have HF := Lib.hid (HM5.out.ok HPI.out (by rw [HBQ.out]; exact Nat.le_refl _) (by rw [HSQ.out.1]; exact hd2) hb6 HSQ.out.1 HSQ.out.2.1); have hbx := HM5.out.box.below hb6 HM5.out.box.lt; have z0 := hbx.cell 0 rfl; have z1 := hbx.cell 1 rfl; have z2 := hbx.cell 2 rfl; have z3 := hbx.cell 3 rfl; have z4 := hbx.cell 4 rfl; have z5 := hbx.cell 5 rfl; have z6 := hbx.cell 6 rfl; have zf := fun j => hbx.free j; clear hd2 hb2 hb6 hbx b0' b1'' b2' b3' b4' b5' b6' a0' a1' a2' a3'))
                all_goals (go_wp2_with fail; go_meet)
                all_goals exact ⟨rfl, Lib.hid ⟨_, _, _, HF.out⟩⟩
              case rest =>
                obtain ⟨rfl, HN2⟩ := hcut
                obtain ⟨wn, hwn⟩ : ∃ wn, wn = wc := ⟨_, rfl⟩
                subst hwn
                clear b0' b1'' b2' b3' b4' b5' b6' a0' a1' a2' a3' hx1
                obtain ⟨lv3, dv3, qs3, hN2⟩ := HN2.out
                by_cases hq0 : q = 0
                · rw [if_pos hq0] at hN2
                  have HO2 := Lib.hid hN2
                  subst hq0
                  have ed : IntKind.i64.wrap ((done : Int) + 1) = (done : Int) + 1 := IntWalk.i64_in _ (by have := HLK.out.2.2; omega)
                  clear hN2 HN2
                  go_wp2_with fail
                  go_roundw
                  case rel => exact ⟨i + 1, done + 1, 0, x5, z5, s1, lv3, dv3, qs3, by omega, rfl, by simp, by simp, by simp, HO2⟩
                  case measure => simp only [intOf]; omega
                · rw [if_neg hq0, Nat.add_zero] at hN2
                  have HO2 := Lib.hid hN2
                  have g3 : decide ((q : Int) = 0) = false := decide_eq_false (by omega)
                  have g4 : ¬ (q : Int) = 0 := by omega
                  clear hN2 HN2
                  go_wp2_with fail
                  go_roundw
                  case rel => exact ⟨i + 1, done, q, x5, z5, s1, lv3, dv3, qs3, by omega, rfl, rfl, rfl, by simp, HO2⟩
                  case measure => simp only [intOf]; omega
            · have g3 : decide ((er : Int) = 0) = false := decide_eq_false (by omega)
              have g4 : ¬ (er : Int) = 0 := by omega
              have HO2 := Lib.hid (HM5.out.bad HPI.out he)
              go_wp2_with fail
              go_roundw
              case rel => exact ⟨i + 1, done, er, x5, z5, sm, lv1, dv1, qs1, by omega, rfl, rfl, rfl, by simp, HO2⟩
              case measure => simp only [intOf]; omega
        · obtain rfl : i = AN := by omega
          have hO := HO.out
          have hbl := hO.bel
          have htk : ps.take i = ps := List.take_of_length_le (by rw [HAN.out]; exact Nat.le_refl _)
          have hrow := hO.vrow
          have hlaid := hO.laid
          have hsm := hO.small
          rw [htk] at hrow hlaid hsm
          have HVR := Lib.hid (HR.out.below hbl)
          have HIN2 := Lib.hid (show IsN wo (.slice x i cp) ps from ⟨by rw [HAN.out]; exact IsX.own hrow, fun y hy => ⟨(HN.out.2 y hy).1.mono (HB2.out.trans (hbl.mono HB2.out.size)) (Nat.le_refl _), (HN.out.2 y hy).2⟩⟩)
          have HSX := Lib.hid (show ∀ b, liesX (.slice x i cp) ps.length b → ¬ S b from fun b h1 h2 => by have := (hrow.lt b h1.2).1; have := HSW.out b h2; omega)
          have HSD := Lib.hid (show ∀ y ∈ ps, ∀ b, liesB y.2 y.1.data b → ¬ S b from fun y hy b h1 h2 => by have := (HN.out.2 y hy).1.lies_lt h1; have := HSW.out b h2; omega)
          have HTT := Lib.hid (show tot (ps.map (·.1)) ≤ 5100 * i from by
            have := tot_small (L := ps.map (·.1)) (fun n hn => by obtain ⟨y, hy, rfl⟩ := List.mem_map.1 hn; exact hsm y hy)
            rw [List.length_map, HAN.out] at this
            exact this)
          have HLD := Lib.hid hlaid
          have HDC := Lib.hid hO.doc
          have HBX := Lib.hid hO.box
          have HBL := Lib.hid (HB2.out.trans (hbl.mono HB2.out.size))
          have h17 : er ≤ 17 ∧ done ≤ i := by
            have := lays_ok (ps.map (·.1)) s HR.out.ok (fun n hn => by obtain ⟨y, hy, rfl⟩ := List.mem_map.1 hn; exact HNF.out y hy) (by rw [List.length_map, HAN.out]; have := HM2.out.1; omega)
            rw [hlaid, List.length_map, HAN.out] at this
            exact ⟨this.2.2.2, this.2.2.1⟩
          clear hO hbl htk hrow hlaid hsm HO
          go_wp2_with fail
          refine (slays_v (.slice x i cp) ps g p k S d s wo HVR.out HIN2.out HNF.out HSX.out HSD.out (by rw [HAN.out]; have := HM2.out.1; omega) (by have := HTT.out; have := HM2.out; omega) (by rw [HAN.out]; have := HM2.out; omega)).mono ?_
          rintro e w6 ⟨rfl, S1, d1, hv⟩
          rw [HLD.out] at hv ⊢
          simp only
          obtain ⟨E0, hE0⟩ : ∃ E, cerr er = E := ⟨_, rfl⟩
          rw [hE0]
          obtain ⟨lx1, lc1, rfl, _, _⟩ := IsX.slice HDC.out.l
          obtain ⟨dx1, dc1, rfl, _, _⟩ := IsX.slice HDC.out.d.1
          obtain ⟨I1, hI1⟩ : ∃ I, sm.idx.length = I := ⟨_, rfl⟩
          obtain ⟨N1, hN1⟩ : ∃ N, qs1.length = N := ⟨_, rfl⟩
          rw [hI1, hN1] at HDC HBX
          have HSM := Lib.hid (fun wx (hb : Below w6.heap.size w6 wx) => same_v g p _ S1 d1 sm S1 _ _ qs1 wx (hv.r.below hb) ((HDC.out.kept (hv.kept.mono (fun j _ e => .inl e)) (fun b hb => (hv.low b hb).imp (fun e => .inl e) id)).below hb))
          have HB6 := Lib.hid (HBX.out.kept hv.kept (fun e => by have := HSW.out B e; have := HBQ.out; omega))
          have HBL6 := Lib.hid (hv.kept.below HBL.out.size (fun j hj e => by have := HSW.out j e; omega))
          have HCD := Lib.hid (fun wx => show Calls Tryz.prog 13 #[E0] wx (fun e w' => e = .returned (.int .i64 (er : Int)) ∧ wx = w') by
            rw [← hE0]; exact code_any er wx h17.1)
          have HBF := Lib.hid (HBL.out.trans HBL6.out)
          clear hv hE0 hI1 hN1 HVR HIN2 HSX HSD HTT HLD HDC HBX
          have b0 := HB6.out.cell 0 rfl
          have b1 := HB6.out.cell 1 rfl
          have b2 := HB6.out.cell 2 rfl
          have b3 := HB6.out.cell 3 rfl
          have b4 := HB6.out.cell 4 rfl
          have b5 := HB6.out.cell 5 rfl
          have b6 := HB6.out.cell 6 rfl
          go_wp2_with fail
          refine (HCD.out _).mono ?_
          rintro e w7 ⟨rfl, rfl⟩
          go_wp2_with fail
          refine (HSM.out _ (Below.refl _ _)).mono ?_
          rintro e w8 ⟨rfl, hb8⟩
          have HBE := Lib.hid (HBF.out.trans (hb8.mono HBF.out.size))
          clear hb8
          go_wp2
          go_ret
          exact ⟨rfl, HBE.out⟩

end Go.Proofs.YtoblbipkkdiddaaGreatDoor
end
namespace Go.Proofs.YtoblbipkkdiddaaGreatDoor.shipLays
open Go.ChangeShapes Go.WideShapes Go.ChangeAt Go.RowKit
open Go.ChangeMaps (open_string shut_string)
open Go.Cor
set_option linter.unusedVariables false

theorem own : ownKnob Tryz.prog.godebug = none := by kernel_rfl
theorem laidOut : laidOutB Tryz.prog = true := by kernel_rfl
def lay (cs : Array Value) : Obj → Obj
  | .cells _ t frozen => .cells cs t frozen
  | o => o
/-- A world that meets the condition. -/
noncomputable def laidWorld (os : Os) : World :=
  { World.holding Tryz.prog os ⟨#[], #[], []⟩ with heap := ((((World.holding Tryz.prog os ⟨#[], #[], []⟩).heap).modify 2 (lay #[.int .u8 0, .int .u8 1, .int .u8 28, .int .u8 2, .int .u8 29, .int .u8 14, .int .u8 24, .int .u8 3, .int .u8 30, .int .u8 22, .int .u8 20, .int .u8 15, .int .u8 25, .int .u8 17, .int .u8 4, .int .u8 8, .int .u8 31, .int .u8 27, .int .u8 13, .int .u8 23, .int .u8 21, .int .u8 19, .int .u8 16, .int .u8 7, .int .u8 26, .int .u8 12, .int .u8 18, .int .u8 6, .int .u8 11, .int .u8 5, .int .u8 10, .int .u8 9])).modify 3 (lay #[.int .u8 0, .int .u8 1, .int .u8 56, .int .u8 2, .int .u8 57, .int .u8 49, .int .u8 28, .int .u8 3, .int .u8 61, .int .u8 58, .int .u8 42, .int .u8 50, .int .u8 38, .int .u8 29, .int .u8 17, .int .u8 4, .int .u8 62, .int .u8 47, .int .u8 59, .int .u8 36, .int .u8 45, .int .u8 43, .int .u8 51, .int .u8 22, .int .u8 53, .int .u8 39, .int .u8 33, .int .u8 30, .int .u8 24, .int .u8 18, .int .u8 12, .int .u8 5, .int .u8 63, .int .u8 55, .int .u8 48, .int .u8 27, .int .u8 60, .int .u8 41, .int .u8 37, .int .u8 16, .int .u8 46, .int .u8 35, .int .u8 44, .int .u8 21, .int .u8 52, .int .u8 32, .int .u8 23, .int .u8 11, .int .u8 54, .int .u8 26, .int .u8 40, .int .u8 15, .int .u8 34, .int .u8 20, .int .u8 31, .int .u8 10, .int .u8 25, .int .u8 14, .int .u8 19, .int .u8 9, .int .u8 13, .int .u8 8, .int .u8 7, .int .u8 6])).modify 1 (lay #[.int .u64 1, .int .u64 10, .int .u64 100, .int .u64 1000, .int .u64 10000, .int .u64 100000, .int .u64 1000000, .int .u64 10000000, .int .u64 100000000, .int .u64 1000000000, .int .u64 10000000000, .int .u64 100000000000, .int .u64 1000000000000, .int .u64 10000000000000, .int .u64 100000000000000, .int .u64 1000000000000000, .int .u64 10000000000000000, .int .u64 100000000000000000, .int .u64 1000000000000000000, .int .u64 10000000000000000000]) }
theorem laid_met (os : Os) : laidMet Tryz.prog Rows.shipLaysRow.laid ((laidWorld os).forCall (fun _ _ => 0) ⟨#[], #[.slice none 0 0, .slice none 0 0, .int .u16 0], []⟩).memory :=
  laidMet_of_run' 8 (by kernel_rfl) (by kernel_rfl)
theorem reads (os : Os) {H : Type} (enc : TypeId × Value → H) : ∃ places, DataW.whole enc Tryz.prog ((laidWorld os).forCall (fun _ _ => 0) ⟨#[], #[.slice none 0 0, .slice none 0 0, .int .u16 0], []⟩).memory Tryz.f4.params.toList Rows.shipLaysSpec.vars false (#[.slice none 0 0, .slice none 0 0, .int .u16 0] : Array Value).toList 8 = some ([.nil, .nil, .lit (.int .u16 0)], [], places) :=
  ⟨[], by kernel_rfl⟩

set_option maxRecDepth 100000 in
theorem lifted (os : Os) (started : os.Started) (H : Type) (enc : TypeId × Value → H) (F : Stop.Interp) :
    ReturnsInHanded {} Tryz.checked os 4 .any ((OpenSpec.ofChange Rows.shipLaysSpec).preRow enc Tryz.prog Tryz.f4 Rows.shipLaysRow.domain false Rows.shipLaysRow.laid) (((OpenSpec.ofChange Rows.shipLaysSpec).at F).post enc Tryz.prog Tryz.f4 false true false false) := by
  obtain ⟨places, hx⟩ := reads os enc
  refine returnsInHanded_of_row (C := Tryz.checked) (s := OpenSpec.ofChange Rows.shipLaysSpec) own started (by kernel_rfl) Tryz.func4
    (witness_row_at (enc := enc) (C := Tryz.checked) false (laidWorld os) #[.slice none 0 0, .slice none 0 0, .int .u16 0] rfl (by kernel_rfl) (by kernel_rfl) (by kernel_rfl)
      (OpenSpec.preRow_of_cond 8 hx (by kernel_rfl) (fun k hk => by cases hk) (by kernel_rfl) (laid_met os))) ?_
  intro W base args ds gs before hval0 hW _ _ _ hL _ _
  have hval : ∀ (j : Nat) t v, Tryz.f4.params[j]? = some t → args[j]? = some v → Value.okWide Tryz.prog W .any base t v := hval0
  have hW' := hW
  obtain ⟨p, q, hA0, hV, rfl, hfz, hnd⟩ := hW
  have hA : DataW.TrodAll enc Tryz.prog W 0 (fun _ => true) true Tryz.f4.params.toList args.toList ds p := hA0
  rw [Tryz.params4] at hA hval
  obtain ⟨v0, vs0, d0, ds0, p0, q0, hargs, rfl, rfl, h0, r0⟩ := trodAll_cons hA
  obtain ⟨v1, vs1, d1, ds1, p1, q1, rfl, rfl, rfl, h1, r1⟩ := trodAll_cons r0
  obtain ⟨v2, vs2, d2, ds2, p2, q2, rfl, rfl, rfl, h2, r2⟩ := trodAll_cons r1
  obtain ⟨rfl, rfl, rfl⟩ := trodAll_nil r2
  obtain rfl : args = #[v0, v1, v2] := by cases args; simp_all
  obtain ⟨rfl, rfl⟩ := trodVars_none hV
  obtain ⟨a0, len0, cap0, rfl⟩ := okWide_slice Tryz.underlying22 (hval 0 22 v0 rfl rfl)
  have k0 := h0
  have lt0 : ∀ x ∈ p0, x.block < W.heap.size := by obtain ⟨m, hm⟩ := k0; exact DataW.trod_lt m _ _ _ hm
  obtain ⟨l0, hI0, hF0⟩ : ∃ l : List A9v, IsA W (.slice a0 len0 cap0) l ∧ ∀ x ∈ l, x.1.n.fits := by obtain ⟨fuel, hf⟩ := h0; exact acts9_of_trod (by simpa [Value.cells] using hf)
  obtain ⟨a1, len1, cap1, rfl⟩ := okWide_slice Tryz.underlying28 (hval 1 28 v1 rfl rfl)
  have k1 := h1
  have lt1 : ∀ x ∈ p1, x.block < W.heap.size := by obtain ⟨m, hm⟩ := k1; exact DataW.trod_lt m _ _ _ hm
  obtain ⟨l1, hN1, hF1⟩ : ∃ l : List (Ndl × Value), IsN W (.slice a1 len1 cap1) l ∧ ∀ x ∈ l, x.1.fits := by obtain ⟨fuel, hf⟩ := h1; exact ndls_of_trod (by simpa [Value.cells] using hf)
  obtain ⟨a2, rfl, rfl, rfl, w2⟩ := open_int Tryz.underlying50 (hval 2 50 v2 rfl rfl) h2
  clear hA0 hval0
  have hx := wf_u16 w2
  obtain ⟨k2, rfl⟩ := Int.eq_ofNat_of_zero_le hx.1
  refine (shipLays_all _ l0 _ l1 k2 W hI0 hF0 hN1 hF1 (by omega)).mono fun e W' ⟨he, bel⟩ => ?_
  subst he
  exact ⟨_, rfl, _, _, _, [], _, [], hW', trodAll_mk1 (shut_bool Tryz.underlying4 _), (trodAll_cons_mk (Below.trod laidOut (by kernel_rfl) (of_decide_eq_true (by kernel_rfl)) k0 bel lt0) (trodAll_cons_mk (Below.trod laidOut (by kernel_rfl) (of_decide_eq_true (by kernel_rfl)) k1 bel lt1) (trodAll_cons_mk (shut_int Tryz.underlying50 w2) trodAll_mk0))), rfl, bel.frame _, fun h => by cases h⟩

theorem over : Rows.ShipLaysSaid :=
  OpenClaim.holds_of_cond 4 Tryz.f4 rfl rfl rfl rfl rfl rfl rfl ⟨rfl, rfl, rfl, rfl, rfl⟩ rfl rfl rfl rfl rfl (by kernel_rfl) Tryz.func4 (by kernel_rfl)
    (of_decide_eq_true (by kernel_rfl)) (by unfold Func.isWrapper; first | (rw [if_pos (by decide +kernel)]; kernel_rfl) | (rw [if_neg (by decide +kernel)]; exact ⟨rfl, rfl⟩))
    (fun os started H enc _ F => by rw [OpenClaim.pre_eq_preRow]; exact lifted os started H enc F)

theorem noStand : (Tryz.f4.params.toList.all fun t => !Tryz.prog.wantsStandIn t) = true := by kernel_rfl

set_option maxRecDepth 100000 in
theorem proved : Rows.ShipLaysCardSaid :=
  Claim7.holds_tied_plain_at .later [] _ _ _ _ over (fun _ h => by cases h) (by kernel_rfl) (fun _ h => by cases h) shipLays_row_tie rfl ⟨rfl, rfl⟩ (by kernel_rfl) rfl
    (fun f fn hf hfn => by
      obtain rfl : f = 4 := Option.some.inj ((show Tryz.prog.funcNamed "corncrib/corncriblaw13.ShipLays" = some 4 by kernel_rfl).symm.trans hf) |>.symm
      obtain rfl : fn = Tryz.f4 := (Option.some.inj (Tryz.func4.symm.trans hfn)).symm
      refine ⟨by kernel_rfl, fun j t ht => ?_⟩
      have hm : t ∈ Tryz.f4.params.toList := Array.mem_toList_iff.2 (Array.mem_of_getElem? ht)
      have h := List.all_eq_true.1 noStand t hm
      show Tryz.prog.wantsStandIn t = false
      cases hw : Tryz.prog.wantsStandIn t with
      | false => rfl
      | true => rw [hw] at h; cases h)
    (by kernel_rfl)
#print axioms proved
end Go.Proofs.YtoblbipkkdiddaaGreatDoor.shipLays
