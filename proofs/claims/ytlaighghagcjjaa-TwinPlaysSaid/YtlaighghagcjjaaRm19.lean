/- Package corncriblaw20: maps (the bytes of the map behind commands). -/
import Derived.Test.YtlaighghagcjjaaRb19
namespace Go.Proofs.Ytlaighghagcjjaa
open Go.RowKit Go.Cor
set_option linter.unusedVariables false
set_option linter.unusedSimpArgs false

theorem Try.sizeCmdR19 : (Try.prog.info? 33).map (·.size) = some 8 := by kernel_rfl
set_option maxRecDepth 100000 in
set_option maxHeartbeats 2000000 in
theorem maps_any (v : Value) (n : Nat) (l : List Cm) (w : World) (hv : IsX w 8 v n (row ccl l)) (hl : l.length = n) (hn : n ≤ 100000) :
    Calls Try.prog 18 #[v] w fun e w' => ∃ v', e = .returned v' ∧ IsB w' v' (rby (repL [] l)) ∧ Below w.heap.size w w' := by
  have hlen := fun W => len_X (P := Try.prog) hv 26 3 33 Try.underlying26 W
  have HV := Lib.hid hv
  have HN := Lib.hid hl
  clear hv hl
  go_enter Try.func18, Try.ntmps18
  go_wp2_with fail
  go_loopw [3, 4] (fun xv iv wr => ∃ (i : Nat) (y : Value), i ≤ n ∧ iv = .int .i64 i ∧ y = xv ∧ Hid (IsX wr 6 y (repL [] (l.take i)).length (row ecl (repL [] (l.take i)))) ∧ Hid (Below w.heap.size w wr)) (fun _ iv _ => n - (intOf iv).toNat)
  case atStart => exact ⟨0, _, Nat.zero_le _, rfl, rfl, Lib.hid (IsX.nil _ _), Lib.hid (Below.refl _ _)⟩
  case round =>
    obtain ⟨i, y, hin, rfl, rfl, HX, HB⟩ := hrel
    by_cases hlt : i < n
    · have hlt' : (i : Int) < (n : Int) := by omega
      have HI := Lib.hid hlt
      obtain ⟨⟨ck, cv, ce, ca, cn, c1, c2, c3⟩, hy⟩ := (⟨_, List.getElem?_eq_getElem (l := l) (i := i) (by rw [HN.out]; exact hlt)⟩ : ∃ d, l[i]? = some d)
      obtain ⟨b, o, hidx, _, hcell⟩ := indexAt_X (P := Try.prog) (HV.out.mono HB.out (Nat.le_refl _)) 26 33 Try.underlying26 Try.sizeCmdR19 i hlt
      have hce := fun q (hq : q < 8) => (hcell q hq).trans (row_get ccl_len hy q hq)
      have d0 : wr.cell? ⟨b, o, none⟩ = some (.int .i64 ck) := hce 0 (by decide)
      have d1 : wr.cell? ⟨b, o + 1, none⟩ = some (.int .i64 cv) := hce 1 (by decide)
      have d2 : wr.cell? ⟨b, o + 2, none⟩ = some (.int .i64 ce) := hce 2 (by decide)
      have d3 : wr.cell? ⟨b, o + 3, none⟩ = some (.int .i64 ca) := hce 3 (by decide)
      have d4 : wr.cell? ⟨b, o + 4, none⟩ = some (.int .i64 cn) := hce 4 (by decide)
      have d5 : wr.cell? ⟨b, o + 5, none⟩ = some (.int .i64 c1) := hce 5 (by decide)
      have d6 : wr.cell? ⟨b, o + 6, none⟩ = some (.int .i64 c2) := hce 6 (by decide)
      have d7 : wr.cell? ⟨b, o + 7, none⟩ = some (.int .i64 c3) := hce 7 (by decide)
      have htk : l.take (i + 1) = l.take i ++ [⟨ck, cv, ce, ca, cn, c1, c2, c3⟩] := by rw [List.take_add_one, hy]; rfl
      have HRL := Lib.hid (show repL [] (l.take (i + 1)) = doL (repL [] (l.take i)) ⟨ck, cv, ce, ca, cn, c1, c2, c3⟩ from by rw [htk, repL_append]; rfl)
      have hok : LOk (repL [] (l.take i)) 200000 := (repL_ok (LOk.nil 1) (Nat.le_refl 1) (l.take i)).more (by rw [List.length_take]; omega)
      have HDO := Lib.hid (show Calls Try.prog 25 #[y, .agg #[.int .i64 ck, .int .i64 cv, .int .i64 ce, .int .i64 ca, .int .i64 cn, .int .i64 c1, .int .i64 c2, .int .i64 c3]] wr _ from rdo19_any y (repL [] (l.take i)) ⟨ck, cv, ce, ca, cn, c1, c2, c3⟩ 200000 wr HX.out hok (by omega))
      clear hce hcell hy hlt htk hok
      go_wp2_with fail
      refine HDO.out.mono ?_
      rintro e w2 ⟨y2, rfl, hx2, hb2⟩
      have HX2 := Lib.hid (show IsX w2 6 y2 (repL [] (l.take (i + 1))).length (row ecl (repL [] (l.take (i + 1)))) from by rw [HRL.out]; exact hx2)
      have HB2 := Lib.hid (HB.out.trans (hb2.mono HB.out.size))
      clear hx2 hb2 d0 d1 d2 d3 d4 d5 d6 d7 hidx
      go_wp2_with fail
      go_roundw
      case rel => exact ⟨i + 1, y2, by have := HI.out; omega, by go_num, rfl, HX2, HB2⟩
      case measure => simp [intOf] <;> (have := HI.out; omega)
    · obtain rfl : i = n := by omega
      have hall : l.take i = l := by rw [List.take_of_length_le (by rw [HN.out]; exact Nat.le_refl _)]
      have hx := HX.out
      rw [hall] at hx
      have hok : LOk (repL [] l) 200000 := (repL_ok (LOk.nil 1) (Nat.le_refl 1) l).more (by rw [HN.out]; omega)
      have HBY := Lib.hid (rbytes19 y (repL [] l).length (repL [] l) 200000 wr hx rfl hok (by omega))
      clear hall hx hok hlt
      go_wp2_with fail
      refine HBY.out.mono ?_
      rintro e w2 ⟨v2, rfl, hv2, hb2⟩
      have HV2 := Lib.hid hv2
      have HB2 := Lib.hid (HB.out.trans (hb2.mono HB.out.size))
      clear hv2 hb2
      go_wp2
      go_ret
      exact ⟨v2, rfl, HV2.out, HB2.out⟩
end Go.Proofs.Ytlaighghagcjjaa
