/- The document's disk: without a name, with a name: by contracts. -/
import Derived.Test.YtdapdlacpefbdaaRdoc
import Derived.Test.YtdapdlacpefbdaaBlk
namespace Go.Proofs.Ytdapdlacpefbdaa
open Go.RowKit Go.Cor

theorem wout_snoc {l : Tbl} {n : ByteArray} {i : Nat} {e : ByteArray × Nat} (h : l[i]? = some e) : wout (l.take (i + 1)) n = wout (l.take i) n ++ (if e.1 = n then [] else [e]) := by
  obtain ⟨hi, he⟩ := List.getElem?_eq_some_iff.1 h
  rw [List.take_succ_eq_append_getElem hi, he]
  unfold wout
  rw [List.filter_append]
  by_cases hn : e.1 = n
  · simp [hn]
  · simp [hn]
theorem pos_at {l : Tbl} {n : ByteArray} {e : ByteArray × Nat} (h : l[pos l n]? = some e) : nlt e.1 n = false := by
  induction l with
  | nil => simp at h
  | cons x r ih =>
    rw [pos_cons] at h
    split at h
    · exact ih (by simpa using h)
    · rename_i hx
      simp only [List.getElem?_cons_zero, Option.some.injEq] at h
      subst h
      simpa using hx
theorem bel_alloc (w : World) (o : Obj) : Below w.heap.size w (w.alloc o) := (Below.refl _ w).alloc (Nat.le_refl _) o
theorem below_owned {w w' : World} {B : Nat} {v : Value} (h : w.grownBy w' v.ownBlock) (hB : B ≤ w.heap.size) (hv : ∀ k, v.ownBlock = some k → B ≤ k) : Below B w w' := (Below.refl B w).grown h hB hv

set_option maxRecDepth 100000 in
set_option maxHeartbeats 4000000 in
theorem rwithout_any (v : Value) (l : Tbl) (n : ByteArray) (w : World) (hv : IsN w v l) (hl : l.length ≤ 1048576) :
    Calls Try.prog 60 #[v, .string n] w fun e w' => ∃ v', e = .returned v' ∧ w'.ownsRow w.heap.size 52 2 v' (wout l n).length (row ren (wout l n)) ∧ Below w.heap.size w w' := by
  obtain ⟨N, hN⟩ : ∃ N, l.length = N := ⟨_, rfl⟩
  obtain ⟨ib, hib, hib0, hib1, hib2⟩ := info_parts Try.infoREnt
  have hlen := fun W => len_X (P := Try.prog) hv 31 3 _ Try.underlying31 W
  rw [hN] at hlen hl
  have HV := Lib.hid hv
  have HN := Lib.hid hN
  have HI := Lib.hid hib
  have HZ0 := Lib.hid hib0
  have HZ1 := Lib.hid hib1
  have HZ2 := Lib.hid hib2
  clear hv hN hib hib0 hib1 hib2
  go_enter Try.func60, Try.ntmps60
  go_wp2
  go_loopw [6, 5] (fun x y wr => ∃ (i m : Nat) (z : Option Addr) (c : Nat), i ≤ N ∧ x = .int .i64 i ∧ y = .slice z m c ∧ m ≤ i ∧ Hid ((wout (l.take i) n).length = m) ∧ Hid (wr.ownsRow w.heap.size 52 2 (.slice z m c) m (row ren (wout (l.take i) n))) ∧ Hid (Below w.heap.size w wr)) (fun x _ _ => N - (intOf x).toNat)
  case atStart => exact ⟨0, 0, none, 0, Nat.zero_le _, rfl, rfl, Nat.le_refl _, Lib.hid rfl, Lib.hid (World.ownsRow_nil _ _ _ _), Lib.hid (Below.refl _ _)⟩
  case round =>
    obtain ⟨i, m, z, c, hiN, rfl, rfl, hmi, hM, hO, hB⟩ := hrel
    by_cases hlt : i < N
    · obtain ⟨e, he⟩ : ∃ e, l[i]? = some e := ⟨_, List.getElem?_eq_getElem (by rw [HN.out]; omega)⟩
      obtain ⟨b, o, hidx, hob, c0, c1⟩ := indexAt_N (HV.out.mono hB.out (Nat.le_refl _)) he
      have HE := Lib.hid (wout_snoc (n := n) he)
      clear he hob
      by_cases hen : e.1 = n
      · have hs := HE.out
        rw [if_pos hen, List.append_nil] at hs
        rw [hen] at c0
        have HS := Lib.hid hs
        clear hs hen
        go_wp2
        go_roundw
        case rel => exact ⟨i + 1, m, z, c, by omega, by go_num, rfl, by omega, by rw [HS.out]; exact hM, by rw [HS.out]; exact hO, hB⟩
        case measure => simp [intOf]; omega
      · have hs := HE.out
        rw [if_neg hen] at hs
        have hen' := str_ne hen
        have HS := Lib.hid hs
        clear hs hen
        go_wp2_with (at_builtin; refine wpList_append_X (by rfl) _ _ 31 31 rfl (fun _ _ _ => rfl) w.heap.size 52 ib _ 2 24 Try.underlying31 HI.out HZ0.out HZ1.out HZ2.out rfl (by decide) _ (row ren (wout (l.take i) n)) m rfl (hO.out.alloc _) _ 1 _ rfl (IsX.lit wr #[.string e.1, .int .i64 (e.2 : Int)] 52 2 1 rfl (by decide)) (by intro u hu; simp only [List.mem_cons, List.not_mem_nil, or_false] at hu; rcases hu with rfl | rfl <;> rfl) (by unfold maxLen; omega) (by omega) (by have := hB.out.size; simp; omega) ?_)
        intro v4 w4 hown4 hgr4 hat4
        obtain ⟨x4, z4, rfl, _, _⟩ := ownsRow_slice hown4
        have HB4 := Lib.hid ((hB.out.alloc hB.out.size _).grown hgr4 (by have := hB.out.size; simp; omega) (fun k hk => (hO.out.lt k hk).1))
        have HO4 := Lib.hid hown4
        clear hown4 hgr4 hat4 c0 c1 hidx hen'
        go_wp2
        go_roundw
        case rel => exact ⟨i + 1, m + 1, x4, z4, by omega, by go_num, rfl, by omega, by rw [HS.out, List.length_append, hM.out]; exact Lib.hid rfl, by rw [HS.out, row_append, row_one]; exact HO4, HB4⟩
        case measure => simp [intOf]; omega
    · obtain rfl : i = N := by omega
      have hO' := hO.out
      have hM' := hM.out
      rw [List.take_of_length_le (by rw [HN.out]; exact Nat.le_refl _)] at hO' hM'
      have HO2 := Lib.hid hO'
      have HM2 := Lib.hid hM'
      clear hO' hM'
      go_wp2
      go_ret
      exact ⟨_, rfl, by rw [HM2.out]; exact HO2.out, hB.out⟩

set_option maxRecDepth 100000 in
set_option maxHeartbeats 4000000 in
theorem rwith_any (v : Value) (l : Tbl) (n : ByteArray) (f : Nat) (w : World) (hv : IsN w v l) (hl : l.length ≤ 1048576) :
    Calls Try.prog 59 #[v, .string n, .int .i64 (f : Int)] w fun e w' => ∃ v', e = .returned v' ∧ w'.ownsRow w.heap.size 52 2 v' (wth l n f).length (row ren (wth l n f)) ∧ Below w.heap.size w w' := by
  obtain ⟨ib, hib, hib0, hib1, hib2⟩ := info_parts Try.infoREnt
  have HI := Lib.hid hib
  have HZ0 := Lib.hid hib0
  have HZ1 := Lib.hid hib1
  have HZ2 := Lib.hid hib2
  have HV := Lib.hid hv
  clear hv hib hib0 hib1 hib2
  go_enter Try.func59, Try.ntmps59
  go_wp2_with fail
  refine (rwithout_any v l n _ HV.out hl).mono ?_
  rintro e w1 ⟨v1, rfl, hown, hb⟩
  have hwth : wth l n f = (wout l n).take (pos (wout l n) n) ++ (n, f) :: (wout l n).drop (pos (wout l n) n) := rfl
  have hwl := wout_length l n
  obtain ⟨wo, hwo⟩ : ∃ wo, wout l n = wo := ⟨_, rfl⟩
  rw [hwo] at hown hwth hwl
  have hpl := pos_le wo n
  obtain ⟨M, hM⟩ : ∃ M, wo.length = M := ⟨_, rfl⟩
  obtain ⟨q, hq⟩ : ∃ q, pos wo n = q := ⟨_, rfl⟩
  rw [hM] at hown hwl hpl
  rw [hq] at hwth hpl
  obtain ⟨x1, z1, hv1, hMz, _⟩ := ownsRow_slice hown
  have hX := IsX.own hown
  have hlen := fun W => len_X (P := Try.prog) hX 31 3 _ Try.underlying31 W
  have hX' := hX
  rw [hv1] at hX'
  have hsl1 := slice_h_X (P := Try.prog) 2 x1 M z1 31 _ Try.underlying31 Try.sizeREnt q (by omega)
  have hsl2 := slice_l_X (P := Try.prog) hX' 31 _ Try.underlying31 Try.sizeREnt q (by omega)
  have HX := Lib.hid (show IsX w1 2 v1 M (row ren wo) from hX)
  have HT := Lib.hid (show IsX w1 2 (.slice x1 q z1) q (row ren (wo.take q)) from by
    have := hX'.take (j := q) (by omega)
    rwa [row_take ren_len] at this)
  have HP := Lib.hid (show IsX w1 2 (sliced x1 q M z1 2) (M - q) (row ren (wo.drop q)) from by
    have h1 := hX'.piece (lo := q) (hi := M) (by omega) (Nat.le_refl _)
    rw [row_drop ren_len] at h1
    have h2 : ((row ren (wo.drop q)).take ((M - q) * 2)) = row ren (wo.drop q) := List.take_of_length_le (by rw [length_row ren_len, List.length_drop, hM]; exact Nat.le_refl _)
    rwa [h2] at h1)
  obtain ⟨tv, htv⟩ : ∃ tv, Value.slice x1 q z1 = tv := ⟨_, rfl⟩
  rw [← hv1, htv] at hsl1
  rw [← hv1] at hsl2
  rw [htv] at HT
  obtain ⟨sv, hsv⟩ : ∃ sv, sliced x1 q M z1 2 = sv := ⟨_, rfl⟩
  rw [hsv] at hsl2 HP
  have HLT := Lib.hid (fun k hk => (hown.lt k hk).2)
  have HLIE := Lib.hid (show ∀ k, liesX sv (M - q) k → k < w1.heap.size from fun k hk => HP.out.lies_lt (by decide) hk)
  have HB1 := Lib.hid hb
  have HM := Lib.hid hM
  have HQ := Lib.hid hq
  have HWT := Lib.hid hwth
  clear hown hb hwo hM hq hwth hX hsv hX' hv1 htv
  go_wp2_with fail
  go_loop [7] (fun c => ∃ k : Nat, k ≤ q ∧ c = .int .i64 k) (fun c => q - (intOf c).toNat)
  case atStart => exact ⟨0, Nat.zero_le _, rfl⟩
  case round =>
    obtain ⟨k, hk, rfl⟩ := hrel
    by_cases hlt : k < q
    · obtain ⟨e, he⟩ : ∃ e, wo[k]? = some e := ⟨_, List.getElem?_eq_getElem (by rw [HM.out]; omega)⟩
      obtain ⟨b, o, hidx, hob, c0, c1⟩ := indexAt_N (v := v1) (by show IsX w1 2 _ wo.length _; rw [HM.out]; exact HX.out) he
      have hn := pos_below he (by rw [HQ.out]; exact hlt)
      unfold nlt at hn
      unfold ncmp at hn
      rw [← cb_less, ← ByteArray.toList_eq, ← ByteArray.toList_eq] at hn
      have hkM : (k : Int) < (M : Int) := by omega
      go_wp2
      go_round
      case rel => exact ⟨k + 1, by omega, by go_num⟩
      case measure => simp [intOf]; omega
    · obtain rfl : k = q := by omega
      have hstop : (k : Int) < (M : Int) → ∃ b o e, (∀ W, (Instr.indexAt 31 v1 (.int .i64 (k : Int))).run Try.prog W = .ok (.pointer (some ⟨b, o, none⟩)) W) ∧ w1.cell? ⟨b, o, none⟩ = some (.string e) ∧ Op.bytesLess e.toList n.toList = false := fun hkM => by
        obtain ⟨e, he⟩ : ∃ e, wo[k]? = some e := ⟨_, List.getElem?_eq_getElem (by rw [HM.out]; omega)⟩
        obtain ⟨b, o, hidx, hob, c0, c1⟩ := indexAt_N (v := v1) (by show IsX w1 2 _ wo.length _; rw [HM.out]; exact HX.out) he
        refine ⟨b, o, e.1, hidx, c0, ?_⟩
        have hn : nlt e.1 n = false := pos_at (by rw [HQ.out]; exact he)
        unfold nlt ncmp at hn
        rw [← cb_less, ← ByteArray.toList_eq, ← ByteArray.toList_eq] at hn
        exact hn
      have HST := Lib.hid hstop
      clear hstop
      have HRL := Lib.hid (World.ownsRow_lit (base := w1.heap.size) (e := 52) (size := 2) w1 #[] 0 (Nat.le_refl _) (Nat.zero_le _) rfl)
      by_cases hkM : (k : Int) < (M : Int)
      · obtain ⟨b, o, e, hidx, c0, hn⟩ := HST.out hkM
        go_wp2_with (at_builtin; refine wpList_append_X (by rfl) _ _ 31 31 rfl (fun _ _ _ => rfl) w1.heap.size 52 ib _ 2 24 Try.underlying31 HI.out HZ0.out HZ1.out HZ2.out rfl (by decide) _ [] 0 rfl HRL.out _ k _ rfl (HT.out.mono (bel_alloc w1 _) (Nat.le_refl _)) (row_mem fun x _ => ren_one x) (by unfold maxLen; omega) (by omega) (by simp) ?_)
        intro v4 w4 hown4 hgr4 hat4
        have HO4 := Lib.hid (show w4.ownsRow w1.heap.size 52 2 v4 k (row ren (wo.take k)) from by simpa using hown4)
        have HB4 := Lib.hid ((bel_alloc w1 _).grown hgr4 (by simp) (fun j hj => by
          have e : some w1.heap.size = some j := hj
          have := Option.some.inj e
          omega))
        clear hown4 hgr4 hat4
        go_wp2_with (at_builtin; refine wpList_append_X (by rfl) _ _ 31 31 rfl (fun _ _ _ => rfl) w1.heap.size 52 ib _ 2 24 Try.underlying31 HI.out HZ0.out HZ1.out HZ2.out rfl (by decide) _ (row ren (wo.take k)) k rfl (HO4.out.alloc _) _ 1 _ rfl (IsX.lit w4 #[.string n, .int .i64 (f : Int)] 52 2 1 rfl (by decide)) (by intro u hu; simp only [List.mem_cons, List.not_mem_nil, or_false] at hu; rcases hu with rfl | rfl <;> rfl) (by unfold maxLen; omega) (by omega) (by have := HB4.out.size; simp; omega) ?_)
        intro v5 w5 hown5 hgr5 hat5
        have HO5 := Lib.hid (show w5.ownsRow w1.heap.size 52 2 v5 (k + 1) (row ren (wo.take k) ++ ren (n, f)) from hown5)
        have HB5 := Lib.hid ((HB4.out.alloc HB4.out.size _).grown hgr5 (by have := HB4.out.size; simp; omega) (fun j hj => (HO4.out.lt j hj).1))
        clear hown5 hgr5 hat5
        go_wp2_with (at_builtin; refine wpList_append_X (by rfl) _ _ 31 31 rfl (fun _ _ _ => rfl) w1.heap.size 52 ib _ 2 24 Try.underlying31 HI.out HZ0.out HZ1.out HZ2.out rfl (by decide) _ (row ren (wo.take k) ++ ren (n, f)) (k + 1) rfl HO5.out _ (M - k) _ rfl (HP.out.mono HB5.out (Nat.le_refl _)) (row_mem fun x _ => ren_one x) (by unfold maxLen; omega) (by omega) HB5.out.size ?_)
        intro v6 w6 hown6 hgr6 hat6
        have HB6 := Lib.hid (HB1.out.trans ((HB5.out.grown hgr6 HB5.out.size (fun j hj => (HO5.out.lt j hj).1)).mono HB1.out.size))
        have HO6 := Lib.hid (show w6.ownsRow w.heap.size 52 2 v6 (wth l n f).length (row ren (wth l n f)) from by
          rw [HWT.out]
          have e1 : (wo.take k ++ (n, f) :: wo.drop k).length = k + 1 + (M - k) := by
            simp only [List.length_append, List.length_cons, List.length_take, List.length_drop, HM.out]
            omega
          have e2 : row ren (wo.take k ++ (n, f) :: wo.drop k) = row ren (wo.take k) ++ ren (n, f) ++ row ren (wo.drop k) := by
            rw [row_append, row_cons, List.append_assoc]
          rw [e1, e2]
          rw [List.append_assoc]
          exact ownsRow_base hown6 HB1.out.size)
        clear hown6 hgr6 hat6
        go_wp2
        go_ret
        exact ⟨_, rfl, HO6.out, HB6.out⟩
      · skip
        go_wp2_with (at_builtin; refine wpList_append_X (by rfl) _ _ 31 31 rfl (fun _ _ _ => rfl) w1.heap.size 52 ib _ 2 24 Try.underlying31 HI.out HZ0.out HZ1.out HZ2.out rfl (by decide) _ [] 0 rfl HRL.out _ k _ rfl (HT.out.mono (bel_alloc w1 _) (Nat.le_refl _)) (row_mem fun x _ => ren_one x) (by unfold maxLen; omega) (by omega) (by simp) ?_)
        intro v4 w4 hown4 hgr4 hat4
        have HO4 := Lib.hid (show w4.ownsRow w1.heap.size 52 2 v4 k (row ren (wo.take k)) from by simpa using hown4)
        have HB4 := Lib.hid ((bel_alloc w1 _).grown hgr4 (by simp) (fun j hj => by
          have e : some w1.heap.size = some j := hj
          have := Option.some.inj e
          omega))
        clear hown4 hgr4 hat4
        go_wp2_with (at_builtin; refine wpList_append_X (by rfl) _ _ 31 31 rfl (fun _ _ _ => rfl) w1.heap.size 52 ib _ 2 24 Try.underlying31 HI.out HZ0.out HZ1.out HZ2.out rfl (by decide) _ (row ren (wo.take k)) k rfl (HO4.out.alloc _) _ 1 _ rfl (IsX.lit w4 #[.string n, .int .i64 (f : Int)] 52 2 1 rfl (by decide)) (by intro u hu; simp only [List.mem_cons, List.not_mem_nil, or_false] at hu; rcases hu with rfl | rfl <;> rfl) (by unfold maxLen; omega) (by omega) (by have := HB4.out.size; simp; omega) ?_)
        intro v5 w5 hown5 hgr5 hat5
        have HO5 := Lib.hid (show w5.ownsRow w1.heap.size 52 2 v5 (k + 1) (row ren (wo.take k) ++ ren (n, f)) from hown5)
        have HB5 := Lib.hid ((HB4.out.alloc HB4.out.size _).grown hgr5 (by have := HB4.out.size; simp; omega) (fun j hj => (HO4.out.lt j hj).1))
        clear hown5 hgr5 hat5
        go_wp2_with (at_builtin; refine wpList_append_X (by rfl) _ _ 31 31 rfl (fun _ _ _ => rfl) w1.heap.size 52 ib _ 2 24 Try.underlying31 HI.out HZ0.out HZ1.out HZ2.out rfl (by decide) _ (row ren (wo.take k) ++ ren (n, f)) (k + 1) rfl HO5.out _ (M - k) _ rfl (HP.out.mono HB5.out (Nat.le_refl _)) (row_mem fun x _ => ren_one x) (by unfold maxLen; omega) (by omega) HB5.out.size ?_)
        intro v6 w6 hown6 hgr6 hat6
        have HB6 := Lib.hid (HB1.out.trans ((HB5.out.grown hgr6 HB5.out.size (fun j hj => (HO5.out.lt j hj).1)).mono HB1.out.size))
        have HO6 := Lib.hid (show w6.ownsRow w.heap.size 52 2 v6 (wth l n f).length (row ren (wth l n f)) from by
          rw [HWT.out]
          have e1 : (wo.take k ++ (n, f) :: wo.drop k).length = k + 1 + (M - k) := by
            simp only [List.length_append, List.length_cons, List.length_take, List.length_drop, HM.out]
            omega
          have e2 : row ren (wo.take k ++ (n, f) :: wo.drop k) = row ren (wo.take k) ++ ren (n, f) ++ row ren (wo.drop k) := by
            rw [row_append, row_cons, List.append_assoc]
          rw [e1, e2]
          rw [List.append_assoc]
          exact ownsRow_base hown6 HB1.out.size)
        clear hown6 hgr6 hat6
        go_wp2
        go_ret
        exact ⟨_, rfl, HO6.out, HB6.out⟩

end Go.Proofs.Ytdapdlacpefbdaa
