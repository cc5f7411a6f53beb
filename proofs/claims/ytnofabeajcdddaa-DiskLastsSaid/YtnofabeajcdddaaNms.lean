/- Package disk: Names, within, Picks.of: by contracts. -/
import Derived.Test.YtnofabeajcdddaaCreate
namespace Go.Proofs.Ytnofabeajcdddaa
open Go.RowKit Go.Cor

theorem Try.infoStr : (Try.prog.info? 9).map (fun i => (i.zero, i.size, i.bytes)) = some (some (.string ⟨#[]⟩), 1, 16) := by kernel_rfl
theorem Try.sizeStr : (Try.prog.info? 9).map (·.size) = some 1 := by kernel_rfl
theorem index_lit {P : Program} (g n c : Nat) (T U : TypeId) (size : Nat) (ht : P.underlying T = some (.slice U)) (hs : (P.info? U).map (·.size) = some size) (i : Nat) (hi : i < n) (W : World) :
    (Instr.indexAt T (.slice (some ⟨g, 0, none⟩) n c) (.int .i64 (i : Int))).run P W = .ok (.pointer (some ⟨g, i * size, none⟩)) W := by
  obtain ⟨j, hj1, hj2⟩ := Option.map_eq_some_iff.1 hs
  have ht' : P.underlying T = some (.slice (P.elem T)) := by simp [Program.elem, ht]
  have he : P.elem T = U := by simp [Program.elem, ht]
  have hsz : ∀ W, (sizeOf U).run P W = .ok size W := fun W => by simp [sizeOf, typeInfo, hj1, hj2]
  have h0 : (0 : Int) ≤ (i : Int) := by omega
  have h1 : (i : Int) < (n : Int) := by omega
  go_simp
/-- The names as cells. -/
def nms (l : Tbl) : List Value := l.map fun e => .string e.1
def nmsTo (l : Tbl) (i : Nat) : List Value := nms (l.take i) ++ List.replicate (l.length - i) (.string ⟨#[]⟩)
theorem nmsTo_len (l : Tbl) (i : Nat) (h : i ≤ l.length) : (nmsTo l i).length = l.length := by simp [nmsTo, nms]; omega
theorem nmsTo_get (l : Tbl) (i : Nat) (h : i < l.length) : (nmsTo l i)[i]? = some (.string ⟨#[]⟩) := by
  unfold nmsTo nms
  rw [List.getElem?_append_right (by simp; omega), List.getElem?_replicate, if_pos (by simp; omega)]
theorem nmsTo_set (l : Tbl) (i : Nat) {e : ByteArray × Nat} (h : l[i]? = some e) : (nmsTo l i).set i (.string e.1) = nmsTo l (i + 1) := by
  obtain ⟨hi, he⟩ := List.getElem?_eq_some_iff.1 h
  unfold nmsTo nms
  have hl : (List.map (fun e : ByteArray × Nat => Value.string e.1) (l.take i)).length = i := by simp; omega
  rw [List.set_append_right _ _ (by omega), hl, Nat.sub_self, List.take_succ_eq_append_getElem hi, he, List.map_append, show l.length - i = (l.length - (i + 1)) + 1 from by omega, List.replicate_succ, List.set_cons_zero]
  simp
theorem nmsTo_all (l : Tbl) : nmsTo l l.length = nms l := by simp [nmsTo]

set_option maxRecDepth 100000 in
set_option maxHeartbeats 1000000 in
theorem names_any (w : World) (L : Lay) (d : Dsk) (k : Nat) (h : Ready w L d k) :
    Calls Try.prog 28 #[.pointer (some ⟨L.p, 0, none⟩)] w fun e w' => ∃ v', e = .returned v' ∧ w'.ownsRow w.heap.size 9 1 v' d.now.length (nms d.now) ∧ Below w.heap.size w w' := by
  have H := Lib.hid h
  obtain ⟨N, hN⟩ : ∃ N, d.now.length = N := ⟨_, rfl⟩
  have hNl := h.now_len
  obtain ⟨_, _, c2, _, _, _, _⟩ := box_facts h.at'.blk
  have hpl := h.at'.blk.lt
  have hlen := fun W => len_X (P := Try.prog) (IsX.own h.at'.rest.now) 79 3 _ Try.underlying79 W
  rw [hN] at hNl hlen ⊢
  obtain ⟨i0, hi, hz0, hz1, hz2⟩ := info_parts Try.infoStr
  obtain ⟨M, hM⟩ : ∃ M, M = madeCells (Value.string ⟨#[]⟩).cells (((N : Nat) : Int).toNat * i0.size) := ⟨_, rfl⟩
  have hMl : M.toList = nmsTo d.now 0 := by
    rw [hM, hz1]
    have : (Value.string ⟨#[]⟩).cells = #[.string ⟨#[]⟩] := rfl
    rw [this, toList_madeCells_one]
    unfold nmsTo nms
    rw [hN]
    simp
  have hmk : ∀ W : World, (Instr.makeSlice 69 (.int .i64 (N : Int)) (.int .i64 (N : Int))).run Try.prog W = .ok (.slice (some ⟨W.heap.size, 0, none⟩) N N) (W.alloc (.cells M 9)) := fun W => by
    have h := run_make (P := Try.prog) W 69 9 i0 (.string ⟨#[]⟩) Try.underlying69 hi hz0 .i64 .i64 (N : Int) (N : Int) (by omega) (by omega) (by rw [hz2]; omega) (by omega)
    rw [← hM] at h
    simpa using h
  have HB0 := Lib.hid (show Blk (w.alloc (.cells M 9)) w.heap.size (nmsTo d.now 0).toArray 9 from by rw [← hMl, Array.toArray_toList]; exact Blk.new w M _)
  have hix := fun (i : Nat) (hi : i < N) (W : World) => index_lit (P := Try.prog) w.heap.size N N 69 _ 1 Try.underlying69 Try.sizeStr i hi W
  have HIX := Lib.hid hix
  have HN := Lib.hid hN
  clear h hN hM hMl hi hz0 hz1 hz2 hix
  go_enter Try.func28, Try.ntmps28
  go_wp2
  go_loopw [19] (fun c wr => ∃ i : Nat, i ≤ N ∧ c = .int .i64 i ∧ Hid (Blk wr w.heap.size (nmsTo d.now i).toArray 9) ∧ Hid (Below w.heap.size w wr)) (fun c _ => N - (intOf c).toNat)
  case atStart => exact ⟨0, Nat.zero_le _, rfl, HB0, Lib.hid ((Below.refl _ _).alloc (Nat.le_refl _) _)⟩
  case round =>
    obtain ⟨i, hiN, rfl, hX, hB⟩ := hrel
    by_cases hlt : i < N
    · obtain ⟨e, he⟩ : ∃ e, d.now[i]? = some e := ⟨_, List.getElem?_eq_getElem (by rw [HN.out]; omega)⟩
      obtain ⟨b, o, hidx, hob, k0, k1⟩ := indexAt_T (IsX.own (ownsRow_below H.out.at'.rest.now hB.out (Nat.le_refl _))) 79 Try.underlying79 he
      have hbl : b < wr.heap.size := cell_lt k0
      have hgl := hX.out.lt
      have k5 := hX.out.cell i (v := .string ⟨#[]⟩) (by rw [List.getElem?_toArray]; exact nmsTo_get d.now i (by rw [HN.out]; exact hlt))
      have g5 := hX.out.free i
      have hidx2 := HIX.out i hlt
      rw [Nat.mul_one] at hidx2
      have HS := Lib.hid (nmsTo_set d.now i he)
      clear he
      go_wp2
      go_roundw
      case rel => exact ⟨i + 1, by omega, by go_num, Lib.hid (by rw [← HS.out]; have := ((hX.out.set i (.string e.1)).alloc (.cells #[.string e.1, .pointer (some ⟨L.fb e.2, 0, none⟩)] 104)); rw [List.setIfInBounds_toArray] at this; exact this), Lib.hid ((hB.out.setCell (p := ⟨w.heap.size, i, none⟩) (Nat.le_refl _) _).alloc (by simp; exact hB.out.size) _)⟩
      case measure => simp [intOf]; omega
    · obtain rfl : i = N := by omega
      go_wp2
      go_ret
      have hX' := hX.out
      rw [show nmsTo d.now i = nms d.now from by rw [← HN.out]; exact nmsTo_all _] at hX'
      exact ⟨_, rfl, ⟨by rw [Nat.mul_one, ← HN.out]; simp [nms], .inr ⟨w.heap.size, i, _, rfl, Nat.le_refl _, hX', Nat.le_refl _, by unfold maxLen; omega, by rw [List.size_toArray, Nat.mul_one, ← HN.out]; simp [nms], by rw [List.toList_toArray, Nat.mul_one]; exact List.take_of_length_le (by rw [← HN.out]; simp [nms])⟩⟩, hB.out⟩

theorem within_any (n : Int) (m : Nat) (w : World) :
    Calls Try.prog 46 #[.int .i64 n, .int .i64 (m : Int)] w fun e w' => e = .returned (.int .i64 (clampN n m : Int)) ∧ w = w' := by
  obtain ⟨r, hr⟩ : ∃ r, clampN n m = r := ⟨_, rfl⟩
  rw [hr]
  unfold clampN at hr
  by_cases h1 : n < 0
  · obtain rfl : r = 0 := by rw [← hr]; omega
    clear hr
    have h2 : (0 : Int) ≤ (m : Int) := by omega
    go_enter Try.func46, Try.ntmps46
    go_wp2
    all_goals
      go_ret
      exact ⟨rfl, rfl⟩
  · obtain ⟨q, rfl⟩ := Int.eq_ofNat_of_zero_le (show 0 ≤ n by omega)
    rw [show ((q : Int)).toNat = q from rfl] at hr
    have h0 : (0 : Int) ≤ (q : Int) := by omega
    by_cases h2 : q ≤ m
    · obtain rfl : r = q := by rw [← hr]; omega
      have h2' : (r : Int) ≤ (m : Int) := by omega
      clear hr
      go_enter Try.func46, Try.ntmps46
      go_wp2
      all_goals
        first
        | (go_ret; exact ⟨rfl, rfl⟩)
        | (exfalso; omega)
    · obtain rfl : r = m := by rw [← hr]; omega
      have h2' : (r : Int) < (q : Int) := by omega
      clear hr
      go_enter Try.func46, Try.ntmps46
      go_wp2
      all_goals
        first
        | (go_ret; exact ⟨rfl, rfl⟩)
        | (exfalso; omega)

theorem Try.infoPck : (Try.prog.info? 107).map (fun i => (i.zero, i.size, i.bytes)) = some (some (.agg #[.int .i64 0, .int .u8 0]), 2, 16) := by kernel_rfl
theorem Try.sizePck : (Try.prog.info? 107).map (·.size) = some 2 := by kernel_rfl
def pck (p : Pck) : List Value := [.int .i64 p.keep, .int .u8 (p.turn.toNat : Int)]
theorem pck_len (p : Pck) : (pck p).length = 2 := rfl
abbrev pckV (p : Pck) : Value := .agg #[.int .i64 p.keep, .int .u8 (p.turn.toNat : Int)]

set_option maxHeartbeats 1000000 in
theorem of_any (names : Int) (v : Value) (ps : List Pck) (k : Nat) (w : World) (hv : IsX w 2 v ps.length (row pck ps)) (hl : ps.length ≤ 1048576) :
    Calls Try.prog 49 #[.agg #[.int .i64 names, v], .int .i64 (k : Int)] w fun e w' => e = .returned (pckV (pickAt ps k)) ∧ Below w.heap.size w w' := by
  obtain ⟨N, hN⟩ : ∃ N, ps.length = N := ⟨_, rfl⟩
  have hlen := fun W => len_X (P := Try.prog) hv 62 3 _ Try.underlying62 W
  obtain ⟨x, cap, rfl, hlc, hcm⟩ := hv.slice
  rw [hN] at hlen hl hv hlc
  have HV := Lib.hid hv
  have HN := Lib.hid hN
  clear hv
  by_cases h : N ≤ k
  · have h' : (N : Int) ≤ (k : Int) := by omega
    have hp : pickAt ps k = ⟨0, 0⟩ := by unfold pickAt; rw [List.getD_eq_getElem?_getD, List.getElem?_eq_none (by omega)]; rfl
    rw [hp]
    rw [hN]
    clear hp hN hlen
    go_enter Try.func49, Try.ntmps49
    go_wp2
    refine bodyPost_ret (v := .agg #[.int .i64 0, .int .u8 0]) (by simp [results, Try.results49, go_sem]) rfl ⟨rfl, ?_⟩
    exact ((Below.refl _ _).alloc (Nat.le_refl _) _).alloc (by simp) _
  · have h' : ¬ (N : Int) ≤ (k : Int) := by omega
    obtain ⟨p, hp⟩ : ∃ p, ps[k]? = some p := ⟨_, List.getElem?_eq_getElem (by omega)⟩
    have hpa : pickAt ps k = p := by unfold pickAt; rw [List.getD_eq_getElem?_getD, hp]; rfl
    rw [hpa, hN]
    obtain ⟨b, o, hidx, hob, hc⟩ := indexAt_X HV.out 62 _ Try.underlying62 Try.sizePck k (by omega)
    have k0 : w.cell? ⟨b, o, none⟩ = some (.int .i64 p.keep) := by
      have := hc 0 (by decide)
      rw [row_get pck_len hp 0 (by decide)] at this
      exact this
    have k1 : w.cell? ⟨b, o + 1, none⟩ = some (.int .u8 (p.turn.toNat : Int)) := by
      have := hc 1 (by decide)
      rw [row_get pck_len hp 1 (by decide)] at this
      exact this
    have hbl : b < w.heap.size := cell_lt k0
    clear hpa hp hc hN hob
    go_enter Try.func49, Try.ntmps49
    go_wp2
    refine bodyPost_ret (v := pckV p) (by simp [results, Try.results49, go_sem]) rfl ⟨rfl, ?_⟩
    exact ((Below.refl _ _).alloc (Nat.le_refl _) _).alloc (by simp) _

end Go.Proofs.Ytnofabeajcdddaa
