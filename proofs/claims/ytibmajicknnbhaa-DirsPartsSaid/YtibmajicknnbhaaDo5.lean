/- Package dirs: On. -/
import Derived.Test.YtibmajicknnbhaaDo4
namespace Go.Proofs.Ytibmajicknnbhaa
open Go.RowKit Go.Cor
set_option linter.unusedVariables false
set_option linter.unusedSimpArgs false

theorem Try.infoInt19 : (Try.prog.info? 3).map (fun i => (i.zero, i.size, i.bytes)) = some (some (.int .i64 0), 1, 8) := by kernel_rfl
theorem onL_step {L : List En} {i : Nat} {e : En} (h : L[i]? = some e) (n : Int) : onL (L.take (i + 1)) n = onL (L.take i) n ++ (if hasE e n then [e.vol] else []) := by
  unfold onL
  rw [List.take_add_one, h, List.filter_append, List.map_append]
  congr 1
  by_cases hh : hasE e n
  · simp [hh]
  · simp [hh]
theorem onL_le (L : List En) (n : Int) : (onL L n).length ≤ L.length := by
  unfold onL
  rw [List.length_map]
  exact List.length_filter_le _ _
theorem icl_one (l : List Nat) : ∀ u ∈ row icl l, u.oneCell' = true := row_mem fun x _ v hv => by
  obtain rfl := List.mem_singleton.1 hv
  rfl
/-- An entry in a box of its own. -/
theorem et_new (w : World) (e : En) (T : TypeId) : Et (w.alloc (.cells #[.int .i64 (e.vol : Int), .int .i64 (e.ep : Int), .int .i64 (e.a : Int), .int .i64 (e.b : Int), .int .i64 (e.c : Int), .bool e.sl] T)) w.heap.size 0 e := by
  have h := Blk.new w #[.int .i64 (e.vol : Int), .int .i64 (e.ep : Int), .int .i64 (e.a : Int), .int .i64 (e.b : Int), .int .i64 (e.c : Int), .bool e.sl] T
  exact ⟨h.cell 0 rfl, h.cell 1 rfl, h.cell 2 rfl, h.cell 3 rfl, h.cell 4 rfl, h.cell 5 rfl, h.free, h.lt⟩
/-- An entry of a slice of entries. -/
theorem ent_at {w : World} {v : Value} {L : List En} {i : Nat} {e : En} (hv : IsX w 6 v L.length (row ecl L)) (he : L[i]? = some e) :
    ∃ b o, (∀ W, (Instr.indexAt 39 v (.int .i64 (i : Int))).run Try.prog W = .ok (.pointer (some ⟨b, o, none⟩)) W) ∧ w.cell? ⟨b, o, none⟩ = some (.int .i64 (e.vol : Int)) ∧ w.cell? ⟨b, o + 1, none⟩ = some (.int .i64 (e.ep : Int)) ∧ w.cell? ⟨b, o + 2, none⟩ = some (.int .i64 (e.a : Int)) ∧ w.cell? ⟨b, o + 3, none⟩ = some (.int .i64 (e.b : Int)) ∧ w.cell? ⟨b, o + 4, none⟩ = some (.int .i64 (e.c : Int)) ∧ w.cell? ⟨b, o + 5, none⟩ = some (.bool e.sl) := by
  obtain ⟨b, o, hx, _, hc⟩ := indexAt_X (P := Try.prog) hv 39 35 Try.underlying39 Try.sizeEntD i (List.getElem?_eq_some_iff.1 he).1
  have hg : ∀ j, j < 6 → w.cell? ⟨b, o + j, none⟩ = (ecl e)[j]? := fun j hj => by rw [hc j hj, row_get ecl_len he j hj]
  exact ⟨b, o, hx, hg 0 (by decide), hg 1 (by decide), hg 2 (by decide), hg 3 (by decide), hg 4 (by decide), hg 5 (by decide)⟩
set_option maxRecDepth 100000 in
set_option maxHeartbeats 2000000 in
theorem don (w : World) (B g : Nat) (S : Nat → Prop) (L : List En) (n : Int) (h : Mp w B g S L) (hL : LOk L 1000000) :
    Calls Try.prog 12 #[.pointer (some ⟨g, 0, none⟩), .int .i64 n] w fun e w' => ∃ v, e = .returned v ∧ IsX w' 1 v (onL L n).length (row icl (onL L n)) ∧ Below w.heap.size w w' := by
  obtain ⟨v, hm⟩ := h.mv
  obtain ⟨i0, hi0, hz0, hz1, hz2⟩ := info_parts Try.infoInt19
  have HI0 := Lib.hid hi0
  have HZ0 := Lib.hid hz0
  have HZ1 := Lib.hid hz1
  have HZ2 := Lib.hid hz2
  have HV := Lib.hid (isX_own19 hm.row)
  have hlen := fun W => len_X (P := Try.prog) (isX_own19 hm.row) 39 3 35 Try.underlying39 W
  have HK := Lib.hid (hm.blk.cell 0 rfl)
  obtain ⟨N, hN⟩ : ∃ N, L.length = N := ⟨_, rfl⟩
  have hN4 := hL.len
  rw [hN] at hlen hN4
  have HN := Lib.hid hN
  clear h hm hL hi0 hz0 hz1 hz2 hN
  go_enter Try.func12, Try.ntmps12
  go_wp2_with fail
  refine (dents_any _ _ _ HK.out).mono ?_
  rintro e w2 ⟨rfl, rfl⟩
  go_wp2_with fail
  go_loopw [5, 11] (fun o c wr => ∃ i : Nat, i ≤ N ∧ c = .int .i64 i ∧ wr.ownsRow w.heap.size 3 1 o (onL (L.take i) n).length (row icl (onL (L.take i) n)) ∧ Below w.heap.size w wr) (fun _ c _ => N - (intOf c).toNat)
  case atStart => exact ⟨0, Nat.zero_le _, rfl, World.ownsRow_nil _ _ _ _, Below.refl _ _⟩
  case round =>
    obtain ⟨i, hi, rfl, hown, hb⟩ := hrel
    by_cases hlt : i < N
    · obtain ⟨e, he⟩ : ∃ e, L[i]? = some e := ⟨_, List.getElem?_eq_getElem (by rw [HN.out]; exact hlt)⟩
      obtain ⟨b, q, hidx, k0, k1, k2, k3, k4, k5⟩ := ent_at (HV.out.mono hb (Nat.le_refl _)) he
      have HO := Lib.hid hown
      have HB := Lib.hid hb
      have HE := Lib.hid he
      have HX := Lib.hid (et_new wr e 35)
      have HC := Lib.hid (dcontains (.slice (some ⟨wr.heap.size, 0 + 2, none⟩) 3 3) [(e.a : Int), (e.b : Int), (e.c : Int)] n _ HX.out.isX (by simp))
      clear hown hb he
      by_cases hh : hasE e n
      · rw [decide_eq_true ((hasE_mem e n).2 hh)] at HC
        go_wp2_with fail
        refine HC.out.mono ?_
        rintro r w3 ⟨rfl, rfl⟩
        obtain ⟨W1, hW1⟩ : ∃ W1, wr.alloc (.cells #[.int .i64 (e.vol : Int), .int .i64 (e.ep : Int), .int .i64 (e.a : Int), .int .i64 (e.b : Int), .int .i64 (e.c : Int), .bool e.sl] 35) = W1 := ⟨_, rfl⟩
        have hb1 : Below wr.heap.size wr W1 := hW1 ▸ below_new19 wr _
        have hs1 : W1.heap.size = wr.heap.size + 1 := by rw [← hW1]; simp
        have HO1 := Lib.hid (ownsRow_below (ownsRow_below HO.out hb1 (Nat.le_refl _)) (below_new19 W1 (.cells #[.int .i64 (e.vol : Int)] 3)) (Nat.le_refl _))
        have HB1 := Lib.hid ((HB.out.trans (hb1.mono HB.out.size)).trans ((below_new19 W1 (.cells #[.int .i64 (e.vol : Int)] 3)).mono (by have := HB.out.size; omega)))
        have HL1 := Lib.hid (hs1 ▸ IsX.lit W1 #[.int .i64 (e.vol : Int)] 3 1 1 rfl (by decide))
        have HG1 := Lib.hid (show (onL (L.take i) n).length ≤ 4096 from by have h1 := onL_le (L.take i) n; rw [List.length_take] at h1; omega)
        have HS1 := Lib.hid (show w.heap.size ≤ (W1.alloc (.cells #[.int .i64 (e.vol : Int)] 3)).heap.size from HB1.out.size)
        have x0 := HX.out.c0
        rw [hW1] at x0 ⊢
        have HT1 := Lib.hid (show w.heap.size ≤ wr.heap.size from HB.out.size)
        clear hW1 hb1 k0 k1 k2 k3 k4 k5 hidx
        go_wp2_with (at_builtin; refine wpList_append_X (by rfl) _ _ 41 41 rfl (fun _ _ _ => rfl) w.heap.size 3 i0 _ 1 8 Try.underlying41 HI0.out HZ0.out HZ1.out HZ2.out rfl (by decide) _ _ _ rfl HO1.out _ 1 _ rfl HL1.out (by intro u hu; obtain rfl := List.mem_singleton.1 hu; rfl) (by have := HG1.out; unfold maxLen; omega) (by have := HG1.out; omega) HS1.out ?_; intro v4 w4 hown4 hb4 hl4)
        have HO4 := Lib.hid (show w4.ownsRow w.heap.size 3 1 v4 (onL (L.take (i + 1)) n).length (row icl (onL (L.take (i + 1)) n)) from by rw [onL_step HE.out n, if_pos hh, row_append, row_one, List.length_append]; exact hown4)
        have HB4 := Lib.hid (HB1.out.grown hb4 HS1.out (fun k hk => (HO1.out.lt k hk).1))
        clear hown4 hb4 hl4
        go_wp2
        go_roundw
        case rel => exact ⟨i + 1, by omega, by go_num, HO4.out, HB4.out⟩
        case measure => simp [intOf]; omega
      · rw [decide_eq_false (fun h => hh ((hasE_mem e n).1 h))] at HC
        go_wp2_with fail
        refine HC.out.mono ?_
        rintro r w3 ⟨rfl, rfl⟩
        go_wp2
        go_roundw
        case rel => exact ⟨i + 1, by omega, by go_num, by rw [onL_step HE.out n, if_neg hh, List.append_nil]; exact ownsRow_below HO.out (below_new19 _ _) (Nat.le_refl _), HB.out.alloc HB.out.size _⟩
        case measure => simp [intOf]; omega
    · obtain rfl : i = N := by omega
      rw [List.take_of_length_le (by rw [HN.out]; exact Nat.le_refl _)] at hown
      have HO := Lib.hid hown
      have HB := Lib.hid hb
      clear hown hb
      go_wp2
      go_ret
      exact ⟨_, rfl, IsX.own HO.out, HB.out⟩
set_option maxRecDepth 100000 in
theorem don_nil (w : World) (n : Int) : Calls Try.prog 12 #[.pointer none, .int .i64 n] w fun e w' => ∃ v, e = .returned v ∧ IsX w' 1 v 0 [] ∧ Below w.heap.size w w' := by
  have hlen := fun W => len_X (P := Try.prog) (IsX.nil w 6) 39 3 35 Try.underlying39 W
  go_enter Try.func12, Try.ntmps12
  go_wp2_with fail
  refine (dents_nil _).mono ?_
  rintro e w2 ⟨rfl, rfl⟩
  go_wp2_with fail
  go_loopw [5, 11] (fun o c wr => o = .slice none 0 0 ∧ c = .int .i64 0 ∧ wr = w) (fun _ c _ => 0)
  case atStart => exact ⟨rfl, rfl, rfl⟩
  case round =>
    obtain ⟨rfl, rfl, rfl⟩ := hrel
    go_wp2
    go_ret
    exact ⟨_, rfl, IsX.nil _ 1, Below.refl _ _⟩
end Go.Proofs.Ytibmajicknnbhaa
