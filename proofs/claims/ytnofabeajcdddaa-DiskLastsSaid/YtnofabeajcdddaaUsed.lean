/- Package disk: Used; small facts. -/
import Derived.Test.YtnofabeajcdddaaFin
namespace Go.Proofs.Ytnofabeajcdddaa
open Go.RowKit Go.Cor

theorem Try.sizeU8b : (Try.prog.info? 5).map (·.size) = some 1 := by kernel_rfl
theorem fbox_facts {w : World} {g : Nat} {a0 a1 a2 : Value} {T : TypeId} (h : Blk w g #[a0, a1, a2] T) : w.cell? ⟨g, 0, none⟩ = some a0 ∧ w.cell? ⟨g, 1, none⟩ = some a1 ∧ w.cell? ⟨g, 2, none⟩ = some a2 := ⟨h.cell 0 rfl, h.cell 1 rfl, h.cell 2 rfl⟩
theorem bvs_take (l : List UInt8) (k : Nat) : (bvs l).take k = bvs (l.take k) := by simp [bvs]
theorem isNm_ne {t : ByteArray} (h : isNm t = true) : t ≠ noName := by
  rintro rfl
  cases h
theorem isX_of_B {w : World} {v : Value} {l : List UInt8} (h : IsB w v l) : IsX w 1 v l.length (bvs l) := by
  obtain ⟨a, cap, rfl, h1, h2, h0, h3⟩ := h
  refine ⟨a, cap, rfl, h1, h2, by simp, h0, ?_⟩
  rcases h3 with h3 | ⟨b, off, rfl, hc⟩
  · exact .inl h3
  · refine .inr ⟨b, off, rfl, fun j hj => ?_⟩
    rw [Nat.mul_one] at hj
    rw [hc j hj, bvs_get hj]
theorem usedT_append (fs : List Fil) (a b : Tbl) : usedT fs (a ++ b) = usedT fs a + usedT fs b := by
  induction a with
  | nil => simp [usedT]
  | cons e r ih => simp only [List.cons_append, usedT, ih]; omega
theorem usedT_snoc (fs : List Fil) (l : Tbl) (i : Nat) {e : ByteArray × Nat} (h : l[i]? = some e) : usedT fs (l.take (i + 1)) = usedT fs (l.take i) + (fat fs e.2).b.length := by
  obtain ⟨hi, he⟩ := List.getElem?_eq_some_iff.1 h
  rw [List.take_succ_eq_append_getElem hi, usedT_append, he]
  simp [usedT]
theorem usedT_le (fs : List Fil) (l : Tbl) (h : ∀ f ∈ fs, f.b.length ≤ 16777216) : usedT fs l ≤ l.length * 16777216 := by
  induction l with
  | nil => simp [usedT]
  | cons e r ih =>
    have h1 : (fat fs e.2).b.length ≤ 16777216 := by
      unfold fat
      rw [List.getD_eq_getElem?_getD]
      cases he : fs[e.2]? with
      | none => simp
      | some f => exact h f (List.mem_of_getElem? he)
    simp only [usedT, List.length_cons]
    omega

set_option maxRecDepth 100000 in
set_option maxHeartbeats 1000000 in
theorem used_any (w : World) (L : Lay) (d : Dsk) (k : Nat) (h : Ready w L d k) :
    Calls Try.prog 29 #[.pointer (some ⟨L.p, 0, none⟩)] w fun e w' => e = .returned (.int .i64 (d.used : Int)) ∧ Below w.heap.size w w' := by
  have H := Lib.hid h
  obtain ⟨N, hN⟩ : ∃ N, d.now.length = N := ⟨_, rfl⟩
  have hNl := h.now_len
  obtain ⟨_, _, c2, _, _, _, _⟩ := box_facts h.at'.blk
  have hlen := fun W => len_X (P := Try.prog) (IsX.own h.at'.rest.now) 79 3 _ Try.underlying79 W
  obtain ⟨U, hU⟩ : ∃ U, d.used = U := ⟨_, rfl⟩
  rw [hN] at hNl hlen
  rw [hU]
  have HN := Lib.hid hN
  have HU := Lib.hid hU
  clear h hN hU
  go_enter Try.func29, Try.ntmps29
  go_wp2
  go_loopw [3, 13] (fun u c wr => ∃ i : Nat, i ≤ N ∧ c = .int .i64 i ∧ u = .int .i64 (usedT d.files (d.now.take i)) ∧ Hid (Below w.heap.size w wr)) (fun _ c _ => N - (intOf c).toNat)
  case atStart => exact ⟨0, Nat.zero_le _, rfl, rfl, Lib.hid (Below.refl _ _)⟩
  case round =>
    obtain ⟨i, hiN, rfl, rfl, hB⟩ := hrel
    by_cases hlt : i < N
    · obtain ⟨e, he⟩ : ∃ e, d.now[i]? = some e := ⟨_, List.getElem?_eq_getElem (by rw [HN.out]; omega)⟩
      have hem := List.mem_of_getElem? he
      have hfl := (H.out.ok.nowF e hem).1
      obtain ⟨b, o, hidx, hob, k0, k1⟩ := indexAt_T (IsX.own (ownsRow_below H.out.at'.rest.now hB.out (Nat.le_refl _))) 79 Try.underlying79 he
      have hbl := cell_lt k0
      have HX := Lib.hid ((H.out.at'.below hB.out (Nat.le_refl _)).rest.box e.2 hfl)
      obtain ⟨_, f1, _⟩ := fbox_facts HX.out
      have hfb := HX.out.lt
      have hlen2 := fun W => len_X (P := Try.prog) (IsX.own (H.out.at'.rest.byt e.2 hfl)) 37 3 _ Try.underlying37 W
      have hsn := usedT_snoc d.files d.now i he
      obtain ⟨M, hM⟩ : ∃ M, (fat d.files e.2).b.length = M := ⟨_, rfl⟩
      obtain ⟨A, hA⟩ : ∃ A, usedT d.files (d.now.take i) = A := ⟨_, rfl⟩
      have hMl : M ≤ 16777216 := by rw [← hM]; exact (H.out.fil hfl).2
      have hAl : A ≤ 1677721600000 := by
        have := usedT_le d.files (d.now.take i) (fun f hf => (H.out.ok.fil f hf).2)
        rw [List.length_take, hA] at this
        omega
      rw [hM] at hsn hlen2
      rw [hA] at hsn
      have HSN := Lib.hid hsn
      rw [hA]
      have hbl' : b < wr.heap.size := hbl
      clear hem he hM hA hsn hbl
      go_wp2
      go_roundw
      case rel => exact ⟨i + 1, by omega, by go_num, by rw [HSN.out]; go_num, Lib.hid (hB.out.alloc hB.out.size _)⟩
      case measure => simp [intOf]; omega
    · obtain rfl : i = N := by omega
      go_wp2
      go_ret
      refine ⟨?_, hB.out⟩
      rw [← HU.out]
      unfold Dsk.used
      rw [List.take_of_length_le (by rw [HN.out]; omega)]
      rfl

end Go.Proofs.Ytnofabeajcdddaa
