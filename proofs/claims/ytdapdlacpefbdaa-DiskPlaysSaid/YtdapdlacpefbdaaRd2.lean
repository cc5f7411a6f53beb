/- The document's disk: Used, a deed of names: by contracts. -/
import Derived.Test.YtdapdlacpefbdaaRd
import Derived.Test.YtdapdlacpefbdaaUsed
namespace Go.Proofs.Ytdapdlacpefbdaa
open Go.RowKit Go.Cor

theorem bel_drewN {B : Nat} {a w : World} (h : Below B a w) (n : Nat) : Below B a (w.drewN n) := by
  induction n generalizing w with
  | zero => exact h
  | succ n ih => exact (ih h).drew

set_option maxRecDepth 100000 in
set_option maxHeartbeats 4000000 in
theorem rused_any (w : World) (g : Nat) (L : RL) (R : Nat → Prop) (d : Dsk) (k : Nat) (h : RAt w g L R d) (ok : d.Ok k) (hk : k ≤ 90000) :
    Calls Try.prog 32 #[.pointer (some ⟨g, 0, none⟩)] w fun e w' => e = .returned (.int .i64 (d.used : Int)) ∧ Below w.heap.size w w' := by
  have H := Lib.hid h
  have HO := Lib.hid ok
  obtain ⟨N, hN⟩ : ∃ N, d.now.length = N := ⟨_, rfl⟩
  have hNl : N ≤ 90000 := by have h1 := ok.nowN; have h2 := ok.lenN; omega
  have hlen := fun W => len_X (P := Try.prog) h.rest.now 31 3 _ Try.underlying31 W
  obtain ⟨U, hU⟩ : ∃ U, d.used = U := ⟨_, rfl⟩
  obtain ⟨_, c1, _, _, _, _⟩ := h.facts
  rw [hN] at hlen
  rw [hU]
  have HN := Lib.hid hN
  have HU := Lib.hid hU
  clear h hN hU ok
  go_enter Try.func32, Try.ntmps32
  go_wp2
  go_loopw [3, 4] (fun u c wr => ∃ i : Nat, i ≤ N ∧ c = .int .i64 i ∧ u = .int .i64 (usedT d.files (d.now.take i)) ∧ Hid (Below w.heap.size w wr)) (fun _ c _ => N - (intOf c).toNat)
  case atStart => exact ⟨0, Nat.zero_le _, rfl, rfl, Lib.hid (Below.refl _ _)⟩
  case round =>
    obtain ⟨i, hiN, rfl, rfl, hB⟩ := hrel
    have HR := Lib.hid (H.out.below hB.out)
    obtain ⟨_, k1, _, _, k4, _⟩ := HR.out.facts
    by_cases hlt : i < N
    · obtain ⟨e, he⟩ : ∃ e, d.now[i]? = some e := ⟨_, List.getElem?_eq_getElem (by rw [HN.out]; omega)⟩
      have hem := List.mem_of_getElem? he
      have hfl := (HO.out.nowF e hem).1
      obtain ⟨b, o, hidx, hob, e0, e1⟩ := indexAt_N HR.out.rest.now he
      obtain ⟨fv, hfv, hfB⟩ := HR.out.rest.fileAt hfl
      obtain ⟨b2, hb2, hidx2, hc2, _, _⟩ := indexAt_own HR.out.rest.fil 33 _ Try.underlying33 Try.sizeRFil e.2 (by rw [rfps_len HR.out.rest]; exact hfl)
      have f0 := hc2 0 (by decide)
      rw [row_get rfe_len hfv 0 (by decide)] at f0
      simp only [rfe, List.getElem?_cons_zero, Nat.add_zero] at f0
      have hlen2 := fun W => len_X (P := Try.prog) (isX_of_B hfB) 37 3 _ Try.underlying37 W
      have hsn := usedT_snoc d.files d.now i he
      obtain ⟨M, hM⟩ : ∃ M, (fat d.files e.2).b.length = M := ⟨_, rfl⟩
      obtain ⟨A, hA⟩ : ∃ A, usedT d.files (d.now.take i) = A := ⟨_, rfl⟩
      have hMl : M ≤ 16777216 := by
        rw [← hM]
        unfold fat
        rw [List.getD_eq_getElem?_getD, List.getElem?_eq_getElem hfl]
        exact (HO.out.fil _ (List.getElem_mem hfl)).2
      have hAl : A ≤ 1677721600000 := by
        have := usedT_le d.files (d.now.take i) (fun f hf => (HO.out.fil f hf).2)
        rw [List.length_take, hA] at this
        omega
      rw [hM] at hsn hlen2
      rw [hA] at hsn
      have HSN := Lib.hid hsn
      rw [hA]
      clear hem he hM hA hsn hc2 hfv hfB hb2 hob
      go_wp2
      go_quiet (fail)
      go_wp2
      go_roundw
      case rel => exact ⟨i + 1, by omega, by go_num, by rw [HSN.out]; go_num, Lib.hid (bel_drewN hB.out _)⟩
      case measure => simp [intOf]; omega
    · obtain rfl : i = N := by omega
      go_wp2
      go_ret
      refine ⟨?_, hB.out⟩
      rw [← HU.out]
      unfold Dsk.used
      rw [List.take_of_length_le (by rw [HN.out]; omega)]
      rfl

end Go.Proofs.Ytdapdlacpefbdaa
