/- Do7, Do. -/
import Derived.Test.YtlaighghagcjjaaDo6

section
namespace Go.Proofs.Ytlaighghagcjjaa
open Go.RowKit Go.Cor
set_option linter.unusedVariables false
set_option linter.unusedSimpArgs false

theorem Try.sizeCmdD : (Try.prog.info? 56).map (·.size) = some 8 := by kernel_rfl
/-- A command of a slice of commands. -/
theorem cmd_at {w : World} {v : Value} {l : List Cm} {i : Nat} {c : Cm} (hv : IsX w 8 v l.length (row ccl l)) (he : l[i]? = some c) :
    ∃ b o, (∀ W, (Instr.indexAt 63 v (.int .i64 (i : Int))).run Try.prog W = .ok (.pointer (some ⟨b, o, none⟩)) W) ∧ w.cell? ⟨b, o, none⟩ = some (.int .i64 c.kind) ∧ w.cell? ⟨b, o + 1, none⟩ = some (.int .i64 c.vol) ∧ w.cell? ⟨b, o + 2, none⟩ = some (.int .i64 c.ep) ∧ w.cell? ⟨b, o + 3, none⟩ = some (.int .i64 c.at_) ∧ w.cell? ⟨b, o + 4, none⟩ = some (.int .i64 c.node) ∧ w.cell? ⟨b, o + 5, none⟩ = some (.int .i64 c.a) ∧ w.cell? ⟨b, o + 6, none⟩ = some (.int .i64 c.b) ∧ w.cell? ⟨b, o + 7, none⟩ = some (.int .i64 c.c) := by
  obtain ⟨b, o, hx, _, hc⟩ := indexAt_X (P := Try.prog) hv 63 56 Try.underlying63 Try.sizeCmdD i (List.getElem?_eq_some_iff.1 he).1
  have hg : ∀ j, j < 8 → w.cell? ⟨b, o + j, none⟩ = (ccl c)[j]? := fun j hj => by rw [hc j hj, row_get ccl_len he j hj]
  exact ⟨b, o, hx, hg 0 (by decide), hg 1 (by decide), hg 2 (by decide), hg 3 (by decide), hg 4 (by decide), hg 5 (by decide), hg 6 (by decide), hg 7 (by decide)⟩
theorem rep_step {l : List Cm} {i : Nat} {c : Cm} (h : l[i]? = some c) : repL [] (l.take (i + 1)) = doL (repL [] (l.take i)) c ∧ repN [] (l.take (i + 1)) = repN [] (l.take i) + (if doK (repL [] (l.take i)) c = 0 then 1 else 0) := by
  have e : l.take (i + 1) = l.take i ++ [c] := by rw [List.take_add_one, h]; rfl
  rw [e, repL_append, repN_append]
  exact ⟨rfl, rfl⟩
theorem mp_low19 {w : World} {B B' g : Nat} {S : Nat → Prop} {L : List En} (hm : Mp w B g S L) (h : B' ≤ B) : Mp w B' g S L := by
  obtain ⟨v, m1, m2, m3, m4, m5, m6⟩ := hm
  exact ⟨v, m1, ownsRow_base m2 h, m3, m4, m5, fun k hk => ⟨Nat.le_trans h (m6 k hk).1, (m6 k hk).2⟩⟩
set_option maxRecDepth 100000 in
set_option maxHeartbeats 2000000 in
theorem dreplay (w : World) (v : Value) (l : List Cm) (h : IsX w 8 v l.length (row ccl l)) (hl : l.length ≤ 100000) :
    Calls Try.prog 31 #[v] w fun e w' => ∃ g S, e = .returned (.tuple #[.pointer (some ⟨g, 0, none⟩), .int .i64 (repN [] l : Int)]) ∧ Mp w' w.heap.size g S (repL [] l) ∧ Below w.heap.size w w' := by
  obtain ⟨N, hN⟩ : ∃ N, l.length = N := ⟨_, rfl⟩
  have hlen := fun W => len_X (P := Try.prog) h 63 3 56 Try.underlying63 W
  have HV := Lib.hid h
  rw [hN] at hlen hl
  have HN := Lib.hid hN
  clear h hN
  go_enter Try.func31, Try.ntmps31
  go_wp2_with fail
  refine (dnew _).mono ?_
  rintro e w2 ⟨g, S, rfl, h1, hb1⟩
  have H1 := Lib.hid h1
  have HB1 := Lib.hid hb1
  clear h1 hb1
  go_wp2_with fail
  go_loopw [5, 13] (fun d c wr => ∃ (i : Nat) (S' : Nat → Prop), i ≤ N ∧ c = .int .i64 i ∧ d = .int .i64 (repN [] (l.take i) : Int) ∧ Mp wr w.heap.size g S' (repL [] (l.take i)) ∧ Below w.heap.size w wr) (fun _ c _ => N - (intOf c).toNat)
  case atStart => exact ⟨0, S, Nat.zero_le _, rfl, rfl, H1.out, HB1.out⟩
  case round =>
    obtain ⟨i, S', hi, rfl, rfl, hm, hb⟩ := hrel
    by_cases hlt : i < N
    · obtain ⟨c, he⟩ : ∃ c, l[i]? = some c := ⟨_, List.getElem?_eq_getElem (by rw [HN.out]; exact hlt)⟩
      obtain ⟨b, q, hidx, k0, k1, k2, k3, k4, k5, k6, k7⟩ := cmd_at (HV.out.mono hb (Nat.le_refl _)) he
      obtain ⟨e1, e2⟩ := rep_step he
      have hok : LOk (repL [] (l.take i)) 1000000 := (repL_ok (LOk.nil 1) (Nat.le_refl _) (l.take i)).more (by rw [List.length_take]; omega)
      have hnl := repN_le [] (l.take i)
      rw [List.length_take] at hnl
      have HD := Lib.hid (fun x => ddo (wr.alloc x) w.heap.size g S' (repL [] (l.take i)) c (hm.alloc x) hok)
      obtain ⟨M, hM⟩ : ∃ M, repN [] (l.take i) = M := ⟨_, rfl⟩
      rw [hM] at e2 hnl ⊢
      obtain ⟨K, hK⟩ : ∃ K, doK (repL [] (l.take i)) c = K := ⟨_, rfl⟩
      rw [hK] at e2 HD
      obtain ⟨D, hD⟩ : ∃ D, doN (repL [] (l.take i)) c = D := ⟨_, rfl⟩
      rw [hD] at HD
      have HB := Lib.hid hb
      have HM := Lib.hid hm
      have HE1 := Lib.hid e1
      have HE2 := Lib.hid e2
      have hw1 : wrap64 ((M : Int) + 1) = (M : Int) + 1 := IntWalk.wrap64_in _ (by omega)
      clear hb hm e1 e2 he hok hM hK hD
      go_wp2_with fail
      unfold cval at HD
      refine (HD.out _).mono ?_
      rintro r w3 ⟨rfl, h3⟩
      obtain ⟨S3, h4, h5, h6⟩ := h3.alloc.out
      have H4 := Lib.hid (show Mp w3 w.heap.size g S3 (repL [] (l.take (i + 1))) from by rw [HE1.out]; exact h4)
      have HB4 := Lib.hid (Kept.below_trans HB.out h6 HB.out.size (fun k hk hs => by have := (HM.out.lt hs).1; omega))
      clear h3 h4 h5 h6 k0 k1 k2 k3 k4 k5 k6 k7 hidx
      by_cases hk0 : K = 0
      · subst hk0
        rw [derr_zero]
        rw [if_pos rfl] at HE2
        go_wp2
        go_roundw
        case rel => exact ⟨i + 1, S3, by omega, by go_num, by rw [HE2.out]; go_num, H4.out, HB4.out⟩
        case measure => simp [intOf]; omega
      · rw [derr_pos hk0]
        rw [if_neg hk0] at HE2
        go_wp2
        go_roundw
        case rel => exact ⟨i + 1, S3, by omega, by go_num, by rw [HE2.out]; rfl, H4.out, HB4.out⟩
        case measure => simp [intOf]; omega
    · obtain rfl : i = N := by omega
      rw [List.take_of_length_le (by rw [HN.out]; exact Nat.le_refl _)] at hm ⊢
      have HM := Lib.hid hm
      have HB := Lib.hid hb
      clear hm hb
      go_wp2
      go_ret2
      exact ⟨g, S', rfl, HM.out, HB.out⟩
end Go.Proofs.Ytlaighghagcjjaa
end

section
set_option linter.unusedVariables false
set_option linter.unusedSimpArgs false
namespace Go.Proofs.Ytlaighghagcjjaa
end Go.Proofs.Ytlaighghagcjjaa
end
