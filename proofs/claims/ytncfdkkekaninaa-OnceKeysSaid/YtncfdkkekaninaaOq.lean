/- Package corncriblaw16: OnceKeys. -/
import Derived.Test.YtncfdkkekaninaaOa
import Derived.Test.YtncfdkkekaninaaOrdE
import Derived.Test.YtncfdkkekaninaaOc
import Derived.Deep.CutRange
set_option linter.unusedVariables false
set_option linter.unusedSimpArgs false
namespace Go.Proofs.Ytncfdkkekaninaa
open Go.RowKit Go.Cor

/-- The answer that is kept in round i; those that are there ahead of it. -/
def mi (i : Nat) : Msg := ⟨0, ((i % 7 : Nat) : Int), 5, 1, 0, i / 7, (i : Int), false, nz⟩
def ti (k i : Nat) : List Msg := (List.range (min k i)).map mi
theorem mi_has (i j : Nat) : hasP ((i % 7 : Nat) : Int) (i / 7) (mi j) = decide (i = j) := by
  cases h : decide (i = j) with
  | true =>
    have := of_decide_eq_true h
    subst this
    exact hasP_iff.2 ⟨rfl, rfl⟩
  | false =>
    have hne := of_decide_eq_false h
    cases h2 : hasP ((i % 7 : Nat) : Int) (i / 7) (mi j) with
    | false => rfl
    | true =>
      obtain ⟨h3, h4⟩ := hasP_iff.1 h2
      have h3' : ((j % 7 : Nat) : Int) = ((i % 7 : Nat) : Int) := h3
      have h4' : j / 7 = i / 7 := h4
      omega
theorem ti_not {k i : Nat} (h : k ≤ i ∨ True) {n : Nat} (hn : min k n ≤ i) : findP ((i % 7 : Nat) : Int) (i / 7) (ti k n) = -1 :=
  findP_none fun m hm => by
    obtain ⟨j, hj, rfl⟩ := List.mem_map.1 hm
    have := List.mem_range.1 hj
    rw [mi_has]
    exact decide_eq_false (by omega)
theorem ti_find {k n i : Nat} (h : i < min k n) : findP ((i % 7 : Nat) : Int) (i / 7) (ti k n) = (i : Int) := by
  refine findP_at (m := mi i) ?_ (fun x hx => ?_) (by rw [mi_has]; exact decide_eq_true rfl)
  · unfold ti
    rw [List.getElem?_map, List.getElem?_range h]
    rfl
  · unfold ti at hx
    rw [← List.map_take] at hx
    obtain ⟨j, hj, rfl⟩ := List.mem_map.1 hx
    rw [List.take_range] at hj
    have := List.mem_range.1 hj
    rw [mi_has]
    exact decide_eq_false (by omega)
theorem ti_len (k n : Nat) : (ti k n).length = min k n := by unfold ti; rw [List.length_map, List.length_range]
theorem mi_check {i : Nat} (h : i < 60) : mcheck (mi i) = 0 := by
  have hg : (mi i).good := by
    show (0 : Int) ≤ 0 ∧ (0 : Int) ≤ 255 ∧ (0 : Int) ≤ ((i % 7 : Nat) : Int) ∧ ((i % 7 : Nat) : Int) ≤ 255 ∧ (0 : Int) ≤ (i : Int) ∧ (i : Int) ≤ 255 ∧ (1 : Int) ≤ 5 ∧ (5 : Int) ≤ 5 ∧ ((5 : Int) < 5 → (i : Int) = 0) ∧ (1 : Int) ≤ 1 ∧ (1 : Int) ≤ 65535 ∧ (0 : Int) ≤ 0 ∧ (0 : Int) ≤ 2147483647
    omega
  unfold mcheck
  rw [if_neg (fun h => h hg), if_neg (by show ¬ false = true; decide), if_pos (by show sameN nz nz = true; exact (sameN_eq _ _).2 rfl)]
theorem ti_keep_ok {k i : Nat} (h : i < k) (h60 : i < 60) : keepK (k : Int) (ti k i) (mi i) = 0 ∧ keepL (k : Int) (ti k i) (mi i) = ti k (i + 1) := by
  have h1 : keepK (k : Int) (ti k i) (mi i) = 0 := by
    unfold keepK
    rw [if_pos (show (mi i).kd = 5 from rfl), if_pos (mi_check h60), if_neg (by show ¬ (0 : Int) ≤ findP ((i % 7 : Nat) : Int) (i / 7) (ti k i); rw [ti_not (.inr trivial) (by omega)]; decide), if_neg (by rw [ti_len]; omega)]
  refine ⟨h1, ?_⟩
  rw [keepL_ok h1]
  unfold ti
  rw [show min k (i + 1) = i + 1 by omega, show min k i = i by omega, List.range_succ, List.map_append]
  rfl
theorem ti_keep_no {k i : Nat} (h : k ≤ i) (h60 : i < 60) : keepK (k : Int) (ti k i) (mi i) = 11 ∧ keepL (k : Int) (ti k i) (mi i) = ti k (i + 1) := by
  have h1 : keepK (k : Int) (ti k i) (mi i) = 11 := by
    unfold keepK
    rw [if_pos (show (mi i).kd = 5 from rfl), if_pos (mi_check h60), if_neg (by show ¬ (0 : Int) ≤ findP ((i % 7 : Nat) : Int) (i / 7) (ti k i); rw [ti_not (.inr trivial) (by omega)]; decide), if_pos (by rw [ti_len]; omega)]
  refine ⟨h1, ?_⟩
  rw [keepL_no (by omega)]
  unfold ti
  rw [show min k (i + 1) = min k i by omega]
set_option maxRecDepth 100000 in
set_option maxHeartbeats 8000000 in
theorem onceKeys_all (m1 n1 : Nat) (w : World) (hm : m1 < 256) (hn : n1 < 256) :
    Calls Try.prog 5 #[.int .u8 (m1 : Int), .int .u8 (n1 : Int)] w fun e w' => e = .returned (.bool true) ∧ Below w.heap.size w w' := by
  obtain ⟨K, hK⟩ : ∃ K : Nat, 1 + m1 % 40 = K := ⟨_, rfl⟩
  obtain ⟨NN, hNN⟩ : ∃ N : Nat, n1 % 60 = N := ⟨_, rfl⟩
  have eK : 1 + (m1 : Int) % 40 = (K : Int) := by omega
  have eN : (n1 : Int) % 60 = (NN : Int) := by omega
  have hK1 : 1 ≤ K ∧ K ≤ 40 := by omega
  have hN60 : NN < 60 := by omega
  have HK1 := Lib.hid hK1
  have HN60 := Lib.hid hN60
  have HEK := Lib.hid eK
  have HEN := Lib.hid eN
  clear hK hNN eK eN hK1 hN60
  go_enter Try.func5, Try.ntmps5
  go_wp2_with fail
  refine (alive16 _).mono ?_
  rintro e w1 ⟨rfl, hb⟩
  have HB1 := Lib.hid hb
  clear hb
  go_upto_region 4 with fail
  rw [HEK.out]
  go_wp2_with fail
  refine (onew_ht (K : Int) w w1 HB1.out (by have := HK1.out; omega)).mono ?_
  rintro e w2 ⟨g, S2, rfl, h2, _, hb2⟩
  have HH2 := Lib.hid h2
  clear h2 hb2
  go_wp2_with fail
  go_loopw [8] (fun q8 wr => ∃ (i : Nat) (S : Nat → Prop), i ≤ NN ∧ q8 = .int .i64 i ∧ Hid (Ht w wr g S (K : Int) (ti K i))) (fun q8 _ => NN - (intOf q8).toNat)
  case atStart => exact ⟨0, S2, by omega, rfl, by rw [show ti K 0 = [] by unfold ti; rw [Nat.min_zero]; rfl]; exact HH2⟩
  case round =>
    obtain ⟨i, S, hi, rfl, HHr⟩ := hrel
    by_cases hlt : i < NN
    · have klt : (i : Int) < (n1 : Int) % 60 := by have := HEN.out; omega
      obtain ⟨A, hA⟩ : ∃ A : Nat, i % 7 = A := ⟨_, rfl⟩
      obtain ⟨B, hB⟩ : ∃ B : Nat, i / 7 = B := ⟨_, rfl⟩
      have eA : (i : Int) % 7 = (A : Int) := by omega
      have eB : (i : Int) / 7 = (B : Int) := by omega
      have hAn := hA
      have hBn := hB
      have h60 : i < 60 := by have := HN60.out; omega
      have ewB : IntKind.u64.wrap (B : Int) = (B : Int) := IntWalk.u64_in _ (by omega)
      have hs := okeep_any wr HHr.out.tb (mi i) none 0 0 (IsB.nil wr) ⟨by show (0 : Nat) < _; decide, by show (0 : Nat) < _; decide⟩ (by show i / 7 < _; omega)
      have hs2 : Calls Try.prog 12 #[.pointer (some ⟨g, 0, none⟩), .agg #[.int .i64 0, .int .i64 (A : Int), .int .i64 5, .int .i64 1, .int .i64 0, .int .u64 (B : Int), .int .i64 (i : Int), .bool false, .int .u64 0, .int .u32 0, .bool false, .slice none 0 0]] wr fun e w' => e = .returned (cerr (keepK (K : Int) (ti K i) (mi i))) ∧ TbT wr w.heap.size g S (K : Int) (keepL (K : Int) (ti K i) (mi i)) w' := by
        rw [← hA, ← hB]
        exact hs
      by_cases hk : i < K
      · rw [(ti_keep_ok hk h60).1, (ti_keep_ok hk h60).2, cerr_0] at hs2
        have HS := Lib.hid hs2
        have klt2 : decide ((i : Int) < (K : Int)) = true := decide_eq_true (by omega)
        have kge2 : decide ((K : Int) ≤ (i : Int)) = false := decide_eq_false (by omega)
        clear hs hs2 hA hB hAn hBn
        as_aux_lemma =>
          go_wp2_with fail
          refine HS.out.mono ?_
          rintro e w3 ⟨rfl, ht⟩
          obtain ⟨S3, h3, _, _⟩ := HHr.out.call ht
          have HH3 := Lib.hid h3
          clear ht h3
          go_wp2_with fail
          refine (code_nil _).mono ?_
          rintro e wx ⟨rfl, rfl⟩
          go_wp2
          go_roundw
          case rel => exact ⟨i + 1, S3, by omega, by go_num, HH3⟩
          case measure => simp [intOf]; omega
      · rw [(ti_keep_no (by omega) h60).1, (ti_keep_no (by omega) h60).2, cerr_pos (by decide)] at hs2
        have HS := Lib.hid hs2
        have klt2 : decide ((i : Int) < (K : Int)) = false := decide_eq_false (by omega)
        have kge2 : decide ((K : Int) ≤ (i : Int)) = true := decide_eq_true (by omega)
        clear hs hs2 hA hB hAn hBn
        as_aux_lemma =>
          go_wp2_with fail
          refine HS.out.mono ?_
          rintro e w3 ⟨rfl, ht⟩
          obtain ⟨S3, h3, _, _⟩ := HHr.out.call ht
          have HH3 := Lib.hid h3
          clear ht h3
          go_wp2_with fail
          refine (code_code 11 _ (by decide) (by decide)).mono ?_
          rintro e wx ⟨rfl, rfl⟩
          go_wp2
          go_roundw
          case rel => exact ⟨i + 1, S3, by omega, by go_num, HH3⟩
          case measure => simp [intOf]; omega
    · obtain ⟨wq, hwq⟩ : ∃ z, z = wr := ⟨_, rfl⟩
      subst hwq
      obtain rfl : i = NN := by omega
      have HHq := HHr
      have kge : ¬ (i : Int) < (n1 : Int) % 60 := by have := HEN.out; omega
      go_wp2_with fail
      clear kge
      go_loopw [10] (fun q10 wx => ∃ (j : Nat) (S1 : Nat → Prop), j ≤ i ∧ q10 = .int .i64 j ∧ Hid (Ht w wx g S1 (K : Int) (ti K i))) (fun q10 _ => i - (intOf q10).toNat)
      case atStart => exact ⟨0, S, by omega, rfl, HHq⟩
      case round =>
        obtain ⟨j, S1, hj, rfl, HHj⟩ := hrel
        by_cases hjl : j < i
        · have kjl : (j : Int) < (n1 : Int) % 60 := by have := HEN.out; omega
          obtain ⟨A, hA⟩ : ∃ A : Nat, j % 7 = A := ⟨_, rfl⟩
          obtain ⟨B, hB⟩ : ∃ B : Nat, j / 7 = B := ⟨_, rfl⟩
          have eA : (j : Int) % 7 = (A : Int) := by omega
          have eB : (j : Int) / 7 = (B : Int) := by omega
          have h60 : j < 60 := by have := HN60.out; omega
          have ewB : IntKind.u64.wrap (B : Int) = (B : Int) := IntWalk.u64_in _ (by omega)
          have hs := ofind_any wr HHj.out.tb ((j % 7 : Nat) : Int) (j / 7) (wfI_of (by omega) (by omega)) (wfU_of (by omega))
          by_cases hk : j < K
          · have hfp := ti_find (k := K) (n := i) (i := j) (by omega)
            have hfm : findM ((j % 7 : Nat) : Int) (j / 7) (ti K i) = mi j := by
              unfold findM
              rw [hfp, if_neg (by omega)]
              unfold ti
              simp [List.getD, List.getElem?_range (show j < min K i by omega)]
            have hfk : findK ((j % 7 : Nat) : Int) (j / 7) (ti K i) = 0 := by unfold findK; rw [hfp, if_neg (by omega)]
            rw [hfm, hfk, cerr_0] at hs
            have hs2 : Calls Try.prog 17 #[.pointer (some ⟨g, 0, none⟩), .int .i64 (A : Int), .int .u64 (B : Int)] wr fun e w' => ∃ zx zn zc, e = .returned (.tuple #[.agg #[.int .i64 0, .int .i64 (A : Int), .int .i64 5, .int .i64 1, .int .i64 0, .int .u64 (B : Int), .int .i64 (j : Int), .bool false, .int .u64 0, .int .u32 0, .bool false, .slice zx zn zc], .nilIface]) ∧ Below wr.heap.size wr w' := by
              rw [← hA, ← hB]
              exact hs.mono fun e w' ⟨z, n, c, h1, _, _, h2⟩ => ⟨z, n, c, h1, h2⟩
            have HS := Lib.hid hs2
            have klt2 : decide ((j : Int) < (K : Int)) = true := decide_eq_true (by omega)
            have kge2 : decide ((K : Int) ≤ (j : Int)) = false := decide_eq_false (by omega)
            clear hs hs2 hA hB hfp hfm hfk
            as_aux_lemma =>
              go_wp2_with fail
              refine HS.out.mono ?_
              rintro e w3 ⟨zx, zn, zc, rfl, hb⟩
              have HH3 := Lib.hid ((HHj.out.below hb).alloc (.cells #[.int .i64 0, .int .i64 (A : Int), .int .i64 5, .int .i64 1, .int .i64 0, .int .u64 (B : Int), .int .i64 (j : Int), .bool false, .int .u64 0, .int .u32 0, .bool false, .slice zx zn zc] 42))
              have HX3 := Lib.hid (Blk.new w3 #[.int .i64 0, .int .i64 (A : Int), .int .i64 5, .int .i64 1, .int .i64 0, .int .u64 (B : Int), .int .i64 (j : Int), .bool false, .int .u64 0, .int .u32 0, .bool false, .slice zx zn zc] 42)
              obtain ⟨w4, hw4⟩ : ∃ z, w3.alloc (.cells #[.int .i64 0, .int .i64 (A : Int), .int .i64 5, .int .i64 1, .int .i64 0, .int .u64 (B : Int), .int .i64 (j : Int), .bool false, .int .u64 0, .int .u32 0, .bool false, .slice zx zn zc] 42) = z := ⟨_, rfl⟩
              obtain ⟨X, hX⟩ : ∃ z, w3.heap.size = z := ⟨_, rfl⟩
              rw [hw4] at HH3 HX3
              rw [hX] at HX3
              have HW4 := Lib.hid hw4
              have HXX := Lib.hid hX
              clear hw4 hX hb
              go_upto_region 15 with fail
              rw [HW4.out, HXX.out]
              have q6 := HX3.out.cell 6 rfl
              go_wp2_with fail
              refine (code_nil _).mono ?_
              rintro e wx ⟨rfl, rfl⟩
              go_wp2
              go_roundw
              case rel =>
                exact ⟨j + 1, S1, by omega, by go_num, HH3⟩
              case measure => simp [intOf]; omega
          · have hfp := ti_not (k := K) (i := j) (.inr trivial) (n := i) (by omega)
            have hfk : findK ((j % 7 : Nat) : Int) (j / 7) (ti K i) = 6 := by unfold findK; rw [hfp, if_pos (by decide)]
            have hfm : findM ((j % 7 : Nat) : Int) (j / 7) (ti K i) = mz := by unfold findM; rw [hfp, if_pos (by decide)]
            rw [hfm, hfk, cerr_pos (by decide)] at hs
            have hs2 : Calls Try.prog 17 #[.pointer (some ⟨g, 0, none⟩), .int .i64 (A : Int), .int .u64 (B : Int)] wr fun e w' => ∃ zx zn zc, e = .returned (.tuple #[.agg #[.int .i64 0, .int .i64 0, .int .i64 0, .int .i64 0, .int .i64 0, .int .u64 0, .int .i64 0, .bool false, .int .u64 0, .int .u32 0, .bool false, .slice zx zn zc], err 6]) ∧ Below wr.heap.size wr w' := by
              rw [← hA, ← hB]
              exact hs.mono fun e w' ⟨z, n, c, h1, _, _, h2⟩ => ⟨z, n, c, h1, h2⟩
            have HS := Lib.hid hs2
            have klt2 : decide ((j : Int) < (K : Int)) = false := decide_eq_false (by omega)
            have kge2 : decide ((K : Int) ≤ (j : Int)) = true := decide_eq_true (by omega)
            clear hs hs2 hA hB hfp hfm hfk
            as_aux_lemma =>
              go_wp2_with fail
              refine HS.out.mono ?_
              rintro e w3 ⟨zx, zn, zc, rfl, hb⟩
              have HH3 := Lib.hid ((HHj.out.below hb).alloc (.cells #[.int .i64 0, .int .i64 0, .int .i64 0, .int .i64 0, .int .i64 0, .int .u64 0, .int .i64 0, .bool false, .int .u64 0, .int .u32 0, .bool false, .slice zx zn zc] 42))
              have HX3 := Lib.hid (Blk.new w3 #[.int .i64 0, .int .i64 0, .int .i64 0, .int .i64 0, .int .i64 0, .int .u64 0, .int .i64 0, .bool false, .int .u64 0, .int .u32 0, .bool false, .slice zx zn zc] 42)
              obtain ⟨w4, hw4⟩ : ∃ z, w3.alloc (.cells #[.int .i64 0, .int .i64 0, .int .i64 0, .int .i64 0, .int .i64 0, .int .u64 0, .int .i64 0, .bool false, .int .u64 0, .int .u32 0, .bool false, .slice zx zn zc] 42) = z := ⟨_, rfl⟩
              obtain ⟨X, hX⟩ : ∃ z, w3.heap.size = z := ⟨_, rfl⟩
              rw [hw4] at HH3 HX3
              rw [hX] at HX3
              have HW4 := Lib.hid hw4
              have HXX := Lib.hid hX
              clear hw4 hX hb
              go_upto_region 15 with fail
              rw [HW4.out, HXX.out]
              have q6 := HX3.out.cell 6 rfl
              go_wp2_with fail
              refine (code_code 6 _ (by decide) (by decide)).mono ?_
              rintro e wx ⟨rfl, rfl⟩
              go_wp2
              go_roundw
              case rel =>
                exact ⟨j + 1, S1, by omega, by go_num, HH3⟩
              case measure => simp [intOf]; omega
        · have kjl : ¬ (j : Int) < (n1 : Int) % 60 := by have := HEN.out; omega
          have hl := olen_any wr HHj.out.tb
          rw [ti_len] at hl
          have HL := Lib.hid hl
          have HE := Lib.hid HHj.out.bel
          clear hl
          by_cases hki : i < K
          · have hR : min K i = i := by omega
            rw [hR] at HL
            have em : (n1 : Int) % 60 < (K : Int) := by have := HEN.out; omega
            have ee : ((i : Int) == (n1 : Int) % 60) = true := beq_iff_eq.2 HEN.out.symm
            clear hR
            as_aux_lemma =>
              go_wp2_with fail
              refine HL.out.mono ?_
              rintro e wx ⟨rfl, rfl⟩
              go_wp2
              go_ret
              exact ⟨rfl, HE.out⟩
          · have hR : min K i = K := by omega
            rw [hR] at HL
            have em : ¬ (n1 : Int) % 60 < (K : Int) := by have := HEN.out; omega
            clear hR
            as_aux_lemma =>
              go_wp2_with fail
              refine HL.out.mono ?_
              rintro e wx ⟨rfl, rfl⟩
              go_wp2
              go_ret
              exact ⟨rfl, HE.out⟩
end Go.Proofs.Ytncfdkkekaninaa
