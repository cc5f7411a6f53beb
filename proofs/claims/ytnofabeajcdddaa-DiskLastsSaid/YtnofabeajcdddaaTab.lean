/- Tables of names: the search, by contract. -/
import Derived.Test.YtnofabeajcdddaaNames
import Derived.Test.YtnofabeajcdddaaRow
import Derived.IntWalk
import Derived.Outline
namespace Go.Proofs.Ytnofabeajcdddaa
open Go.RowKit Go.Cor

theorem Try.infoEnt : (Try.prog.info? 104).map (fun i => (i.zero, i.size, i.bytes)) = some (some (.agg #[.string ⟨#[]⟩, .pointer none]), 2, 24) := by kernel_rfl
theorem Try.sizeEnt : (Try.prog.info? 104).map (·.size) = some 2 := by kernel_rfl

/-- An entry as cells; fb: where a file's box lies. -/
def ent (fb : Nat → Nat) (e : ByteArray × Nat) : List Value := [.string e.1, .pointer (some ⟨fb e.2, 0, none⟩)]
theorem ent_len (fb : Nat → Nat) (e : ByteArray × Nat) : (ent fb e).length = 2 := rfl
theorem ent_one (fb : Nat → Nat) (l : Tbl) : ∀ v ∈ row (ent fb) l, v.oneCell' = true := by
  refine row_mem fun x _ v hv => ?_
  simp only [ent, List.mem_cons, List.not_mem_nil, or_false] at hv
  rcases hv with rfl | rfl <;> rfl
/-- v is a table that reads as l. -/
def IsT (w : World) (fb : Nat → Nat) (v : Value) (l : Tbl) : Prop := IsX w 2 v l.length (row (ent fb) l)
theorem indexAt_T {w : World} {fb : Nat → Nat} {v : Value} {l : Tbl} (hv : IsT w fb v l) (T : TypeId) (ht : Try.prog.underlying T = some (.slice 104)) {i : Nat} {e : ByteArray × Nat} (he : l[i]? = some e) :
    ∃ b o, (∀ W, (Instr.indexAt T v (.int .i64 (i : Int))).run Try.prog W = .ok (.pointer (some ⟨b, o, none⟩)) W) ∧ v.ownBlock = some b ∧ w.cell? ⟨b, o, none⟩ = some (.string e.1) ∧ w.cell? ⟨b, o + 1, none⟩ = some (.pointer (some ⟨fb e.2, 0, none⟩)) := by
  have hi : i < l.length := (List.getElem?_eq_some_iff.1 he).1
  obtain ⟨b, o, h1, h2, h3⟩ := indexAt_X hv T _ ht Try.sizeEnt i hi
  refine ⟨b, o, h1, h2, ?_, ?_⟩
  · have := h3 0 (by decide)
    rw [row_get (ent_len fb) he 0 (by decide)] at this
    exact this
  · have := h3 1 (by decide)
    rw [row_get (ent_len fb) he 1 (by decide)] at this
    exact this

set_option maxRecDepth 100000 in
set_option maxHeartbeats 1000000 in
theorem search_any (fb : Nat → Nat) (v : Value) (l : Tbl) (n : ByteArray) (w : World) (hv : IsT w fb v l) (hs : Sorted l) (hl : l.length ≤ 1048576) :
    Calls Try.prog 56 #[v, .string n, .func (.func 57) #[] #[]] w fun e w' => e = .returned (.tuple #[.int .i64 (pos l n), .bool (tfind l n).isSome]) ∧ Below w.heap.size w w' := by
  obtain ⟨N, hN⟩ : ∃ N, l.length = N := ⟨_, rfl⟩
  obtain ⟨q, hq⟩ : ∃ q, pos l n = q := ⟨_, rfl⟩
  obtain ⟨r, hr⟩ : ∃ r, (tfind l n).isSome = r := ⟨_, rfl⟩
  have hqN := pos_le l n
  have hlen := fun W => len_X (P := Try.prog) hv 79 3 104 Try.underlying79 W
  rw [hN] at hlen hqN hl
  rw [hq] at hqN
  rw [hq, hr]
  have HV := Lib.hid hv
  have HN := Lib.hid hN
  have HQ := Lib.hid hq
  have HR := Lib.hid hr
  clear hv hN hq hr
  go_enter Try.func56, Try.ntmps56
  go_wp2
  go_loopw [9, 10] (fun a b wr => ∃ i j : Nat, i ≤ q ∧ q ≤ j ∧ j ≤ N ∧ a = .int .i64 i ∧ b = .int .i64 j ∧ Hid (Below w.heap.size w wr)) (fun a b _ => (intOf b).toNat - (intOf a).toNat)
  case atStart => exact ⟨0, N, Nat.zero_le _, hqN, Nat.le_refl _, rfl, rfl, Lib.hid (Below.refl _ _)⟩
  case round =>
    obtain ⟨i, j, hiq, hqj, hjN, rfl, rfl, hB⟩ := hrel
    by_cases hlt : i < j
    · obtain ⟨e, he⟩ : ∃ e, l[(i + j) / 2]? = some e := ⟨_, List.getElem?_eq_getElem (by rw [HN.out]; omega)⟩
      obtain ⟨b, o, hidx, hob, c0, c1⟩ := indexAt_T (HV.out.mono hB.out (Nat.le_refl _)) 79 Try.underlying79 he
      rw [show ((((i + j) / 2 : Nat)) : Int) = ((i : Int) + (j : Int)) / 2 from by omega] at hidx
      have HC := Lib.hid hB
      obtain ⟨c, hc⟩ : ∃ c, ncmp e.1 n = c := ⟨_, rfl⟩
      have HE := Lib.hid he
      have HCM := Lib.hid hc
      clear he hc
      go_wp2_with fail
      refine (closure_any _ _ _ _ rfl).mono ?_
      rintro e2 w2 ⟨rfl, hb2⟩
      rw [HCM.out]
      have HB2 := Lib.hid (hB.out.trans (hb2.mono hB.out.size))
      clear hb2 c0 c1 hidx
      by_cases hneg : c < 0
      · have hiq2 : (i + j) / 2 + 1 ≤ q := by
          by_cases h : (i + j) / 2 < q
          · exact h
          · have h2 := pos_above hs HE.out (by rw [HQ.out]; omega)
            rw [nlt_false, HCM.out] at h2
            omega
        go_wp2
        go_roundw
        case rel => exact ⟨(i + j) / 2 + 1, j, hiq2, hqj, hjN, by congr 1, rfl, HB2⟩
        case measure => simp [intOf]; omega
      · have hqj2 : q ≤ (i + j) / 2 := by
          by_cases h : (i + j) / 2 < q
          · have h2 := pos_below HE.out (by rw [HQ.out]; omega)
            rw [nlt_iff, HCM.out] at h2
            omega
          · omega
        go_wp2
        go_roundw
        case rel => exact ⟨i, (i + j) / 2, hiq, hqj2, by omega, rfl, by congr 1, HB2⟩
        case measure => simp [intOf]; omega
    · obtain rfl : i = q := by omega
      have hfp := tfind_pos hs n
      rw [HQ.out] at hfp
      by_cases hiN : i < N
      · obtain ⟨e, he⟩ : ∃ e, l[i]? = some e := ⟨_, List.getElem?_eq_getElem (by rw [HN.out]; omega)⟩
        obtain ⟨b, o, hidx, hob, c0, c1⟩ := indexAt_T (HV.out.mono hB.out (Nat.le_refl _)) 79 Try.underlying79 he
        rw [he] at hfp
        obtain ⟨c, hc⟩ : ∃ c, ncmp e.1 n = c := ⟨_, rfl⟩
        have HE := Lib.hid he
        have HCM := Lib.hid hc
        have hrc : r = (c == 0) := by
          rw [← HR.out, hfp, ← hc]
          by_cases hen : e.1 = n
          · simp [hen, ncmp_self]
          · have : ncmp e.1 n ≠ 0 := fun h => hen (ncmp_eq.1 h)
            simp [hen, this]
        have HRC := Lib.hid hrc
        clear he hc hfp hrc
        go_wp2_with fail
        refine (closure_any _ _ _ _ rfl).mono ?_
        rintro e2 w2 ⟨rfl, hb2⟩
        rw [HCM.out]
        have HB2 := Lib.hid (hB.out.trans (hb2.mono hB.out.size))
        clear hb2 c0 c1 hidx
        go_wp2
        go_ret2
        exact ⟨by rw [HRC.out]; rfl, HB2.out⟩
      · have hrf : r = false := by
          rw [← HR.out, hfp, List.getElem?_eq_none (by rw [HN.out]; omega)]
          rfl
        subst hrf
        clear hfp
        go_wp2
        go_ret2
        exact ⟨rfl, hB.out⟩

theorem place_any (fb : Nat → Nat) (v : Value) (l : Tbl) (n : ByteArray) (w : World) (hv : IsT w fb v l) (hs : Sorted l) (hl : l.length ≤ 1048576) :
    Calls Try.prog 42 #[v, .string n] w fun e w' => e = .returned (.tuple #[.int .i64 (pos l n), .bool (tfind l n).isSome]) ∧ Below w.heap.size w w' := by
  go_enter Try.func42, Try.ntmps42
  go_wp2_with fail
  refine (search_any fb v l n _ hv hs hl).mono ?_
  rintro e w' ⟨rfl, hb⟩
  go_wp2
  go_ret2
  exact ⟨rfl, hb⟩

end Go.Proofs.Ytnofabeajcdddaa
