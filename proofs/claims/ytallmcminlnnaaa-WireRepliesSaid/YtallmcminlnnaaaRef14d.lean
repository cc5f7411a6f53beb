/- The document's Read of a message (layer 14) by contracts. -/
import Derived.Test.YtallmcminlnnaaaRef14c
import Derived.Test.YtallmcminlnnaaaLaw03f
import Derived.Deep.RegionHeld3
import Derived.StillTailTactics
set_option linter.unusedVariables false
set_option linter.unusedSimpArgs false
namespace Go.Proofs.Ytallmcminlnnaaa
open Go.RowKit Go.Cor

/-- What Read leaves. -/
def ReadT (w : World) (l : List UInt8) (e : Ending) (w' : World) : Prop := ∃ nv, e = .returned (.tuple #[mval (mread l) nv, .int .i64 (mcode l : Nat)]) ∧ IsB w' nv (mread l).n.data ∧ Below w.heap.size w w'
theorem ReadT.bad {w w' : World} {l : List UInt8} {c : Nat} (hc : mcode l = c) (h0 : c ≠ 0) (hb : Below w.heap.size w w') : ReadT w l (.returned (.tuple #[.agg #[.int .i64 0, .int .i64 0, .int .i64 0, .int .i64 0, .int .i64 0, .int .u64 0, .int .i64 0, .bool false, .int .u64 0, .int .u32 0, .bool false, .slice none 0 0], .int .i64 (c : Int)])) w' := by
  have e : mread l = mz := by unfold mread; rw [if_neg (by omega)]
  refine ⟨.slice none 0 0, ?_, ?_, hb⟩
  · rw [e, hc]; rfl
  · rw [e]; exact IsB.nil w'
set_option maxRecDepth 100000 in
set_option maxHeartbeats 1000000 in
theorem rread_short (v : Value) (l : List UInt8) (w : World) (hv : IsB w v l) (h : l.length < 28) :
    Calls Try.prog 9 #[v] w (ReadT w l) := by
  obtain ⟨N, hN⟩ : ∃ N, l.length = N := ⟨_, rfl⟩
  have hlen := fun W => len_B (P := Try.prog) hv hN 22 3 5 Try.underlying22 W
  have HT := Lib.hid (ReadT.bad (mcode_short h).1 (by decide) ((Below.refl w.heap.size w).alloc (Nat.le_refl _) (.cells #[.int .i64 0, .int .i64 0, .int .i64 0, .int .i64 0, .int .i64 0, .int .u64 0, .int .i64 0, .bool false, .int .u64 0, .int .u32 0, .bool false, .slice none 0 0] 36)))
  have hn : (N : Int) < 28 := by omega
  clear hv h hN
  go_enter Try.func9, Try.ntmps9
  go_wp2
  exact bodyPost_ret (v := .tuple #[.agg #[.int .i64 0, .int .i64 0, .int .i64 0, .int .i64 0, .int .i64 0, .int .u64 0, .int .i64 0, .bool false, .int .u64 0, .int .u32 0, .bool false, .slice none 0 0], .int .i64 3]) (by simp [results, Try.results9, go_sem]) rfl HT.out
set_option maxRecDepth 100000 in
set_option maxHeartbeats 2000000 in
theorem rread_sum (v : Value) (l : List UInt8) (w : World) (hv : IsB w v l) (hl : l.length ≤ 1099511627776) (h : 28 ≤ l.length) (hs : msum l = false) :
    Calls Try.prog 9 #[v] w (ReadT w l) := by
  have hcode : mcode l = 5 := by unfold mcode; rw [if_neg (by omega), if_pos hs]
  obtain ⟨K, hK⟩ : ∃ K, l.length = K + 4 := ⟨l.length - 4, by omega⟩
  have hlen := fun W => len_B (P := Try.prog) hv hK 22 3 5 Try.underlying22 W
  obtain ⟨st, rt, it⟩ := slice_l_B (P := Try.prog) hv 22 5 Try.underlying22 Try.sizeU8 K (by omega)
  obtain ⟨sb, rb, ib⟩ := slice_h_B (P := Try.prog) hv 22 5 Try.underlying22 Try.sizeU8 K (by omega)
  have hw0 := (Below.refl w.heap.size w).alloc (Nat.le_refl _) (.cells #[.int .i64 0, .int .i64 0, .int .i64 0, .int .i64 0, .int .i64 0, .int .u64 0, .int .i64 0, .bool false, .int .u64 0, .int .u32 0, .bool false, .slice none 0 0] 36)
  have HW0 := Lib.hid hw0
  have IT := Lib.hid (it.mono hw0 (Nat.le_refl _))
  have IB := Lib.hid (ib.mono hw0 (Nat.le_refl _))
  obtain ⟨t, ht⟩ : ∃ t, num (l.drop K) = t := ⟨_, rfl⟩
  obtain ⟨c, hc⟩ : ∃ c, crc (l.take K) = c := ⟨_, rfl⟩
  have hc4 : c < 4294967296 := by rw [← hc]; exact crc_lt _
  have hwc : IntKind.u64.wrap (c : Int) = (c : Int) := IntWalk.u64_in _ (by omega)
  have hms : msum l = decide (t = c) := by
    unfold msum fld
    rw [hK, Nat.add_sub_cancel, List.take_of_length_le (by rw [List.length_drop]; omega), ht, hc]
  have hk1 : ¬ ((K + 4 : Nat) : Int) < 28 := by omega
  have ek : IntKind.i64.wrap (((K + 4 : Nat) : Int) - 4) = (K : Int) := by rw [IntWalk.i64_in _ (by omega)]; omega
  obtain ⟨N, hN⟩ : ∃ N, K + 4 = N := ⟨_, rfl⟩
  rw [hN] at hlen hk1 ek
  have HNM := Lib.hid (show Calls Try.prog 24 #[st] (w.alloc (.cells #[.int .i64 0, .int .i64 0, .int .i64 0, .int .i64 0, .int .i64 0, .int .u64 0, .int .i64 0, .bool false, .int .u64 0, .int .u32 0, .bool false, .slice none 0 0] 36)).drew (fun e w' => e = .returned (.int .u64 (t : Int)) ∧ (w.alloc (.cells #[.int .i64 0, .int .i64 0, .int .i64 0, .int .i64 0, .int .i64 0, .int .u64 0, .int .i64 0, .bool false, .int .u64 0, .int .u32 0, .bool false, .slice none 0 0] 36)).drew = w') by
    have := number_any st (l.drop K) (w.alloc (.cells #[.int .i64 0, .int .i64 0, .int .i64 0, .int .i64 0, .int .i64 0, .int .u64 0, .int .i64 0, .bool false, .int .u64 0, .int .u32 0, .bool false, .slice none 0 0] 36)).drew (IT.out.mono (Below.refl _ _).drew (Nat.le_refl _)) (by rw [List.length_drop]; omega)
    rw [ht] at this
    exact this)
  have HOF := Lib.hid (show Calls Try.prog 25 #[sb] (w.alloc (.cells #[.int .i64 0, .int .i64 0, .int .i64 0, .int .i64 0, .int .i64 0, .int .u64 0, .int .i64 0, .bool false, .int .u64 0, .int .u32 0, .bool false, .slice none 0 0] 36)).drew (fun e w' => e = .returned (.int .u32 (c : Int)) ∧ (w.alloc (.cells #[.int .i64 0, .int .i64 0, .int .i64 0, .int .i64 0, .int .i64 0, .int .u64 0, .int .i64 0, .bool false, .int .u64 0, .int .u32 0, .bool false, .slice none 0 0] 36)).drew = w') by
    have := refof_any sb (l.take K) (w.alloc (.cells #[.int .i64 0, .int .i64 0, .int .i64 0, .int .i64 0, .int .i64 0, .int .u64 0, .int .i64 0, .bool false, .int .u64 0, .int .u32 0, .bool false, .slice none 0 0] 36)).drew (IB.out.mono (Below.refl _ _).drew (Nat.le_refl _)) (by rw [List.length_take]; omega)
    rw [hc] at this
    exact this)
  have HT := Lib.hid (ReadT.bad hcode (by decide) (hw0.drew))
  have hne : ¬ t = c := by rw [hms] at hs; exact of_decide_eq_false hs
  have hne' : ¬ (t : Int) = (c : Int) := by omega
  have hneb : ((t : Int) != (c : Int)) = true := bne_iff_ne.2 hne'
  clear hv hl h hs hcode hK it ib hw0 ht hc hms hN hne
  go_enter Try.func9, Try.ntmps9
  go_wp2_with fail
  go_region_held3 (fun _ => True) (trivial) (first
    | (go_at_call 24; with_reducible refine HNM.out.mono ?_; rintro e w' ⟨rfl, rfl⟩)
    | (go_at_call 25; with_reducible refine HOF.out.mono ?_; rintro e w' ⟨rfl, rfl⟩))
  go_wp2
  exact bodyPost_ret (v := .tuple #[.agg #[.int .i64 0, .int .i64 0, .int .i64 0, .int .i64 0, .int .i64 0, .int .u64 0, .int .i64 0, .bool false, .int .u64 0, .int .u32 0, .bool false, .slice none 0 0], .int .i64 5]) (by simp [results, Try.results9, go_sem]) rfl HT.out

end Go.Proofs.Ytallmcminlnnaaa
