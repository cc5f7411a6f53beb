/- Package corncriblaw16: what is carried along a law; alive. -/
import Derived.Test.YtncfdkkekaninaaOp
import Derived.Test.YtncfdkkekaninaaLaw03
set_option linter.unusedVariables false
set_option linter.unusedSimpArgs false
namespace Go.Proofs.Ytncfdkkekaninaa
open Go.RowKit Go.Cor

/-- A law's world, begun at a: a table, and nothing turned that there was. -/
structure Ht (a w : World) (g : Nat) (S : Nat → Prop) (most : Int) (L : List Msg) : Prop where
  tb : Tb w a.heap.size g S most L
  bel : Below a.heap.size a w
section
variable {a w w' : World} {g : Nat} {S : Nat → Prop} {most : Int} {L L' : List Msg}
theorem Ht.below (h : Ht a w g S most L) (hb : Below w.heap.size w w') : Ht a w' g S most L := ⟨h.tb.below hb, h.bel.trans (hb.mono h.bel.size)⟩
theorem Ht.kept {T : Nat → Prop} (h : Ht a w g S most L) (hk : Kept T w w') (hT : ∀ k, S k → ¬ T k) (ha : ∀ k, k < a.heap.size → ¬ T k) : Ht a w' g S most L := ⟨h.tb.kept hk hT, hk.below_trans h.bel h.bel.size ha⟩
theorem Ht.alloc (h : Ht a w g S most L) (o : Obj) : Ht a (w.alloc o) g S most L := h.below (below_new16 w o)
theorem Ht.lt (h : Ht a w g S most L) {k : Nat} (hk : S k) : k < w.heap.size := by
  obtain ⟨b, l, h1, h2, h3, h4, h5, h6⟩ := h.tb
  exact (h6 k hk).2
theorem Ht.ge (h : Ht a w g S most L) {k : Nat} (hk : S k) : a.heap.size ≤ k := by
  obtain ⟨b, l, h1, h2, h3, h4, h5, h6⟩ := h.tb
  exact (h6 k hk).1
theorem Ht.new (h : Ht a w g S most L) {k : Nat} (hk : w.heap.size ≤ k) : ¬ S k := fun e => by have := h.lt e; omega
theorem Ht.old (h : Ht a w g S most L) {k : Nat} (hk : k < a.heap.size) : ¬ S k := fun e => by have := h.ge e; omega
theorem Ht.call (h : Ht a w g S most L) (ht : TbT w a.heap.size g S most L' w') : ∃ S', Ht a w' g S' most L' ∧ Kept S w w' ∧ ∀ b, b < w.heap.size → ¬ S b → ¬ S' b := by
  obtain ⟨S', h1, h2, h3⟩ := ht
  exact ⟨S', ⟨h1, h3.below_trans h.bel h.bel.size (fun k hk => h.old hk)⟩, h3, fun b hb hn e => by
    rcases h2 b e with h4 | h4
    · exact hn h4
    · omega⟩
end
theorem Tb.base {w : World} {B B' g : Nat} {S : Nat → Prop} {most : Int} {L : List Msg} (h : Tb w B g S most L) (hB : B' ≤ B) : Tb w B' g S most L := by
  obtain ⟨b, l, h1, h2, h3, h4, h5, h6⟩ := h
  exact ⟨b, l, h1, h2, h3, h4, h5, fun k hk => ⟨Nat.le_trans hB (h6 k hk).1, (h6 k hk).2⟩⟩
theorem onew_ht (most : Int) (a w : World) (ha : Below a.heap.size a w) (h : 1 ≤ most ∧ most ≤ 4096) :
    Calls Try.prog 8 #[.int .i64 most] w fun e w' => ∃ g S, e = .returned (.tuple #[.pointer (some ⟨g, 0, none⟩), .nilIface]) ∧ Ht a w' g S most [] ∧ (∀ k, S k → w.heap.size ≤ k) ∧ Below w.heap.size w w' := by
  refine (onew_tb most w h).mono ?_
  rintro e w' ⟨g, S, rfl, h1, h2⟩
  refine ⟨g, S, rfl, ⟨h1.base ha.size, ha.trans (h2.mono ha.size)⟩, fun k hk => ?_, h2⟩
  obtain ⟨b, l, k1, k2, k3, k4, k5, k6⟩ := h1
  exact (k6 k hk).1
def mA : Msg := ⟨0, 3, 5, 1, 0, 4, 0, false, nz⟩
theorem kA_k : keepK 1 [] mA = 0 := by decide
theorem kA_l : keepL 1 [] mA = [mA] := by unfold keepL; rw [kA_k]; rfl
theorem fA_k : findK 3 4 [mA] = 0 := by decide
theorem fA_m : findM 3 4 [mA] = mA := by unfold findM; rw [if_neg (by decide)]; rfl
set_option maxRecDepth 100000 in
set_option maxHeartbeats 4000000 in
theorem alive16 (w : World) :
    Calls Try.prog 7 #[] w fun e w' => e = .returned (.bool true) ∧ Below w.heap.size w w' := by
  go_enter Try.func7, Try.ntmps7
  go_wp2_with fail
  refine (onew_ht 1 w w (Below.refl _ _) (by decide)).mono ?_
  rintro e w1 ⟨g, S1, rfl, h1, _, hb1⟩
  have HS := Lib.hid (show Calls Try.prog 12 #[.pointer (some ⟨g, 0, none⟩), .agg #[.int .i64 0, .int .i64 3, .int .i64 5, .int .i64 1, .int .i64 0, .int .u64 4, .int .i64 0, .bool false, .int .u64 0, .int .u32 0, .bool false, .slice none 0 0]] w1 fun e w' => e = .returned .nilIface ∧ TbT w1 w.heap.size g S1 1 [mA] w' from by
    have h := okeep_any w1 h1.tb mA none 0 0 (IsB.nil w1) ⟨by decide, by decide⟩ (by decide)
    rw [kA_k, kA_l, cerr_0] at h
    exact h)
  have HH1 := Lib.hid h1
  clear h1 hb1
  go_wp2_with fail
  refine HS.out.mono ?_
  rintro e w2 ⟨rfl, ht2⟩
  obtain ⟨S2, h2, hk2, hs2⟩ := HH1.out.call ht2
  have HF := Lib.hid (show Calls Try.prog 17 #[.pointer (some ⟨g, 0, none⟩), .int .i64 3, .int .u64 4] w2 fun e w' => ∃ x n cp, e = .returned (.tuple #[.agg #[.int .i64 0, .int .i64 3, .int .i64 5, .int .i64 1, .int .i64 0, .int .u64 4, .int .i64 0, .bool false, .int .u64 0, .int .u32 0, .bool false, .slice x n cp], .nilIface]) ∧ Below w2.heap.size w2 w' from by
    have h := ofind_any w2 h2.tb 3 4 (wfI_of (by decide) (by decide)) (wfU_of (by decide))
    rw [fA_k, fA_m, cerr_0] at h
    exact h.mono fun e w' ⟨x, n, cp, h1, _, _, h2⟩ => ⟨x, n, cp, h1, h2⟩)
  have HH2 := Lib.hid h2
  clear ht2 h2 hk2 hs2
  go_wp2_with fail
  refine HF.out.mono ?_
  rintro e w3 ⟨x, n, cp, rfl, hb3⟩
  have h3 := (HH2.out.below hb3).alloc (.cells #[.int .i64 0, .int .i64 3, .int .i64 5, .int .i64 1, .int .i64 0, .int .u64 4, .int .i64 0, .bool false, .int .u64 0, .int .u32 0, .bool false, .slice x n cp] 42)
  have hX := Blk.new w3 #[.int .i64 0, .int .i64 3, .int .i64 5, .int .i64 1, .int .i64 0, .int .u64 4, .int .i64 0, .bool false, .int .u64 0, .int .u32 0, .bool false, .slice x n cp] 42
  obtain ⟨w4, hw4⟩ : ∃ z, w3.alloc (.cells #[.int .i64 0, .int .i64 3, .int .i64 5, .int .i64 1, .int .i64 0, .int .u64 4, .int .i64 0, .bool false, .int .u64 0, .int .u32 0, .bool false, .slice x n cp] 42) = z := ⟨_, rfl⟩
  obtain ⟨X, hXX⟩ : ∃ z, w3.heap.size = z := ⟨_, rfl⟩
  rw [hw4] at h3 hX
  rw [hXX] at hX
  have HW4 := Lib.hid hw4
  have HXX := Lib.hid hXX
  have HH4 := Lib.hid h3
  have HX := Lib.hid hX
  clear hw4 hXX h3 hX hb3
  go_upto_region 4 with fail
  rw [HW4.out, HXX.out]
  go_wp2_with fail
  refine (onew_bad 0 _ (by decide)).mono ?_
  rintro e wq ⟨rfl, rfl⟩
  have q5 := HX.out.cell 5 rfl
  have HR := Lib.hid (oroom_any w4 HH4.out.tb)
  go_wp2_with fail
  refine (code_nil _).mono ?_
  rintro e wx ⟨rfl, rfl⟩
  go_wp2_with fail
  refine (code_nil _).mono ?_
  rintro e wx ⟨rfl, rfl⟩
  go_wp2_with fail
  refine (code_nil _).mono ?_
  rintro e wx ⟨rfl, rfl⟩
  go_wp2_with fail
  refine HR.out.mono ?_
  rintro e wy ⟨rfl, hby⟩
  have hrm : decide (((([mA] : List Msg).length : Nat) : Int) < 1) = false := by decide
  rw [hrm]
  have HBY := Lib.hid (HH4.out.below hby).bel
  clear hby hrm
  go_wp2_with fail
  refine (code_code 1 _ (by decide) (by decide)).mono ?_
  rintro e wx ⟨rfl, rfl⟩
  go_wp2
  go_ret
  exact ⟨rfl, HBY.out⟩

end Go.Proofs.Ytncfdkkekaninaa
