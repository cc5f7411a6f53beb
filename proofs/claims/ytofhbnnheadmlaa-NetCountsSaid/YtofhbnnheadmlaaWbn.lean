/- Package wire by contracts: Bytes of a message that may not be. -/
import Derived.Test.YtofhbnnheadmlaaWby
set_option linter.unusedVariables false
set_option linter.unusedSimpArgs false
namespace Go.Proofs.Ytofhbnnheadmlaa
open Go.RowKit Go.Cor

set_option maxRecDepth 100000 in
set_option maxHeartbeats 1000000 in
theorem wbytes_no (m : Msg) (x : Option Addr) (L c : Nat) (w : World) (hv : IsB w (.slice x L c) m.n.data) (hc : mcheck m ≠ 0) :
    Calls Try.prog 25 #[mval m (.slice x L c)] w fun e w' => e = .returned (.tuple #[.slice none 0 0, err (mcheck m : Nat)]) ∧ Below w.heap.size w w' := by
  obtain ⟨fr, tt, kd, vo, li, id, co, has, key, cookie, gone, data⟩ := m
  dsimp only at hv
  have hB := (Below.refl w.heap.size w).alloc (Nat.le_refl _) (.cells #[.int .i64 fr, .int .i64 tt, .int .i64 kd, .int .i64 vo, .int .i64 li, .int .u64 (id : Int), .int .i64 co, .bool has, .int .u64 (key : Int), .int .u32 (cookie : Int), .bool gone, .slice x L c] 43)
  have HB := Lib.hid hB
  have HC := Lib.hid (wcheck_any ⟨fr, tt, kd, vo, li, id, co, has, key, cookie, gone, data⟩ (.slice x L c) (w.alloc (.cells #[.int .i64 fr, .int .i64 tt, .int .i64 kd, .int .i64 vo, .int .i64 li, .int .u64 (id : Int), .int .i64 co, .bool has, .int .u64 (key : Int), .int .u32 (cookie : Int), .bool gone, .slice x L c] 43)) (hv.mono hB (Nat.le_refl _)))
  obtain ⟨C, hC⟩ : ∃ C, mcheck ⟨fr, tt, kd, vo, li, id, co, has, key, cookie, gone, data⟩ = C := ⟨_, rfl⟩
  rw [hC] at HC hc ⊢
  rw [cerr_pos hc] at HC
  clear hv hB hC hc
  go_enter Try.func25, Try.ntmps25
  go_wp2_with fail
  refine HC.out.mono ?_
  rintro e w1 ⟨rfl, hb1⟩
  have HB1 := Lib.hid (HB.out.trans (hb1.mono HB.out.size))
  clear hb1
  go_wp2
  go_ret2
  exact ⟨rfl, HB1.out⟩

end Go.Proofs.Ytofhbnnheadmlaa
