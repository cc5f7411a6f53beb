/- Package wire by contracts: held. -/
import Derived.Test.YtofhbnnheadmlaaFrz
import Derived.Test.YtofhbnnheadmlaaWn
set_option linter.unusedVariables false
set_option linter.unusedSimpArgs false
namespace Go.Proofs.Ytofhbnnheadmlaa
open Go.RowKit Go.Cor

/-- The needle behind a flag, and whether flag and bytes are right. -/
def heldOk (f : Nat) (l : List UInt8) : Bool := decide ((f = 1 ∧ getCode l = 0 ∧ total l = l.length) ∨ (f = 0 ∧ l.length = 0))
def heldN (f : Nat) (l : List UInt8) : Ndl := if f = 1 ∧ getCode l = 0 ∧ total l = l.length then getN l else nz
def HeldT (w : World) (f : Nat) (l : List UInt8) (e : Ending) (w' : World) : Prop := ∃ x c, e = .returned (.tuple #[nval (heldN f l) (.slice x (heldN f l).data.length c), .bool (heldOk f l)]) ∧ IsF w' (.slice x (heldN f l).data.length c) (heldN f l).data ∧ (∀ b, liesB (.slice x (heldN f l).data.length c) (heldN f l).data b → w.heap.size ≤ b) ∧ Below w.heap.size w w'
theorem HeldT.bad {w w' : World} {f : Nat} {l : List UInt8} {b : Bool} (hn : ¬ (f = 1 ∧ getCode l = 0 ∧ total l = l.length)) (hB : b = heldOk f l) (hb : Below w.heap.size w w') : HeldT w f l (.returned (.tuple #[.agg #[.int .u64 0, .int .u32 0, .bool false, .slice none 0 0], .bool b])) w' := by
  have e : heldN f l = nz := if_neg hn
  refine ⟨none, 0, ?_, ?_, ?_, hb⟩
  · rw [e, hB]; rfl
  · rw [e]; exact IsF.nil w'
  · rw [e]; intro b h; exact absurd rfl h.1
theorem below_new14 (w : World) (o : Obj) : Below w.heap.size w (w.alloc o) := (Below.refl _ w).alloc (Nat.le_refl _) o
def set4 (w : World) (B : Nat) (u0 u1 u2 u3 : Value) : World := (((w.setCell ⟨B, 0, none⟩ u0).setCell ⟨B, 1, none⟩ u1).setCell ⟨B, 2, none⟩ u2).setCell ⟨B, 3, none⟩ u3
theorem fin4 {w0 w : World} {B : Nat} {a0 a1 a2 a3 : Value} {T : TypeId} (h : Blk w B #[a0, a1, a2, a3] T) (hb : Below w0.heap.size w0 w) (hB : w0.heap.size ≤ B) (u0 u1 u2 u3 : Value) :
    (set4 w B u0 u1 u2 u3).cell? ⟨B, 0, none⟩ = some u0 ∧ (set4 w B u0 u1 u2 u3).cell? ⟨B, 1, none⟩ = some u1 ∧ (set4 w B u0 u1 u2 u3).cell? ⟨B, 2, none⟩ = some u2 ∧ (set4 w B u0 u1 u2 u3).cell? ⟨B, 3, none⟩ = some u3 ∧ Below w0.heap.size w0 (set4 w B u0 u1 u2 u3) ∧ Kept (fun j => j = B) w (set4 w B u0 u1 u2 u3) := by
  have hz : Blk (set4 w B u0 u1 u2 u3) B #[u0, u1, u2, u3] T := by
    unfold set4
    have h1 := ((((h.set 0 u0).set 1 u1).set 2 u2).set 3 u3)
    simp at h1
    exact h1
  have hbb : Below w0.heap.size w0 (set4 w B u0 u1 u2 u3) := by
    unfold set4
    exact (((hb.setCell (p := ⟨B, 0, none⟩) hB u0).setCell (p := ⟨B, 1, none⟩) hB u1).setCell (p := ⟨B, 2, none⟩) hB u2).setCell (p := ⟨B, 3, none⟩) hB u3
  have hkk : Kept (fun j => j = B) w (set4 w B u0 u1 u2 u3) := by
    unfold set4
    exact ((((Kept.refl (fun j => j = B) w).setCell (p := ⟨B, 0, none⟩) (.inl rfl) u0).setCell (p := ⟨B, 1, none⟩) (.inl rfl) u1).setCell (p := ⟨B, 2, none⟩) (.inl rfl) u2).setCell (p := ⟨B, 3, none⟩) (.inl rfl) u3
  exact ⟨hz.cell 0 rfl, hz.cell 1 rfl, hz.cell 2 rfl, hz.cell 3 rfl, hbb, hkk⟩
set_option maxRecDepth 100000 in
set_option maxHeartbeats 2000000 in
theorem held_no (f : Nat) (v : Value) (l : List UInt8) (w : World) (hv : IsB w v l) (h1 : f ≠ 1) :
    Calls Try.prog 46 #[.int .u64 f, v] w (HeldT w f l) := by
  obtain ⟨N, hN⟩ : ∃ N, l.length = N := ⟨_, rfl⟩
  have hlen := fun W => len_B (P := Try.prog) hv hN 26 3 5 Try.underlying26 W
  have hB := (Below.refl w.heap.size w).alloc (Nat.le_refl _) (.cells #[.int .u64 0, .int .u32 0, .bool false, .slice none 0 0] 41)
  have hn : ¬ (f = 1 ∧ getCode l = 0 ∧ total l = l.length) := fun h => h1 h.1
  have k1 : ((f : Int) != 1) = true := bne_iff_ne.2 (by omega)
  by_cases h0 : f = 0
  · subst h0
    by_cases hN0 : N = 0
    · subst hN0
      have HT := Lib.hid (HeldT.bad (w := w) (f := 0) (l := l) (b := true) hn (by unfold heldOk; simp [hN]) hB)
      clear hv hN hB hn k1 h1
      go_enter Try.func46, Try.ntmps46
      go_wp2
      exact bodyPost_ret (v := .tuple #[.agg #[.int .u64 0, .int .u32 0, .bool false, .slice none 0 0], .bool true]) (by simp [results, Try.results46, go_sem]) rfl HT.out
    · have k2 : ((N : Int) == 0) = false := beq_eq_false_iff_ne.2 (by omega)
      have k3 : ¬ (N : Int) = 0 := by omega
      have HT := Lib.hid (HeldT.bad (w := w) (f := 0) (l := l) (b := false) hn (by unfold heldOk; simp [hN, hN0]) hB)
      clear hv hN hB hn k1 h1 hN0
      go_enter Try.func46, Try.ntmps46
      go_wp2
      exact bodyPost_ret (v := .tuple #[.agg #[.int .u64 0, .int .u32 0, .bool false, .slice none 0 0], .bool false]) (by simp [results, Try.results46, go_sem]) rfl HT.out
  · have k2 : ((f : Int) == 0) = false := beq_eq_false_iff_ne.2 (by omega)
    have HT := Lib.hid (HeldT.bad (w := w) (f := f) (l := l) (b := false) hn (by unfold heldOk; simp [h0, h1]) hB)
    clear hv hN hB hn h1 h0
    go_enter Try.func46, Try.ntmps46
    go_wp2
    exact bodyPost_ret (v := .tuple #[.agg #[.int .u64 0, .int .u32 0, .bool false, .slice none 0 0], .bool false]) (by simp [results, Try.results46, go_sem]) rfl HT.out
set_option maxRecDepth 100000 in
set_option maxHeartbeats 2000000 in
theorem held_yes (v : Value) (l : List UInt8) (w : World) (hv : IsB w v l) (hl : l.length ≤ 1099511627776) :
    Calls Try.prog 46 #[.int .u64 1, v] w (HeldT w 1 l) := by
  obtain ⟨N, hN⟩ : ∃ N, l.length = N := ⟨_, rfl⟩
  have hlen := fun W => len_B (P := Try.prog) hv hN 26 3 5 Try.underlying26 W
  have hB := (Below.refl w.heap.size w).alloc (Nat.le_refl _) (.cells #[.int .u64 0, .int .u32 0, .bool false, .slice none 0 0] 41)
  have HB := Lib.hid hB
  have HR := Lib.hid (Blk.new w #[.int .u64 0, .int .u32 0, .bool false, .slice none 0 0] 41)
  have HG := Lib.hid (get_any v l (w.alloc (.cells #[.int .u64 0, .int .u32 0, .bool false, .slice none 0 0] 41)) (hv.mono hB (Nat.le_refl _)) hl)
  obtain ⟨G, hG⟩ : ∃ G, getCode l = G := ⟨_, rfl⟩
  obtain ⟨RN, hRN⟩ : ∃ R, resN l = R := ⟨_, rfl⟩
  obtain ⟨RK, hRK⟩ : ∃ R, resK l = R := ⟨_, rfl⟩
  rw [hG, hRN, hRK] at HG
  have HGE := Lib.hid hG
  have HRN := Lib.hid hRN
  have HRK := Lib.hid hRK
  have HN := Lib.hid hN
  obtain ⟨rk, rc, rg, rd⟩ := RN
  obtain ⟨RL, hRL⟩ : ∃ R, rd.length = R := ⟨_, rfl⟩
  dsimp only at HG
  rw [hRL] at HG
  have HRL := Lib.hid hRL
  clear hv hl hN hB hG hRN hRK hRL
  by_cases h0 : G = 0
  · subst h0
    rw [cerr_0] at HG
    by_cases hk : RK = N
    · subst hk
      have HOK := Lib.hid (show getCode l = 0 ∧ total l = l.length from ⟨HGE.out, by rw [HN.out, ← HRK.out, resK_ok HGE.out]⟩)
      go_enter Try.func46, Try.ntmps46
      go_wp2_with fail
      refine HG.out.mono ?_
      rintro e w2 ⟨x, c, rfl, hown, hb2⟩
      have hI2 := IsF.own hown HRL.out.symm
      have hlo : ∀ b, (Value.slice x RL c).ownBlock = some b → w.heap.size + 1 ≤ b := fun b e => by have := (hown.lt b e).1; simpa using this
      have HLO := Lib.hid hlo
      have hR2 := HR.out.below hb2 HR.out.lt
      have hB2 := HB.out.trans (hb2.mono HB.out.size)
      have hR3 := hR2.alloc (.cells #[.int .u64 (rk : Int), .int .u32 (rc : Int), .bool rg, .slice x RL c] 41)
      have hB3 := hB2.alloc hB2.size (.cells #[.int .u64 (rk : Int), .int .u32 (rc : Int), .bool rg, .slice x RL c] 41)
      have hI3 := hI2.mono (below_new14 w2 (.cells #[.int .u64 (rk : Int), .int .u32 (rc : Int), .bool rg, .slice x RL c] 41)) (Nat.le_refl _)
      have hN3 := Blk.new w2 #[.int .u64 (rk : Int), .int .u32 (rc : Int), .bool rg, .slice x RL c] 41
      obtain ⟨w3, hw3⟩ : ∃ w3, w2.alloc (.cells #[.int .u64 (rk : Int), .int .u32 (rc : Int), .bool rg, .slice x RL c] 41) = w3 := ⟨_, rfl⟩
      obtain ⟨Y3, hY3⟩ : ∃ Y, w2.heap.size = Y := ⟨_, rfl⟩
      rw [hw3] at hR3 hB3 hN3 hI3
      rw [hY3] at hN3
      go_upto_region 6 with fail
      try rw [hw3]
      try rw [hY3]
      have hF := fin4 hR3 hB3 (Nat.le_refl _) (.int .u64 (rk : Int)) (.int .u32 (rc : Int)) (.bool rg) (.slice x RL c)
      unfold set4 at hF
      have HF := Lib.hid hF
      have q0 := hR3.cell 0 rfl
      have q1 := hR3.cell 1 rfl
      have q2 := hR3.cell 2 rfl
      have q3 := hR3.cell 3 rfl
      have qf := fun j => hR3.free j
      have n0 := hN3.cell 0 rfl
      have n1 := hN3.cell 1 rfl
      have n2 := hN3.cell 2 rfl
      have n3 := hN3.cell 3 rfl
      have HB3 := Lib.hid hB3
      have HI3 := Lib.hid hI3
      clear hF hR3 hB3 hI3 hR2 hw3 hY3 hN3
      clear hlo hown hb2 hI2 hB2
      go_wp2
      obtain ⟨j0, j1, j2, j3, jb, jk⟩ := HF.out
      have e1 : heldN 1 l = ⟨rk, rc, rg, rd⟩ := by unfold heldN; rw [if_pos ⟨rfl, HOK.out⟩, ← resN_ok HGE.out, HRN.out]
      have e2 : heldOk 1 l = true := decide_eq_true (.inl ⟨rfl, HOK.out⟩)
      refine bodyPost_ret (v := .tuple #[.agg #[.int .u64 (rk : Int), .int .u32 (rc : Int), .bool rg, .slice x RL c], .bool true]) (by simp [results, Try.results46, go_sem, j0, j1, j2, j3]) rfl ⟨x, c, ?_, ?_, ?_, jb⟩
      · rw [e1, e2]; dsimp only; rw [HRL.out]
      · rw [e1]; dsimp only; rw [HRL.out]; exact HI3.out.kept jk (fun b hb e => by have := HLO.out b hb.2; omega)
      · rw [e1]; dsimp only; rw [HRL.out]; intro b hb; exact Nat.le_of_succ_le (HLO.out b hb.2)
    · have k1 : ((RK : Int) != (N : Int)) = true := bne_iff_ne.2 (by omega)
      have HNO := Lib.hid (show ¬ (getCode l = 0 ∧ total l = l.length) from fun h => hk (by rw [← HRK.out, resK_ok HGE.out, h.2, HN.out]))
      clear hk
      go_enter Try.func46, Try.ntmps46
      go_wp2_with fail
      refine HG.out.mono ?_
      rintro e w2 ⟨x, c, rfl, hown, hb2⟩
      have hR2 := HR.out.below hb2 HR.out.lt
      have hB2 := HB.out.trans (hb2.mono HB.out.size)
      have hI3 := trivial
      have hR3 := hR2.alloc (.cells #[.int .u64 (rk : Int), .int .u32 (rc : Int), .bool rg, .slice x RL c] 41)
      have hB3 := hB2.alloc hB2.size (.cells #[.int .u64 (rk : Int), .int .u32 (rc : Int), .bool rg, .slice x RL c] 41)
      have hN3 := Blk.new w2 #[.int .u64 (rk : Int), .int .u32 (rc : Int), .bool rg, .slice x RL c] 41
      obtain ⟨w3, hw3⟩ : ∃ w3, w2.alloc (.cells #[.int .u64 (rk : Int), .int .u32 (rc : Int), .bool rg, .slice x RL c] 41) = w3 := ⟨_, rfl⟩
      obtain ⟨Y3, hY3⟩ : ∃ Y, w2.heap.size = Y := ⟨_, rfl⟩
      rw [hw3] at hR3 hB3 hN3
      rw [hY3] at hN3
      go_upto_region 5 with fail
      try rw [hw3]
      try rw [hY3]
      have hF := fin4 hR3 hB3 (Nat.le_refl _) (.int .u64 0) (.int .u32 0) (.bool false) (.slice none 0 0)
      unfold set4 at hF
      have HF := Lib.hid hF
      have q0 := hR3.cell 0 rfl
      have q1 := hR3.cell 1 rfl
      have q2 := hR3.cell 2 rfl
      have q3 := hR3.cell 3 rfl
      have qf := fun j => hR3.free j
      have HB3 := Lib.hid hB3
      have HI3 := Lib.hid hI3
      clear hF hR3 hB3 hI3 hR2 hw3 hY3 hN3
      clear hown hb2 hB2
      go_wp2
      obtain ⟨j0, j1, j2, j3, jb, jk⟩ := HF.out
      exact bodyPost_ret (v := .tuple #[.agg #[.int .u64 0, .int .u32 0, .bool false, .slice none 0 0], .bool false]) (by simp [results, Try.results46, go_sem, j0, j1, j2, j3]) rfl (HeldT.bad (f := 1) (l := l) (b := false) (fun h => HNO.out h.2) (by unfold heldOk; have := HNO.out; simp; exact fun h h2 => this ⟨h, h2⟩) jb)
  · have HNO := Lib.hid (show ¬ (getCode l = 0 ∧ total l = l.length) from fun h => h0 (by rw [← HGE.out, h.1]))
    rw [cerr_pos h0] at HG
    clear h0
    go_enter Try.func46, Try.ntmps46
    go_wp2_with fail
    refine HG.out.mono ?_
    rintro e w2 ⟨x, c, rfl, hown, hb2⟩
    have hR2 := HR.out.below hb2 HR.out.lt
    have hB2 := HB.out.trans (hb2.mono HB.out.size)
    have hI3 := trivial
    have hR3 := hR2.alloc (.cells #[.int .u64 (rk : Int), .int .u32 (rc : Int), .bool rg, .slice x RL c] 41)
    have hB3 := hB2.alloc hB2.size (.cells #[.int .u64 (rk : Int), .int .u32 (rc : Int), .bool rg, .slice x RL c] 41)
    have hN3 := Blk.new w2 #[.int .u64 (rk : Int), .int .u32 (rc : Int), .bool rg, .slice x RL c] 41
    obtain ⟨w3, hw3⟩ : ∃ w3, w2.alloc (.cells #[.int .u64 (rk : Int), .int .u32 (rc : Int), .bool rg, .slice x RL c] 41) = w3 := ⟨_, rfl⟩
    obtain ⟨Y3, hY3⟩ : ∃ Y, w2.heap.size = Y := ⟨_, rfl⟩
    rw [hw3] at hR3 hB3 hN3
    rw [hY3] at hN3
    go_upto_region 5 with fail
    try rw [hw3]
    try rw [hY3]
    have hF := fin4 hR3 hB3 (Nat.le_refl _) (.int .u64 0) (.int .u32 0) (.bool false) (.slice none 0 0)
    unfold set4 at hF
    have HF := Lib.hid hF
    have q0 := hR3.cell 0 rfl
    have q1 := hR3.cell 1 rfl
    have q2 := hR3.cell 2 rfl
    have q3 := hR3.cell 3 rfl
    have qf := fun j => hR3.free j
    have HB3 := Lib.hid hB3
    have HI3 := Lib.hid hI3
    clear hF hR3 hB3 hI3 hR2 hw3 hY3 hN3
    clear hown hb2 hB2
    go_wp2
    obtain ⟨j0, j1, j2, j3, jb, jk⟩ := HF.out
    exact bodyPost_ret (v := .tuple #[.agg #[.int .u64 0, .int .u32 0, .bool false, .slice none 0 0], .bool false]) (by simp [results, Try.results46, go_sem, j0, j1, j2, j3]) rfl (HeldT.bad (f := 1) (l := l) (b := false) (fun h => HNO.out h.2) (by unfold heldOk; have := HNO.out; simp; exact fun h h2 => this ⟨h, h2⟩) jb)
theorem held_any (f : Nat) (v : Value) (l : List UInt8) (w : World) (hv : IsB w v l) (hl : l.length ≤ 1099511627776) :
    Calls Try.prog 46 #[.int .u64 f, v] w (HeldT w f l) := by
  by_cases h1 : f = 1
  · subst h1
    exact held_yes v l w hv hl
  · exact held_no f v l w hv h1

end Go.Proofs.Ytofhbnnheadmlaa
