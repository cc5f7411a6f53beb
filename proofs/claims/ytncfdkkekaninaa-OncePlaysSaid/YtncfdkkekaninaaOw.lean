/- Package once by contracts: own, New, Len, Room, Clear. -/
import Derived.Test.YtncfdkkekaninaaOt
import Derived.Test.YtncfdkkekaninaaNeedlec
import Derived.Test.YtncfdkkekaninaaRef14e
import Derived.StillTailTactics
import Derived.Deep.CutRange
import Derived.RegionTactic
import Derived.ProofKit
import Derived.Deep.RegionHeld3
import Derived.Deep.RegionWith
import Derived.Deep.QuietTactic
import Derived.BigQuiet
set_option linter.unusedVariables false
set_option linter.unusedSimpArgs false
namespace Go.Proofs.Ytncfdkkekaninaa
open Go.RowKit Go.Cor

theorem below_new16 (w : World) (o : Obj) : Below w.heap.size w (w.alloc o) := (Below.refl _ w).alloc (Nat.le_refl _) o
theorem below_drewN16 {B : Nat} {w w' : World} (h : Below B w w') (n : Nat) : Below B w (w'.drewN n) := ⟨h.os, h.tape, h.output, h.size, h.block⟩
set_option maxRecDepth 100000 in
set_option maxHeartbeats 2000000 in
theorem own_f (fr tt kd vo li : Int) (id : Nat) (co : Int) (has : Bool) (key ck : Nat) (gn : Bool) (md : List UInt8) (x : Option Addr) (L c : Nat) (w : World) (hv : IsB w (.slice x L c) md) (hl : md.length ≤ 1099511627776) :
    Calls Try.prog 24 #[.agg #[.int .i64 fr, .int .i64 tt, .int .i64 kd, .int .i64 vo, .int .i64 li, .int .u64 (id : Int), .int .i64 co, .bool has, .int .u64 (key : Int), .int .u32 (ck : Int), .bool gn, .slice x L c]] w fun e w' => ∃ z q, e = .returned (.agg #[.int .i64 fr, .int .i64 tt, .int .i64 kd, .int .i64 vo, .int .i64 li, .int .u64 (id : Int), .int .i64 co, .bool has, .int .u64 (key : Int), .int .u32 (ck : Int), .bool gn, .slice z L q]) ∧ IsF w' (.slice z L q) md ∧ (∀ b, liesB (.slice z L q) md b → w.heap.size ≤ b) ∧ Below w.heap.size w w' := by
  have hM : md.length = L := by obtain ⟨a, cp, e, _⟩ := hv; cases e; rfl
  have hX := (Blk.new w #[.int .i64 fr, .int .i64 tt, .int .i64 kd, .int .i64 vo, .int .i64 li, .int .u64 (id : Int), .int .i64 co, .bool has, .int .u64 (key : Int), .int .u32 (ck : Int), .bool gn, .slice x L c] 42).alloc (.cells #[.int .i64 0, .int .i64 0, .int .i64 0, .int .i64 0, .int .i64 0, .int .u64 0, .int .i64 0, .bool false, .int .u64 0, .int .u32 0, .bool false, .slice none 0 0] 42)
  have hZ := Blk.new (w.alloc (.cells #[.int .i64 fr, .int .i64 tt, .int .i64 kd, .int .i64 vo, .int .i64 li, .int .u64 (id : Int), .int .i64 co, .bool has, .int .u64 (key : Int), .int .u32 (ck : Int), .bool gn, .slice x L c] 42)) #[.int .i64 0, .int .i64 0, .int .i64 0, .int .i64 0, .int .i64 0, .int .u64 0, .int .i64 0, .bool false, .int .u64 0, .int .u32 0, .bool false, .slice none 0 0] 42
  rw [show (w.alloc (.cells #[.int .i64 fr, .int .i64 tt, .int .i64 kd, .int .i64 vo, .int .i64 li, .int .u64 (id : Int), .int .i64 co, .bool has, .int .u64 (key : Int), .int .u32 (ck : Int), .bool gn, .slice x L c] 42)).heap.size = w.heap.size + 1 by simp] at hZ
  have hB := ((Below.refl w.heap.size w).alloc (Nat.le_refl _) (.cells #[.int .i64 fr, .int .i64 tt, .int .i64 kd, .int .i64 vo, .int .i64 li, .int .u64 (id : Int), .int .i64 co, .bool has, .int .u64 (key : Int), .int .u32 (ck : Int), .bool gn, .slice x L c] 42)).alloc (by simp) (.cells #[.int .i64 0, .int .i64 0, .int .i64 0, .int .i64 0, .int .i64 0, .int .u64 0, .int .i64 0, .bool false, .int .u64 0, .int .u32 0, .bool false, .slice none 0 0] 42)
  have HC := Lib.hid (clone_S (.slice x L c) md ((w.alloc (.cells #[.int .i64 fr, .int .i64 tt, .int .i64 kd, .int .i64 vo, .int .i64 li, .int .u64 (id : Int), .int .i64 co, .bool has, .int .u64 (key : Int), .int .u32 (ck : Int), .bool gn, .slice x L c] 42)).alloc (.cells #[.int .i64 0, .int .i64 0, .int .i64 0, .int .i64 0, .int .i64 0, .int .u64 0, .int .i64 0, .bool false, .int .u64 0, .int .u32 0, .bool false, .slice none 0 0] 42)) L (hv.mono hB (Nat.le_refl _)) hl hM)
  obtain ⟨w2, hw2⟩ : ∃ z, ((w.alloc (.cells #[.int .i64 fr, .int .i64 tt, .int .i64 kd, .int .i64 vo, .int .i64 li, .int .u64 (id : Int), .int .i64 co, .bool has, .int .u64 (key : Int), .int .u32 (ck : Int), .bool gn, .slice x L c] 42)).alloc (.cells #[.int .i64 0, .int .i64 0, .int .i64 0, .int .i64 0, .int .i64 0, .int .u64 0, .int .i64 0, .bool false, .int .u64 0, .int .u32 0, .bool false, .slice none 0 0] 42)) = z := ⟨_, rfl⟩
  have hs2 : w2.heap.size = w.heap.size + 1 + 1 := by rw [← hw2]; simp
  rw [hw2] at hX hZ hB HC
  have p11 := hX.cell 11 rfl
  have HW2 := Lib.hid hw2
  have HX := Lib.hid hX
  have HZ := Lib.hid hZ
  have HB := Lib.hid hB
  have HM := Lib.hid hM
  have HS2 := Lib.hid hs2
  clear hv hl hM hX hZ hB hw2 hs2
  go_enter Try.func24, Try.ntmps24
  go_upto_region 1 with fail
  rw [HW2.out]
  go_wp2_with fail
  refine HC.out.mono ?_
  rintro e w4 ⟨z, q, rfl, hown, hb4⟩
  have hX4 := HX.out.below hb4 HX.out.lt
  have hZ4 := HZ.out.below hb4 HZ.out.lt
  have hB4 := HB.out.trans (hb4.mono HB.out.size)
  have hI4 := IsF.own hown HM.out.symm
  have hlo : ∀ b, (Value.slice z L q).ownBlock = some b → w.heap.size + 1 + 1 ≤ b := fun b e => by have := (hown.lt b e).1; have := HS2.out; omega
  clear p11
  have q11 := hX4.cell 11 rfl
  have qf := fun j => hX4.free j
  have hX5 := hX4.set 11 (.slice z L q)
  simp at hX5
  have hZ5 := hZ4.other (a := ⟨w.heap.size, 11, none⟩) (by simp) (.slice z L q)
  have hB5 := hB4.setCell (p := ⟨w.heap.size, 11, none⟩) (by simp) (.slice z L q)
  have hI5 := hI4.kept ((Kept.refl (fun j => j = w.heap.size) w4).setCell (p := ⟨w.heap.size, 11, none⟩) (.inl rfl) (.slice z L q)) (fun b hb e => by have := hlo b hb.2; omega)
  obtain ⟨w5, hw5⟩ : ∃ w5, w4.setCell ⟨w.heap.size, 11, none⟩ (.slice z L q) = w5 := ⟨_, rfl⟩
  rw [hw5] at hX5 hZ5 hB5 hI5
  go_upto_region 2 with fail
  try rw [hw5]
  have HX5 := Lib.hid hX5
  have HZ5 := Lib.hid hZ5
  have HB5 := Lib.hid hB5
  have HI5 := Lib.hid hI5
  have HLO := Lib.hid hlo
  have HF := fin12 hZ5 hB5 (by omega) (.int .i64 fr) (.int .i64 tt) (.int .i64 kd) (.int .i64 vo) (.int .i64 li) (.int .u64 (id : Int)) (.int .i64 co) (.bool has) (.int .u64 (key : Int)) (.int .u32 (ck : Int)) (.bool gn) (.slice z L q)
  unfold set12 at HF
  have HF := Lib.hid HF
  clear hX4 hZ4 hB4 hI4 hlo q11 qf hX5 hZ5 hB5 hI5 hw5 hown hb4
  have p0 := HX5.out.cell 0 rfl
  have p1 := HX5.out.cell 1 rfl
  have p2 := HX5.out.cell 2 rfl
  have p3 := HX5.out.cell 3 rfl
  have p4 := HX5.out.cell 4 rfl
  have p5 := HX5.out.cell 5 rfl
  have p6 := HX5.out.cell 6 rfl
  have p7 := HX5.out.cell 7 rfl
  have p8 := HX5.out.cell 8 rfl
  have p9 := HX5.out.cell 9 rfl
  have p10 := HX5.out.cell 10 rfl
  have p11 := HX5.out.cell 11 rfl
  have z0 := HZ5.out.cell 0 rfl
  have z1 := HZ5.out.cell 1 rfl
  have z2 := HZ5.out.cell 2 rfl
  have z3 := HZ5.out.cell 3 rfl
  have z4 := HZ5.out.cell 4 rfl
  have z5 := HZ5.out.cell 5 rfl
  have z6 := HZ5.out.cell 6 rfl
  have z7 := HZ5.out.cell 7 rfl
  have z8 := HZ5.out.cell 8 rfl
  have z9 := HZ5.out.cell 9 rfl
  have z10 := HZ5.out.cell 10 rfl
  have z11 := HZ5.out.cell 11 rfl
  have zf := fun j => HZ5.out.free j
  go_wp2
  obtain ⟨j0, j1, j2, j3, j4, j5, j6, j7, j8, j9, j10, j11, jb, jk⟩ := HF.out
  refine bodyPost_ret (v := .agg #[.int .i64 fr, .int .i64 tt, .int .i64 kd, .int .i64 vo, .int .i64 li, .int .u64 (id : Int), .int .i64 co, .bool has, .int .u64 (key : Int), .int .u32 (ck : Int), .bool gn, .slice z L q]) (by simp [results, Try.results24, go_sem, j0, j1, j2, j3, j4, j5, j6, j7, j8, j9, j10, j11]) rfl ⟨z, q, rfl, HI5.out.kept jk (fun b hb e => by have := HLO.out b hb.2; omega), fun b hb => by have := HLO.out b hb.2; omega, jb⟩
theorem own_any (m : Msg) (x : Option Addr) (L c : Nat) (w : World) (hv : IsB w (.slice x L c) m.n.data) (hl : m.n.data.length ≤ 1099511627776) :
    Calls Try.prog 24 #[mval m (.slice x L c)] w fun e w' => ∃ z q, e = .returned (mval m (.slice z L q)) ∧ IsF w' (.slice z L q) m.n.data ∧ (∀ b, liesB (.slice z L q) m.n.data b → w.heap.size ≤ b) ∧ Below w.heap.size w w' := by
  obtain ⟨fr, tt, kd, vo, li, id, co, has, key, ck, gn, md⟩ := m
  exact own_f fr tt kd vo li id co has key ck gn md x L c w hv hl
set_option maxRecDepth 100000 in
set_option maxHeartbeats 1000000 in
theorem onew_bad (most : Int) (w : World) (h : ¬ (1 ≤ most ∧ most ≤ 4096)) :
    Calls Try.prog 8 #[.int .i64 most] w fun e w' => e = .returned (.tuple #[.pointer none, err 1]) ∧ w = w' := by
  by_cases h1 : most < 1
  · clear h
    go_enter Try.func8, Try.ntmps8
    go_wp2
    go_ret2
    exact ⟨rfl, rfl⟩
  · have h2 : most > 4096 := by omega
    clear h
    go_enter Try.func8, Try.ntmps8
    go_wp2
    go_ret2
    exact ⟨rfl, rfl⟩
set_option maxRecDepth 100000 in
set_option maxHeartbeats 1000000 in
theorem onew_at (most : Int) (w : World) (h : 1 ≤ most ∧ most ≤ 4096) :
    Calls Try.prog 8 #[.int .i64 most] w fun e w' => ∃ g, w.heap.size ≤ g ∧ e = .returned (.tuple #[.pointer (some ⟨g, 0, none⟩), .nilIface]) ∧ (∃ b, w.heap.size ≤ b ∧ TbAt w' g b most []) ∧ Below w.heap.size w w' := by
  have h1 : ¬ most < 1 := by omega
  have h2 : ¬ most > 4096 := by omega
  have hmm := @run_makeMap Try.prog
  have HB := Lib.hid (((Below.refl w.heap.size w).alloc (Nat.le_refl _) (.map #[] 0)).alloc (by simp) (.cells #[.int .i64 most, .map (some w.heap.size)] 59))
  have HX := Lib.hid (Blk.new (w.alloc (.map #[] 0)) #[.int .i64 most, .map (some w.heap.size)] 59)
  have HT := Lib.hid ((TabAt.made w).kept (T := fun _ => False) (Kept.of_below (below_new16 (w.alloc (.map #[] 0)) (.cells #[.int .i64 most, .map (some w.heap.size)] 59)) (Nat.le_refl _)) (fun h => h))
  clear h
  go_enter Try.func8, Try.ntmps8
  go_wp2
  go_ret2
  exact ⟨w.heap.size + 1, by omega, rfl, ⟨w.heap.size, Nat.le_refl _, ⟨by simpa using HX.out, by omega, HT.out, fun x hx => by cases hx⟩⟩, HB.out⟩
theorem onew_tb (most : Int) (w : World) (h : 1 ≤ most ∧ most ≤ 4096) :
    Calls Try.prog 8 #[.int .i64 most] w fun e w' => ∃ g S, e = .returned (.tuple #[.pointer (some ⟨g, 0, none⟩), .nilIface]) ∧ Tb w' w.heap.size g S most [] ∧ Below w.heap.size w w' := by
  refine (onew_at most w h).mono ?_
  rintro e w' ⟨g, hg, rfl, ⟨b, hb, ht⟩, hB⟩
  refine ⟨g, tmem g b [], rfl, ⟨b, [], ht, rfl, ⟨h.1, h.2, by have := h.1; simp; omega⟩, fun m hm => (by cases hm), fun k hk => hk, fun k hk => ⟨?_, ht.lt hk⟩⟩, hB⟩
  rcases hk with rfl | rfl | ⟨x, hx, _⟩
  · exact hg
  · exact hb
  · cases hx
theorem olen_nil (w : World) : Calls Try.prog 14 #[.pointer none] w fun e w' => e = .returned (.int .i64 0) ∧ w = w' := by
  go_enter Try.func14, Try.ntmps14
  go_wp2
  go_ret
  exact ⟨rfl, rfl⟩
theorem oroom_nil (w : World) : Calls Try.prog 15 #[.pointer none] w fun e w' => e = .returned (.bool false) ∧ Below w.heap.size w w' := by
  go_enter Try.func15, Try.ntmps15
  go_wp2
  go_quiet (fail)
  go_wp2
  go_ret
  exact ⟨rfl, below_drewN16 (Below.refl _ _) nq⟩
theorem oclear_nil (w : World) : Calls Try.prog 10 #[.pointer none] w fun e w' => e = .returned (.tuple #[]) ∧ w = w' := by
  go_enter Try.func10, Try.ntmps10
  go_wp2
  go_end0
  exact ⟨rfl, rfl⟩
set_option maxRecDepth 100000 in
set_option maxHeartbeats 1000000 in
theorem olen_at {w : World} {g b : Nat} {most : Int} {l : List (Msg × Value)} (h : TbAt w g b most l) : Calls Try.prog 14 #[.pointer (some ⟨g, 0, none⟩)] w fun e w' => e = .returned (.int .i64 (l.length : Int)) ∧ w = w' := by
  have k1 : w.cell? ⟨g, 1, none⟩ = some (.map (some b)) := h.tblk.cell 1 rfl
  have hlen := fun ty => h.tmap.len ty
  clear h
  go_enter Try.func14, Try.ntmps14
  go_wp2
  go_ret
  exact ⟨rfl, rfl⟩
set_option maxRecDepth 100000 in
set_option maxHeartbeats 1000000 in
theorem oroom_at {w : World} {g b : Nat} {most : Int} {l : List (Msg × Value)} (h : TbAt w g b most l) : Calls Try.prog 15 #[.pointer (some ⟨g, 0, none⟩)] w fun e w' => e = .returned (.bool (decide ((l.length : Int) < most))) ∧ Below w.heap.size w w' := by
  have k0 : w.cell? ⟨g, 0, none⟩ = some (.int .i64 most) := h.tblk.cell 0 rfl
  have k1 : w.cell? ⟨g, 1, none⟩ = some (.map (some b)) := h.tblk.cell 1 rfl
  have hlen := fun (n : Nat) ty => (show (Builtin.len_ #[57] ty #[.map (some b)]).run Try.prog (w.drewN n) = .ok (.int .i64 (l.length : Int)) (w.drewN n) from TabAt.len (w := w.drewN n) (h.tmap.kept (T := fun _ => False) (Kept.of_below (below_drewN16 (Below.refl w.heap.size w) n) (Nat.le_refl _)) (fun h => h)) ty)
  obtain ⟨D, hD⟩ : ∃ D, decide ((l.length : Int) < most) = D := ⟨_, rfl⟩
  obtain ⟨N, hN⟩ : ∃ N, l.length = N := ⟨_, rfl⟩
  rw [hN] at hlen hD
  rw [hN, hD]
  have HN := Lib.hid hN
  clear h hN
  go_enter Try.func15, Try.ntmps15
  go_wp2
  go_quiet (fail)
  go_wp2
  go_ret
  exact ⟨rfl, below_drewN16 (Below.refl _ _) nq⟩
set_option maxRecDepth 100000 in
set_option maxHeartbeats 1000000 in
theorem oclear_at {w : World} {g b : Nat} {most : Int} {l : List (Msg × Value)} (h : TbAt w g b most l) : Calls Try.prog 10 #[.pointer (some ⟨g, 0, none⟩)] w fun e w' => e = .returned (.tuple #[]) ∧ TbAt w' g b most [] ∧ Kept (fun k => k = b) w w' := by
  have k1 : w.cell? ⟨g, 1, none⟩ = some (.map (some b)) := h.tblk.cell 1 rfl
  obtain ⟨wc, hcl, hT, hK⟩ := h.tmap.clear
  have HT := Lib.hid (h.turned (l' := []) hK hT (fun x hx => by cases hx))
  have HK := Lib.hid hK
  clear h hT hK
  go_enter Try.func10, Try.ntmps10
  go_wp2
  go_end0
  exact ⟨rfl, HT.out, HK.out⟩
theorem olen_any {B g : Nat} {S : Nat → Prop} {most : Int} {L : List Msg} (w : World) (h : Tb w B g S most L) : Calls Try.prog 14 #[.pointer (some ⟨g, 0, none⟩)] w fun e w' => e = .returned (.int .i64 (L.length : Int)) ∧ w = w' := by
  obtain ⟨b, l, h1, rfl, _⟩ := h
  rw [List.length_map]
  exact olen_at h1
theorem oroom_any {B g : Nat} {S : Nat → Prop} {most : Int} {L : List Msg} (w : World) (h : Tb w B g S most L) : Calls Try.prog 15 #[.pointer (some ⟨g, 0, none⟩)] w fun e w' => e = .returned (.bool (decide ((L.length : Int) < most))) ∧ Below w.heap.size w w' := by
  obtain ⟨b, l, h1, rfl, _⟩ := h
  rw [List.length_map]
  exact oroom_at h1
theorem oclear_any {B g : Nat} {S : Nat → Prop} {most : Int} {L : List Msg} (w : World) (h : Tb w B g S most L) : Calls Try.prog 10 #[.pointer (some ⟨g, 0, none⟩)] w fun e w' => e = .returned (.tuple #[]) ∧ TbT w B g S most [] w' := by
  obtain ⟨b, l, h1, rfl, h3, h4, h5, h6⟩ := h
  refine (oclear_at h1).mono ?_
  rintro e w' ⟨rfl, k1, k2⟩
  refine ⟨rfl, ⟨S, ⟨b, [], k1, rfl, ⟨h3.1, h3.2.1, by have := h3.1; simp; omega⟩, fun m hm => (by cases hm), fun k hk => h5 k ?_, fun k hk => ⟨(h6 k hk).1, Nat.lt_of_lt_of_le (h6 k hk).2 k2.size⟩⟩, fun k hk => .inl hk, k2.mono fun k _ e => h5 k (.inr (.inl e))⟩⟩
  rcases hk with e | e | ⟨x, hx, _⟩
  · exact .inl e
  · exact .inr (.inl e)
  · cases hx

end Go.Proofs.Ytncfdkkekaninaa
