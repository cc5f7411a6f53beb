/- Package net by contracts: add, drop, Lose, Twice. -/
import Derived.Test.YtofhbnnheadmlaaNq
import Derived.Test.YtofhbnnheadmlaaNeedleeF
set_option linter.unusedVariables false
set_option linter.unusedSimpArgs false
namespace Go.Proofs.Ytofhbnnheadmlaa
open Go.RowKit Go.Cor

theorem NtAt.pushed {g : Nat} {pv : Value} {ps : List (Msg × Value)} {mv : Value} {c : List (Int × Int)} {K : Nat} {w w1 w2 : World} {pv' u : Value} {m : Msg} (h : NtAt w g pv ps mv c K) (hu : IsB w u (mbytes m)) (hu1 : u.oneCell' = true) (hua : ∀ k, liesB u (mbytes m) k → k ≠ g ∧ pv.ownBlock ≠ some k ∧ mv ≠ .map (some k))
    (hb : Below w.heap.size w w1) (hg : w1.grownBy w2 pv.ownBlock) (hown : w2.ownsRow 0 26 1 pv' (ps.length + 1) (row pkc ps ++ [u])) (hpv : pv'.ownBlock = pv.ownBlock ∨ pv'.ownBlock = some w1.heap.size) :
    NtAt (w2.setCell ⟨g, 0, none⟩ pv') g pv' (ps ++ [(m, u)]) mv c K ∧ Kept (fun k => k = g ∨ pv.ownBlock = some k) w (w2.setCell ⟨g, 0, none⟩ pv') ∧ ∀ k, pv'.ownBlock = some k → pv.ownBlock = some k ∨ w.heap.size ≤ k := by
  have hgl := h.nblk.lt
  have hsz := hb.size
  have hnew : ∀ k, pv'.ownBlock = some k → pv.ownBlock = some k ∨ w.heap.size ≤ k := fun k hk => by
    rcases hpv with e | e
    · exact .inl (e ▸ hk)
    · rw [e] at hk; cases hk; exact .inr hsz
  have hk2 : Kept (fun k => k = g ∨ pv.ownBlock = some k) w w2 := (Kept.of_below hb (Nat.le_refl _)).grown hg (fun k e => .inl (.inr e))
  have hk3 : Kept (fun k => k = g ∨ pv.ownBlock = some k) w (w2.setCell ⟨g, 0, none⟩ pv') := hk2.setCell (p := ⟨g, 0, none⟩) (.inl (.inl rfl)) pv'
  have hne : pv'.ownBlock ≠ some g := fun e => by
    rcases hnew g e with h1 | h1
    · exact h.nap h1
    · omega
  have hb2 : Blk w2 g #[pv, mv] 66 := (h.nblk.below hb hgl).grown hg h.nap
  have hb3 := hb2.set 0 pv'
  simp at hb3
  refine ⟨⟨hb3, ?_, hne, ?_, ?_, ?_⟩, hk3, hnew⟩
  · have h1 := ownsRow_kept hown ((Kept.refl (fun j => j = g) w2).setCell (p := ⟨g, 0, none⟩) (.inl rfl) pv') (fun k e e2 => hne (e2 ▸ e))
    rw [List.length_append, row_append, row_one]
    exact h1
  · intro x hx
    rcases List.mem_append.1 hx with hx | hx
    · obtain ⟨p1, p2, p3⟩ := h.npk x hx
      refine ⟨p1.kept hk3 fun k e => ?_, p2, fun k e => ⟨(p3 k e).1, fun e2 => ?_, (p3 k e).2.2⟩⟩
      · rintro (e2 | e2)
        · exact (p3 k e).1 e2
        · exact (p3 k e).2.1 e2
      · rcases hnew k e2 with h1 | h1
        · exact (p3 k e).2.1 h1
        · have := p1.lies_lt e; omega
    · rw [List.mem_singleton.1 hx]
      refine ⟨hu.kept hk3 fun k e => ?_, hu1, fun k e => ⟨(hua k e).1, fun e2 => ?_, (hua k e).2.2⟩⟩
      · rintro (e2 | e2)
        · exact (hua k e).1 e2
        · exact (hua k e).2.1 e2
      · rcases hnew k e2 with h1 | h1
        · exact (hua k e).2.1 h1
        · have := hu.lies_lt e; omega
  · refine h.ncut.kept hk3 fun k e => ?_
    rintro (e2 | e2)
    · exact (h.nmap k e).1 e2
    · exact (h.nmap k e).2 e2
  · intro b e
    refine ⟨(h.nmap b e).1, fun e2 => ?_⟩
    rcases hnew b e2 with h1 | h1
    · exact (h.nmap b e).2 h1
    · have := h.ncut.lt e; omega
theorem NtAt.dropped {g : Nat} {pv : Value} {ps : List (Msg × Value)} {mv : Value} {c : List (Int × Int)} {K : Nat} {w w1 : World} {pv' : Value} {i : Nat} (h : NtAt w g pv ps mv c K) (hk : Kept (fun k => pv.ownBlock = some k) w w1) (hown : w1.ownsRow 0 26 1 pv' (ps.eraseIdx i).length (row pkc (ps.eraseIdx i))) (hpv : pv'.ownBlock = pv.ownBlock) :
    NtAt (w1.setCell ⟨g, 0, none⟩ pv') g pv' (ps.eraseIdx i) mv c K ∧ Kept (fun k => k = g ∨ pv.ownBlock = some k) w (w1.setCell ⟨g, 0, none⟩ pv') := by
  have hk3 : Kept (fun k => k = g ∨ pv.ownBlock = some k) w (w1.setCell ⟨g, 0, none⟩ pv') := (hk.mono (T := (fun k => k = g ∨ pv.ownBlock = some k)) (fun k _ e => .inr e)).setCell (p := ⟨g, 0, none⟩) (.inl (.inl rfl)) pv'
  have hb3 := (h.nblk.kept hk (fun e => h.nap e)).set 0 pv'
  simp at hb3
  refine ⟨⟨hb3, ?_, by rw [hpv]; exact h.nap, ?_, ?_, ?_⟩, hk3⟩
  · exact ownsRow_kept hown ((Kept.refl (fun j => j = g) w1).setCell (p := ⟨g, 0, none⟩) (.inl rfl) pv') (fun k e e2 => h.nap (by rw [← hpv, e, e2]))
  · intro x hx
    obtain ⟨p1, p2, p3⟩ := h.npk x (List.mem_of_mem_eraseIdx hx)
    refine ⟨p1.kept hk3 fun k e => ?_, p2, fun k e => by rw [hpv]; exact p3 k e⟩
    rintro (e2 | e2)
    · exact (p3 k e).1 e2
    · exact (p3 k e).2.1 e2
  · refine h.ncut.kept hk3 fun k e => ?_
    rintro (e2 | e2)
    · exact (h.nmap k e).1 e2
    · exact (h.nmap k e).2 e2
  · rw [hpv]; exact h.nmap
theorem nadd_full {g : Nat} {pv : Value} {ps : List (Msg × Value)} {mv : Value} {c : List (Int × Int)} {K : Nat} (u : Value) (w : World) (h : NtAt w g pv ps mv c K) (hl : 4096 ≤ ps.length) :
    Calls Try.prog 26 #[.pointer (some ⟨g, 0, none⟩), u] w fun e w' => e = .returned (err 11) ∧ w = w' := by
  have k0 : w.cell? ⟨g, 0, none⟩ = some pv := h.nblk.cell 0 rfl
  have hlen := (fun W => len_X (P := Try.prog) h.isX 63 3 26 Try.underlying63 W)
  have k1 : (4096 : Int) ≤ (ps.length : Int) := by omega
  clear h
  go_enter Try.func26, Try.ntmps26
  go_wp2
  go_ret
  exact ⟨rfl, rfl⟩
set_option maxRecDepth 100000 in
set_option maxHeartbeats 1000000 in
theorem nadd_ok {g : Nat} {pv : Value} {ps : List (Msg × Value)} {mv : Value} {c : List (Int × Int)} {K : Nat} (ux : Option Addr) (ul uc : Nat) (m : Msg) (w : World) (h : NtAt w g pv ps mv c K) (hl : ¬ 4096 ≤ ps.length) (hu : IsB w (.slice ux ul uc) (mbytes m)) (hua : ∀ k, liesB (.slice ux ul uc) (mbytes m) k → k ≠ g ∧ pv.ownBlock ≠ some k ∧ mv ≠ .map (some k)) :
    Calls Try.prog 26 #[.pointer (some ⟨g, 0, none⟩), .slice ux ul uc] w fun e w' => e = .returned .nilIface ∧ ∃ pv', NtAt w' g pv' (ps ++ [(m, .slice ux ul uc)]) mv c K ∧ Kept (fun k => k = g ∨ pv.ownBlock = some k) w w' ∧ ∀ k, pv'.ownBlock = some k → pv.ownBlock = some k ∨ w.heap.size ≤ k := by
  obtain ⟨i0, hi0, hz0, hz1, hz2⟩ := info_parts Try.infoBs
  obtain ⟨N, hN⟩ : ∃ N, ps.length = N := ⟨_, rfl⟩
  have k0 : w.cell? ⟨g, 0, none⟩ = some pv := h.nblk.cell 0 rfl
  have hlen := (fun W => len_X (P := Try.prog) h.isX 63 3 26 Try.underlying63 W)
  have hrow := h.nrow
  have hgl := h.nblk.lt
  obtain ⟨pa, pl, pcp, rfl, _, _⟩ : ∃ x n cp, pv = .slice x n cp ∧ n ≤ cp ∧ cp ≤ maxLen := by
    obtain ⟨x, cp, e, h1, h2⟩ := Go.Cor.ownsRow_slice hrow
    exact ⟨x, _, cp, e, h1, h2⟩
  have HPU := Lib.hid (fun (w1 w2 : World) (pv' : Value) hb hg hown hpv => h.pushed (w1 := w1) (w2 := w2) (pv' := pv') hu rfl hua hb hg hown hpv)
  have HA1 := Lib.hid (fun w1 (hb : Below w.heap.size w w1) => (h.below hb (Nat.le_refl _)))
  rw [hN] at hlen hrow hl HPU
  have HROW := Lib.hid hrow
  have k1 : ¬ (4096 : Int) ≤ (N : Int) := by omega
  have hB1 := below_new15 w (.cells #[.slice ux ul uc] 26)
  have hlit := IsX.lit w #[.slice ux ul uc] 26 1 1 rfl (by unfold maxLen; omega)
  have hr1 := ownsRow_below hrow hB1 (Nat.le_refl _)
  have c1 : (w.alloc (.cells #[.slice ux ul uc] 26)).cell? ⟨g, 0, none⟩ = some (.slice pa pl pcp) := (HA1.out _ hB1).nblk.cell 0 rfl
  obtain ⟨w1, hw1⟩ : ∃ z, w.alloc (.cells #[.slice ux ul uc] 26) = z := ⟨_, rfl⟩
  obtain ⟨X, hX⟩ : ∃ z, w.heap.size = z := ⟨_, rfl⟩
  rw [hw1] at hB1 hlit hr1 c1
  rw [hX] at hlit
  have HW1 := Lib.hid hw1
  have HX := Lib.hid hX
  have HB1 := Lib.hid hB1
  have HLIT := Lib.hid hlit
  have HR1 := Lib.hid hr1
  have HN1 := Lib.hid (pkc_one h.one)
  have HGB := Lib.hid (fun w2 (hg : w1.grownBy w2 (Value.slice pa pl pcp).ownBlock) => ((HA1.out _ hB1).nblk.grown hg h.nap))
  clear h hu hua hl hw1 hB1 hlit hr1 hrow hX hN
  go_enter Try.func26, Try.ntmps26
  go_upto_region 3 with fail
  go_wp2_with (at_builtin; (try rw [HW1.out]); (try rw [HX.out]); refine wpList_append_X (by rfl) _ _ 63 63 rfl (fun _ _ _ => rfl) 0 26 i0 _ 1 24 Try.underlying63 hi0 hz0 hz1 hz2 rfl (by decide) _ _ N rfl HR1.out _ 1 _ rfl HLIT.out (by intro v hv; simp at hv; subst hv; rfl) (by unfold maxLen; omega) (by omega) (Nat.zero_le _) ?_)
  intro v' w2 hown2 hg2 hpv2
  obtain ⟨y, yn, yc, rfl⟩ : ∃ y yn yc, v' = .slice y yn yc := by
    obtain ⟨x, cp, e, _, _⟩ := Go.Cor.ownsRow_slice hown2
    exact ⟨x, _, cp, e⟩
  have HZ := Lib.hid (HPU.out w1 w2 _ HB1.out hg2 hown2 hpv2)
  have HG2 := Lib.hid (HGB.out w2 hg2)
  clear hown2 hpv2 hg2
  have q0 := HG2.out.cell 0 rfl
  have qf := fun j => HG2.out.free j
  go_wp2
  go_ret
  exact ⟨rfl, _, HZ.out.1, HZ.out.2.1, HZ.out.2.2⟩
set_option maxRecDepth 100000 in
set_option maxHeartbeats 1000000 in
theorem ndrop_at {g : Nat} {pv : Value} {ps : List (Msg × Value)} {mv : Value} {c : List (Int × Int)} {K : Nat} (i : Nat) (w : World) (h : NtAt w g pv ps mv c K) (hi : i < ps.length) (hl : ps.length ≤ 4096) :
    Calls Try.prog 27 #[.pointer (some ⟨g, 0, none⟩), .int .i64 (i : Int)] w fun e w' => e = .returned (.tuple #[]) ∧ ∃ pv', NtAt w' g pv' (ps.eraseIdx i) mv c K ∧ Kept (fun k => k = g ∨ pv.ownBlock = some k) w w' ∧ pv'.ownBlock = pv.ownBlock := by
  have k0 : w.cell? ⟨g, 0, none⟩ = some pv := h.nblk.cell 0 rfl
  have HD := Lib.hid (tdel_any pv ps i w h.one h.nrow hi (by omega))
  have HDR := Lib.hid (fun (w1 : World) (pv' : Value) hk hown hpv => h.dropped (w1 := w1) (pv' := pv') (i := i) hk hown hpv)
  have HG := Lib.hid (fun (w1 : World) (hk : Kept (fun k => pv.ownBlock = some k) w w1) => h.nblk.kept hk (fun e => h.nap e))
  have ei : IntKind.i64.wrap ((i : Int) + 1) = (i : Int) + 1 := IntWalk.i64_in _ (by omega)
  clear h
  go_enter Try.func27, Try.ntmps27
  go_wp2_with fail
  refine HD.out.mono ?_
  rintro e w1 ⟨v', rfl, hown1, hk1, hpv1⟩
  obtain ⟨y, yn, yc, rfl⟩ : ∃ y yn yc, v' = .slice y yn yc := by
    obtain ⟨x, cp, e, _, _⟩ := Go.Cor.ownsRow_slice hown1
    exact ⟨x, _, cp, e⟩
  have HZ := Lib.hid (HDR.out w1 _ hk1 hown1 hpv1)
  have HG1 := Lib.hid (HG.out w1 hk1)
  have HP := Lib.hid hpv1
  clear hown1 hpv1 hk1
  have q0 := HG1.out.cell 0 rfl
  have qf := fun j => HG1.out.free j
  go_wp2
  go_end0
  exact ⟨rfl, _, HZ.out.1, HZ.out.2, HP.out⟩

end Go.Proofs.Ytofhbnnheadmlaa
