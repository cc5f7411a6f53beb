/- Package disk: what is behind each deed: by contracts. -/
import Derived.Test.YtnofabeajcdddaaDisk
import Derived.Deep.CutRange
namespace Go.Proofs.Ytnofabeajcdddaa
open Go.RowKit Go.Cor

theorem isDown_false {a : Option Nat} (h : isDown a = false) : a ≠ some 0 := by
  rintro rfl
  cases h
theorem isDown_true {a : Option Nat} (h : isDown a = true) : a = some 0 := by
  simpa [isDown] using h

theorem done_no (w : World) (p : Nat) (a0 a1 a2 a3 a4 a6 : Value) (T : TypeId) (h : Blk w p #[a0, a1, a2, a3, a4, .bool false, a6] T) :
    Calls Try.prog 44 #[.pointer (some ⟨p, 0, none⟩)] w fun e w' => e = .returned (.tuple #[]) ∧ w = w' := by
  obtain ⟨_, _, _, _, _, c5, _⟩ := box_facts h
  clear h
  go_enter Try.func44, Try.ntmps44
  go_wp2
  go_end0
  exact ⟨rfl, rfl⟩
theorem done_yes (w : World) (p : Nat) (a0 a1 a2 a3 a4 : Value) (n : Nat) (T : TypeId) (hn : n < 9223372036854775807) (h : Blk w p #[a0, a1, a2, a3, a4, .bool true, .int .i64 ((n + 1 : Nat) : Int)] T) :
    Calls Try.prog 44 #[.pointer (some ⟨p, 0, none⟩)] w fun e w' => e = .returned (.tuple #[]) ∧ w' = w.setCell ⟨p, 6, none⟩ (.int .i64 (n : Int)) := by
  obtain ⟨_, _, _, _, _, c5, c6⟩ := box_facts h
  have f6 := h.free 6
  have e1 : ((n + 1 : Nat) : Int) - 1 = (n : Int) := by omega
  rw [show ((n + 1 : Nat) : Int) = (n : Int) + 1 from rfl] at c6 e1
  clear h
  go_enter Try.func44, Try.ntmps44
  go_wp2
  go_end0
  exact ⟨rfl, rfl⟩
theorem done_any (w : World) (L : Lay) (d : Dsk) (h : At w L d) (hd : isDown d.armed = false) (ha : ∀ n, d.armed = some n → n < 9223372036854775808) :
    Calls Try.prog 44 #[.pointer (some ⟨L.p, 0, none⟩)] w fun e w' => e = .returned (.tuple #[]) ∧ At w' L d.done ∧ Kept (fun k => some L.p = some k) w w' := by
  have hb := h.blk
  unfold dcells lft at hb
  cases he : d.armed with
  | none =>
    rw [he] at hb
    refine (done_no w L.p _ _ _ _ _ _ _ hb).mono ?_
    rintro e w' ⟨rfl, rfl⟩
    have hd' : d.done = d := by unfold Dsk.done; rw [he]; cases d; simp_all
    rw [hd']
    exact ⟨rfl, h, Kept.refl _ _⟩
  | some n =>
    rw [he] at hb
    cases n with
    | zero => exact absurd he (isDown_false hd)
    | succ n =>
      refine (done_yes w L.p _ _ _ _ _ n _ (by have := ha _ he; omega) hb).mono ?_
      rintro e w' ⟨rfl, rfl⟩
      have hk : Kept (fun k => some L.p = some k) w (w.setCell ⟨L.p, 6, none⟩ (.int .i64 (n : Int))) := (Kept.refl (fun k => some L.p = some k) w).setCell (p := ⟨L.p, 6, none⟩) (.inl rfl) _
      refine ⟨rfl, ⟨?_, ?_⟩, hk⟩
      · have := hb.set 6 (.int .i64 (n : Int))
        unfold dcells lft Dsk.done
        rw [he]
        exact this
      · have hr := h.rest
        exact ⟨ownsRow_kept hr.now hk (fun k e e2 => by cases hr.apt .now .dsk k e e2), ownsRow_kept hr.las hk (fun k e e2 => by cases hr.apt .las .dsk k e e2), ownsRow_kept hr.dee hk (fun k e e2 => by cases hr.apt .dee .dsk k e e2),
          fun k hl => (hr.box k hl).kept hk (fun e2 => by cases hr.apt (.box k) .dsk _ (own_box hl) e2), fun k hl => ownsRow_kept (hr.byt k hl) hk (fun j e e2 => by cases hr.apt (.byt k) .dsk j ((own_byt hl).trans e) e2), hr.apt, Nat.lt_of_lt_of_le hr.plt hk.size⟩

theorem lastNames_any (w : World) (p : Nat) (a0 a1 a3 a4 a5 a6 now : Value) (l : Tbl) (fb : Nat → Nat) (hB : Blk w p #[a0, a1, now, a3, a4, a5, a6] 82) (hn : w.ownsRow 0 104 2 now l.length (row (ent fb) l)) (hl : l.length ≤ 1048576) :
    Calls Try.prog 45 #[.pointer (some ⟨p, 0, none⟩)] w fun e w' => e = .returned (.tuple #[]) ∧
      ∃ v', Blk w' p #[a0, a1, now, v', .slice none 0 0, a5, a6] 82 ∧ w'.ownsRow w.heap.size 104 2 v' l.length (row (ent fb) l) ∧ Kept (fun k => some p = some k) w w' := by
  obtain ⟨_, _, c2, c3, c4, _, _⟩ := box_facts hB
  have HB := Lib.hid hB
  have hp := hB.lt
  have HN := Lib.hid (IsX.own hn)
  clear hB hn
  go_enter Try.func45, Try.ntmps45
  go_wp2_with fail
  refine (tclone_any fb now l _ HN.out hl).mono ?_
  rintro e w1 ⟨v', rfl, hown, hb⟩
  obtain ⟨x, c, rfl, hc1, hc2⟩ := ownsRow_slice hown
  have HB1 := Lib.hid (HB.out.below hb hp)
  have HK1 := Lib.hid (Kept.of_below (S := fun k => some p = some k) hb (Nat.le_refl _))
  have HO := Lib.hid hown
  clear c2 c3 c4
  obtain ⟨_, _, c2, c3, c4, _, _⟩ := box_facts HB1.out
  have f3 := HB1.out.free 3
  have f4 := HB1.out.free 4
  clear hb hown
  go_wp2
  go_end0
  have h1 := (HB1.out.set 3 (.slice x l.length c)).set 4 (.slice none 0 0)
  have hk := (HK1.out.setCell (p := ⟨p, 3, none⟩) (.inl rfl) (.slice x l.length c)).setCell (p := ⟨p, 4, none⟩) (.inl rfl) (.slice none 0 0)
  refine ⟨rfl, _, h1, ?_, hk⟩
  refine ownsRow_kept (S := fun k => some p = some k) HO.out (((Kept.refl (fun k => some p = some k) w1).setCell (p := ⟨p, 3, none⟩) (.inl rfl) (.slice x l.length c)).setCell (p := ⟨p, 4, none⟩) (.inl rfl) (.slice none 0 0)) (fun k e e2 => ?_)
  have := (HO.out.lt k e).1
  cases e2
  omega

end Go.Proofs.Ytnofabeajcdddaa
