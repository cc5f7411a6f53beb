/- Name, Fin, Used, Ops, Ops2, Ops3. -/
import Derived.Test.YtllbngopfganjaaGreatDoorM5
import Derived.Lib.SliceRun
set_option linter.unusedVariables false
set_option linter.unusedSimpArgs false

section
namespace Go.Proofs.YtllbngopfganjaaGreatDoor
open Go.RowKit Go.Cor

theorem regS_call {w wx wy : World} {B : Nat} {s t : ByteArray} {q : Value} {T : TypeId} (h : wx.cell? ⟨B, 0, none⟩ = some (.string s) ∧ wx.cell? ⟨B, 1, none⟩ = some (.string t) ∧ wx.frozen? ⟨B, 0, none⟩ = false ∧ wx.frozen? ⟨B, 1, none⟩ = false ∧ Blk wx B #[.string s, .string t, q] T ∧ Below B w wx) (hb : Below wx.heap.size wx wy) :
    wy.cell? ⟨B, 0, none⟩ = some (.string s) ∧ wy.cell? ⟨B, 1, none⟩ = some (.string t) ∧ wy.frozen? ⟨B, 0, none⟩ = false ∧ wy.frozen? ⟨B, 1, none⟩ = false ∧ Blk wy B #[.string s, .string t, q] T ∧ Below B w wy := by
  obtain ⟨_, _, _, _, h5, h6⟩ := h
  have h5' := h5.below hb h5.lt
  exact ⟨h5'.cell 0 rfl, h5'.cell 1 rfl, h5'.free 0, h5'.free 1, h5', h6.trans (hb.mono (Nat.le_of_lt h5.lt))⟩
theorem regS_st0 {w wx : World} {B : Nat} {s t : ByteArray} {q : Value} {T : TypeId} (h : wx.cell? ⟨B, 0, none⟩ = some (.string s) ∧ wx.cell? ⟨B, 1, none⟩ = some (.string t) ∧ wx.frozen? ⟨B, 0, none⟩ = false ∧ wx.frozen? ⟨B, 1, none⟩ = false ∧ Blk wx B #[.string s, .string t, q] T ∧ Below B w wx) :
    (wx.setCell ⟨B, 0, none⟩ (.string s)).cell? ⟨B, 0, none⟩ = some (.string s) ∧ (wx.setCell ⟨B, 0, none⟩ (.string s)).cell? ⟨B, 1, none⟩ = some (.string t) ∧ (wx.setCell ⟨B, 0, none⟩ (.string s)).frozen? ⟨B, 0, none⟩ = false ∧ (wx.setCell ⟨B, 0, none⟩ (.string s)).frozen? ⟨B, 1, none⟩ = false ∧ Blk (wx.setCell ⟨B, 0, none⟩ (.string s)) B #[.string s, .string t, q] T ∧ Below B w (wx.setCell ⟨B, 0, none⟩ (.string s)) := by
  obtain ⟨_, _, _, _, h5, h6⟩ := h
  have h5' := h5.set 0 (.string s)
  exact ⟨h5'.cell 0 rfl, h5'.cell 1 rfl, h5'.free 0, h5'.free 1, h5', h6.setCell (Nat.le_refl _) _⟩
theorem regS_st1 {w wx : World} {B : Nat} {s t : ByteArray} {q : Value} {T : TypeId} (h : wx.cell? ⟨B, 0, none⟩ = some (.string s) ∧ wx.cell? ⟨B, 1, none⟩ = some (.string t) ∧ wx.frozen? ⟨B, 0, none⟩ = false ∧ wx.frozen? ⟨B, 1, none⟩ = false ∧ Blk wx B #[.string s, .string t, q] T ∧ Below B w wx) :
    (wx.setCell ⟨B, 1, none⟩ (.string t)).cell? ⟨B, 0, none⟩ = some (.string s) ∧ (wx.setCell ⟨B, 1, none⟩ (.string t)).cell? ⟨B, 1, none⟩ = some (.string t) ∧ (wx.setCell ⟨B, 1, none⟩ (.string t)).frozen? ⟨B, 0, none⟩ = false ∧ (wx.setCell ⟨B, 1, none⟩ (.string t)).frozen? ⟨B, 1, none⟩ = false ∧ Blk (wx.setCell ⟨B, 1, none⟩ (.string t)) B #[.string s, .string t, q] T ∧ Below B w (wx.setCell ⟨B, 1, none⟩ (.string t)) := by
  obtain ⟨_, _, _, _, h5, h6⟩ := h
  have h5' := h5.set 1 (.string t)
  exact ⟨h5'.cell 0 rfl, h5'.cell 1 rfl, h5'.free 0, h5'.free 1, h5', h6.setCell (Nat.le_refl _) _⟩

/-- What a deed leaves: the disk d' where d was; what it may have written; what it has. -/
def Mid (w : World) (L : Lay) (d : Dsk) (w' : World) (d' : Dsk) : Prop :=
  ∃ L' : Lay, L'.p = L.p ∧ L'.fb = L.fb ∧ L'.fv = L.fv ∧ L'.cr = L.cr ∧ At w' L' d' ∧ Kept (fun k => ∃ t, L.own d.files.length t = some k) w w' ∧ ∀ t b, L'.own d'.files.length t = some b → L.own d.files.length t = some b ∨ w.heap.size ≤ b
theorem Apt.upd {f g : Tg → Option Nat} (h : Apt f) (τ : Tg) (N : Nat) (hN : ∀ t b, f t = some b → b < N) (hτ : ∀ b, g τ = some b → f τ = some b ∨ N ≤ b) (ho : ∀ t, t ≠ τ → g t = f t) : Apt g := by
  intro t u b ht hu
  by_cases e1 : t = τ
  · by_cases e2 : u = τ
    · rw [e1, e2]
    · rw [ho u e2] at hu
      rw [e1] at ht
      rcases hτ b ht with h1 | h1
      · rw [e1]; exact h τ u b h1 hu
      · have := hN u b hu; omega
  · rw [ho t e1] at ht
    by_cases e2 : u = τ
    · rw [e2] at hu
      rcases hτ b hu with h1 | h1
      · rw [e2]; exact h t τ b ht h1
      · have := hN t b ht; omega
    · rw [ho u e2] at hu
      exact h t u b ht hu

/-- The table of now is another one. -/
theorem Rest.setNow {w w' : World} {L : Lay} {d : Dsk} (h : Rest w L d) {v : Value} {l : Tbl} (ho : w'.ownsRow 0 164 2 v l.length (row (ent L.fb) l)) (hk : Kept (fun k => L.now.ownBlock = some k) w w') (hv : ∀ k, v.ownBlock = some k → L.now.ownBlock = some k ∨ w.heap.size ≤ k) :
    Rest w' { L with now := v } { d with now := l } where
  now := ho
  las := ownsRow_kept h.las hk (fun k e e2 => by cases h.apt .las .now k e e2)
  dee := ownsRow_kept h.dee hk (fun k e e2 => by cases h.apt .dee .now k e e2)
  box k hl := (h.box k hl).kept hk (fun e2 => by cases h.apt (.box k) .now _ (own_box hl) e2)
  byt k hl := ownsRow_kept (h.byt k hl) hk (fun j e e2 => by cases h.apt (.byt k) .now j ((own_byt hl).trans e) e2)
  apt := h.apt.upd .now w.heap.size h.lt hv (fun t ht => by cases t <;> first | rfl | exact absurd rfl ht)
  plt := Nat.lt_of_lt_of_le h.plt hk.size
theorem Rest.setDee {w w' : World} {L : Lay} {d : Dsk} (h : Rest w L d) {v : Value} {l : List Dd} (ho : w'.ownsRow 0 174 3 v l.length (row (ddc L.fb) l)) (hk : Kept (fun k => L.dee.ownBlock = some k) w w') (hv : ∀ k, v.ownBlock = some k → L.dee.ownBlock = some k ∨ w.heap.size ≤ k) :
    Rest w' { L with dee := v } { d with deeds := l } where
  now := ownsRow_kept h.now hk (fun k e e2 => by cases h.apt .now .dee k e e2)
  las := ownsRow_kept h.las hk (fun k e e2 => by cases h.apt .las .dee k e e2)
  dee := ho
  box k hl := (h.box k hl).kept hk (fun e2 => by cases h.apt (.box k) .dee _ (own_box hl) e2)
  byt k hl := ownsRow_kept (h.byt k hl) hk (fun j e e2 => by cases h.apt (.byt k) .dee j ((own_byt hl).trans e) e2)
  apt := h.apt.upd .dee w.heap.size h.lt hv (fun t ht => by cases t <;> first | rfl | exact absurd rfl ht)
  plt := Nat.lt_of_lt_of_le h.plt hk.size
/-- A field of the disk's box is stored. -/
theorem Rest.setDsk {w : World} {L : Lay} {d : Dsk} (h : Rest w L d) (j : Nat) (u : Value) : Rest (w.setCell ⟨L.p, j, none⟩ u) L d := by
  have hk : Kept (fun k => some L.p = some k) w (w.setCell ⟨L.p, j, none⟩ u) := (Kept.refl (fun k => some L.p = some k) w).setCell (p := ⟨L.p, j, none⟩) (.inl rfl) _
  exact ⟨ownsRow_kept h.now hk (fun k e e2 => by cases h.apt .now .dsk k e e2), ownsRow_kept h.las hk (fun k e e2 => by cases h.apt .las .dsk k e e2), ownsRow_kept h.dee hk (fun k e e2 => by cases h.apt .dee .dsk k e e2),
    fun k hl => (h.box k hl).kept hk (fun e2 => by cases h.apt (.box k) .dsk _ (own_box hl) e2), fun k hl => ownsRow_kept (h.byt k hl) hk (fun j e e2 => by cases h.apt (.byt k) .dsk j ((own_byt hl).trans e) e2), h.apt, Nat.lt_of_lt_of_le h.plt hk.size⟩

theorem mid_dee {w w3 w4 : World} {L : Lay} {d : Dsk} {v2 v4 : Value} {t1 : Tbl} {x : Dd} {q : Option Addr} {T : TypeId} (hq : q = dptr L.fb x) (hA : At w3 { L with now := v2 } { d with now := t1 }) (hK : Kept (fun k => ∃ t, L.own d.files.length t = some k) w w3) (hV : ∀ k, v2.ownBlock = some k → L.now.ownBlock = some k ∨ w.heap.size ≤ k)
    (hP : Blk w4 L.p #[.int .i64 (d.cap : Int), .int .i64 (L.cr : Int), v2, L.las, L.dee, .bool d.armed.isSome, .int .i64 (lft L d)] 94)
    (hO : w4.ownsRow 0 174 3 v4 (d.deeds.length + 1) (row (ddc L.fb) d.deeds ++ #[Value.string x.src, .string x.dst, .pointer q].toList))
    (hG : (w3.drew.alloc (.cells #[.string x.src, .string x.dst, .pointer q] T)).grownBy w4 L.dee.ownBlock) (hT : v4.ownBlock = L.dee.ownBlock ∨ v4.ownBlock = some (w3.drew.alloc (.cells #[.string x.src, .string x.dst, .pointer q] T)).heap.size) :
    Mid w L d (w4.setCell ⟨L.p, 4, none⟩ v4) { d with now := t1, deeds := d.deeds ++ [x] } := by
  have hk : Kept (fun k => L.dee.ownBlock = some k) w3 w4 := (((Kept.refl (fun k => L.dee.ownBlock = some k) w3).drew).alloc _).grown hG (fun k hk => .inl hk)
  have hv : ∀ k, v4.ownBlock = some k → L.dee.ownBlock = some k ∨ w3.heap.size ≤ k := fun k e => by
    rcases hT with h | h
    · exact .inl (h ▸ e)
    · rw [h] at e
      have e' : (w3.drew.alloc (.cells #[.string x.src, .string x.dst, .pointer q] T)).heap.size = k := by simpa using e
      have e2 : (w3.drew.alloc (.cells #[.string x.src, .string x.dst, .pointer q] T)).heap.size = w3.heap.size + 1 := by simp
      exact .inr (by omega)
  have ho : w4.ownsRow 0 174 3 v4 (d.deeds ++ [x]).length (row (ddc L.fb) (d.deeds ++ [x])) := by
    rw [row_append, row_one, List.length_append]
    subst hq
    exact hO
  have hR := hA.rest.setDee (w' := w4) ho hk hv
  refine ⟨{ L with now := v2, dee := v4 }, rfl, rfl, rfl, rfl, ⟨hP.set 4 v4, hR.setDsk 4 v4⟩, ?_, fun t b hb => ?_⟩
  · exact (hK.trans hk (fun j hj _ => ⟨.dee, hj⟩)).setCell (p := ⟨L.p, 4, none⟩) (.inl ⟨.dsk, rfl⟩) _
  · cases t with
    | now => exact hV b hb
    | dee => exact (hv b hb).imp id (fun h => Nat.le_trans hK.size h)
    | dsk => exact .inl hb
    | las => exact .inl hb
    | box k => exact .inl hb
    | byt k => exact .inl hb

set_option maxRecDepth 100000 in
set_option maxHeartbeats 4000000 in
theorem name_any (w : World) (L : Lay) (d : Dsk) (s t : ByteArray) (f : Nat) (q : Option Addr) (h : At w L d) (hss : s.size ≤ 281474976710656) (hts : t.size ≤ 281474976710656) (hq : q = dptr L.fb ⟨s, t, f⟩) (hd : isDown d.armed = false) (ha : ∀ n, d.armed = some n → n < 9223372036854775808)
    (hs : Sorted d.now) (hl : d.now.length ≤ 1048575) (hdl : d.deeds.length ≤ 1048575) :
    Calls Tryz.prog 81 #[.pointer (some ⟨L.p, 0, none⟩), .agg #[.string s, .string t, .pointer q]] w fun e w' => e = .returned (.tuple #[]) ∧ Mid w L d w' (d.nameD ⟨s, t, f⟩) := by
  have S0 : (w.alloc (.cells #[.string s, .string t, .pointer q] 174)).drew.cell? ⟨w.heap.size, 0, none⟩ = some (.string s) ∧ (w.alloc (.cells #[.string s, .string t, .pointer q] 174)).drew.cell? ⟨w.heap.size, 1, none⟩ = some (.string t) ∧ (w.alloc (.cells #[.string s, .string t, .pointer q] 174)).drew.frozen? ⟨w.heap.size, 0, none⟩ = false ∧ (w.alloc (.cells #[.string s, .string t, .pointer q] 174)).drew.frozen? ⟨w.heap.size, 1, none⟩ = false ∧ Blk (w.alloc (.cells #[.string s, .string t, .pointer q] 174)).drew w.heap.size #[.string s, .string t, .pointer q] 174 ∧ Below w.heap.size w (w.alloc (.cells #[.string s, .string t, .pointer q] 174)).drew := by
    have h5 := (Blk.new w #[.string s, .string t, .pointer q] 174).drew
    exact ⟨h5.cell 0 rfl, h5.cell 1 rfl, h5.free 0, h5.free 1, h5, ((Below.refl _ w).alloc (Nat.le_refl _) _).drew⟩
  obtain ⟨i0, hinf, hz0, hz1, hz2⟩ := info_parts Tryz.infoDeed
  have H := Lib.hid h
  have HQ := Lib.hid hq
  have HD := Lib.hid hd
  have HI := Lib.hid hinf
  have HZ0 := Lib.hid hz0
  have HZ1 := Lib.hid hz1
  have HZ2 := Lib.hid hz2
  clear h hq hd hinf hz0 hz1 hz2
  go_enter Tryz.func81, Tryz.ntmps81
  go_upto_region 1 with fail
  go_cut [4] from 4 to 11 (fun _ wx => Hid (Blk wx w.heap.size #[.string s, .string t, .pointer q] 174 ∧ Below w.heap.size w wx))
  case first =>
    go_region_held3 (fun wx => wx.cell? ⟨w.heap.size, 0, none⟩ = some (.string s) ∧ wx.cell? ⟨w.heap.size, 1, none⟩ = some (.string t) ∧ wx.frozen? ⟨w.heap.size, 0, none⟩ = false ∧ wx.frozen? ⟨w.heap.size, 1, none⟩ = false ∧ Blk wx w.heap.size #[.string s, .string t, .pointer q] 174 ∧ Below w.heap.size w wx) (first | exact S0 | (refine regS_call (by assumption) (by assumption)) | exact regS_st0 (by assumption) | exact regS_st1 (by assumption)) (first | (go_at_call 109; refine (sclone_any s _ hss).mono ?_; rintro e wa ⟨rfl, hba⟩) | (go_at_call 109; refine (sclone_any t _ hts).mono ?_; rintro e wb ⟨rfl, hbb⟩))
    go_wp2_with fail
    go_meet
    exact Lib.hid (regS_st1 (regS_st0 (regS_call (regS_call S0 hba) hbb))).2.2.2.2
  case rest =>
    clear S0
    obtain ⟨w1, hw1⟩ : ∃ w1, w1 = wc := ⟨_, rfl⟩
    subst hw1
    have HX1 := Lib.hid hcut.out.1
    have HB1 := Lib.hid hcut.out.2
    have HA1 := Lib.hid (H.out.below hcut.out.2 (Nat.le_refl _))
    have hsz : w.heap.size < w1.heap.size := hcut.out.1.lt
    have hpw : L.p < w.heap.size := H.out.rest.plt
    clear hcut
    obtain ⟨c0, c1, c2⟩ := BoxD.facts HX1.out
    obtain ⟨_, _, k2, _, _, _, _⟩ := box_facts HA1.out.blk
    have f2 := HA1.out.blk.free 2
    have HKA := Lib.hid (Kept.of_below (S := fun k => ∃ t, L.own d.files.length t = some k) HB1.out (Nat.le_refl _))
    have HBH := Lib.hid (behind_any L.fb L.now d.now ⟨s, t, f⟩ q w1.drew HA1.out.rest.now hs hl (fun hne => by rw [HQ.out]; unfold dptr; rw [if_neg hne]))
    go_upto_region 2 with fail
    go_cut [18] from 12 to 20 (fun _ wx => Hid (Blk wx w.heap.size #[.string s, .string t, .pointer q] 174 ∧ ∃ v2, At wx { L with now := v2 } { d with now := turnT d.now ⟨s, t, f⟩ } ∧ Kept (fun k => ∃ t, L.own d.files.length t = some k) w wx ∧ ∀ k, v2.ownBlock = some k → L.now.ownBlock = some k ∨ w.heap.size ≤ k))
    case first =>
      refine wp_region_held_drew (S := (fun wx => wx.cell? ⟨w.heap.size, 0, none⟩ = some (.string s) ∧ wx.cell? ⟨w.heap.size, 1, none⟩ = some (.string t) ∧ wx.cell? ⟨w.heap.size, 2, none⟩ = some (.pointer q))) (by kernel_rfl) (⟨c0, c1, c2⟩) (fun hHeld => ?_)
      refine wpAnyH_take (i := 0) (v := ?_) rfl (by kernel_rfl) (by kernel_rfl) (by kernel_rfl) (fun _ _ _ h => h) (Or.inl ⟨by rfl, ?_⟩) (by assumption) ?_
      rotate_left 1
      · intro w hSw
        (try dsimp only at hSw)
        go_simp
        all_goals (with_reducible rfl)
      try simp only [Act.put, List.getElem_toArray, List.getElem_cons_zero, List.getElem_cons_succ, List.setIfInBounds_toArray, List.set_cons_zero, List.set_cons_succ]
      refine wpAnyH_take (i := 1) (v := ?_) rfl (by kernel_rfl) (by kernel_rfl) (by kernel_rfl) (fun _ _ _ h => h) (Or.inl ⟨by rfl, ?_⟩) (by assumption) ?_
      rotate_left 1
      · intro w hSw
        (try dsimp only at hSw)
        go_simp
        all_goals (with_reducible rfl)
      try simp only [Act.put, List.getElem_toArray, List.getElem_cons_zero, List.getElem_cons_succ, List.setIfInBounds_toArray, List.set_cons_zero, List.set_cons_succ]
      refine wpAnyH_take (i := 2) (v := ?_) rfl (by kernel_rfl) (by kernel_rfl) (by kernel_rfl) (fun _ _ _ h => h) (Or.inl ⟨by rfl, ?_⟩) (by assumption) ?_
      rotate_left 1
      · intro w hSw
        (try dsimp only at hSw)
        go_simp
        all_goals (with_reducible rfl)
      try simp only [Act.put, List.getElem_toArray, List.getElem_cons_zero, List.getElem_cons_succ, List.setIfInBounds_toArray, List.set_cons_zero, List.set_cons_succ]
      refine wpAnyH_take (i := 3) (v := ?_) rfl (by kernel_rfl) (by kernel_rfl) (by kernel_rfl) (fun _ _ _ h => h) (Or.inl ⟨by rfl, ?_⟩) (by assumption) ?_
      rotate_left 1
      · intro w hSw
        (try dsimp only at hSw)
        go_simp
        all_goals (with_reducible rfl)
      try simp only [Act.put, List.getElem_toArray, List.getElem_cons_zero, List.getElem_cons_succ, List.setIfInBounds_toArray, List.set_cons_zero, List.set_cons_succ]
      refine wpAnyH_take (i := 5) (v := ?_) rfl (by kernel_rfl) (by kernel_rfl) (by kernel_rfl) (fun _ _ _ h => h) (Or.inl ⟨by rfl, ?_⟩) (by assumption) ?_
      rotate_left 1
      · intro w hSw
        (try dsimp only at hSw)
        go_simp
        all_goals (with_reducible rfl)
      try simp only [Act.put, List.getElem_toArray, List.getElem_cons_zero, List.getElem_cons_succ, List.setIfInBounds_toArray, List.set_cons_zero, List.set_cons_succ]
      refine wpAnyH_ready (rs := [4]) (by kernel_rfl) (by simp) ?_
      refine AllReadyH.cons rfl (fun K hK => ?_) AllReadyH.nil
      go_simp
      refine hK.out _ _ (⟨c0, c1, c2⟩) (fun hHeld => ?_)
      clear hK K
      try simp only [Act.put, List.getElem_toArray, List.getElem_cons_zero, List.getElem_cons_succ, List.setIfInBounds_toArray, List.set_cons_zero, List.set_cons_succ]
      refine wpAnyH_ready (rs := [6]) (by kernel_rfl) (by simp) ?_
      refine AllReadyH.cons rfl (fun K hK => ?_) AllReadyH.nil
      go_simp
      go_at_call 110
      refine HBH.out.mono ?_
      rintro e w2 ⟨v2, rfl, hown2, hk2, hv2⟩
      have hk2 := Kept.undrew hk2
      obtain ⟨x2, z2, rfl, hz2a, hz2b⟩ := ownsRow_slice hown2
      have HP2 := Lib.hid (HA1.out.blk.kept (w' := w2) (S := fun k => L.now.ownBlock = some k) hk2 (fun e => by cases HA1.out.rest.apt .dsk .now L.p rfl e))
      have HX2 := Lib.hid (HX1.out.kept (w' := w2) (S := fun k => L.now.ownBlock = some k) hk2 (fun e => by have := HA1.out.rest.lt .now _ e; have := (H.out.rest.lt .now _ e); omega))
      have g2 := HP2.out.free 2
      have m2 := HP2.out.cell 2 rfl
      have HN2 := Lib.hid (HA1.out.rest.setNow hown2 (w := w1) (w' := w2) hk2 hv2)
      have HK2 := Lib.hid (HKA.out.trans (show Kept (fun k => L.now.ownBlock = some k) w1 w2 from hk2) (fun j hj _ => ⟨.now, hj⟩))
      have HV2 := Lib.hid (show ∀ k, (Value.slice x2 (turnT d.now ⟨s, t, f⟩).length z2).ownBlock = some k → L.now.ownBlock = some k ∨ w1.heap.size ≤ k from hv2)
      clear hown2 hk2 hv2 k2
      go_wp2_with fail
      refine hK.out _ _ (BoxD.facts HX2.out) (fun hHeld => ?_)
      clear hK K
      try simp only [Act.put, List.getElem_toArray, List.getElem_cons_zero, List.getElem_cons_succ, List.setIfInBounds_toArray, List.set_cons_zero, List.set_cons_succ]
      refine wpAnyH_take (i := 7) (v := ?_) rfl (by kernel_rfl) (by kernel_rfl) (by kernel_rfl) (fun _ _ _ h => h) (Or.inl ⟨by rfl, ?_⟩) (by assumption) ?_
      rotate_left 1
      · intro w hSw
        (try dsimp only at hSw)
        go_simp
        all_goals (with_reducible rfl)
      try simp only [Act.put, List.getElem_toArray, List.getElem_cons_zero, List.getElem_cons_succ, List.setIfInBounds_toArray, List.set_cons_zero, List.set_cons_succ]
      refine wpAnyH_take (i := 8) (v := ?_) rfl (by kernel_rfl) (by kernel_rfl) (by kernel_rfl) (fun _ _ _ h => h) (Or.inl ⟨by rfl, ?_⟩) (by assumption) ?_
      rotate_left 1
      · intro w hSw
        (try dsimp only at hSw)
        go_simp
        all_goals (with_reducible rfl)
      try simp only [Act.put, List.getElem_toArray, List.getElem_cons_zero, List.getElem_cons_succ, List.setIfInBounds_toArray, List.set_cons_zero, List.set_cons_succ]
      refine wpAnyH_ready (rs := [9]) (by kernel_rfl) (by simp) ?_
      refine AllReadyH.cons rfl (fun K hK => ?_) AllReadyH.nil
      go_simp
      refine hK.out _ _ (BoxD.facts (HX2.out.other (a := ⟨L.p, 2, none⟩) (by show L.p ≠ _; omega) (.slice x2 (turnT d.now ⟨s, t, f⟩).length z2))) (fun hHeld => ?_)
      clear hK K
      try simp only [Act.put, List.getElem_toArray, List.getElem_cons_zero, List.getElem_cons_succ, List.setIfInBounds_toArray, List.set_cons_zero, List.set_cons_succ]
      refine wpAnyH_done (by kernel_rfl) ?_ _
      go_wp2_with fail
      go_meet
      have hA : At (w2.setCell ⟨L.p, 2, none⟩ (Value.slice x2 (turnT d.now ⟨s, t, f⟩).length z2)) { L with now := (Value.slice x2 (turnT d.now ⟨s, t, f⟩).length z2) } { d with now := turnT d.now ⟨s, t, f⟩ } := ⟨HP2.out.set 2 (Value.slice x2 (turnT d.now ⟨s, t, f⟩).length z2), HN2.out.setDsk 2 (Value.slice x2 (turnT d.now ⟨s, t, f⟩).length z2)⟩
      exact Lib.hid ⟨HX2.out.other (a := ⟨L.p, 2, none⟩) (by show L.p ≠ _; omega) _, _, hA, HK2.out.setCell (p := ⟨L.p, 2, none⟩) (.inl ⟨.dsk, rfl⟩) _, fun k hk => (HV2.out k hk).imp id (fun h => by omega)⟩
    case rest =>
      clear HA1 HX1 HBH HKA HB1 c0 c1 c2 k2 f2 hsz
      obtain ⟨w3, hw3⟩ : ∃ w3, w3 = wc := ⟨_, rfl⟩
      subst hw3
      have HX3 := Lib.hid hcut.out.1
      obtain ⟨v2, hA2, hK2, hV2⟩ := hcut.out.2
      have HA2 := Lib.hid hA2
      have HKB := Lib.hid hK2
      have HVB := Lib.hid hV2
      have hsz : w.heap.size < w3.heap.size := hcut.out.1.lt
      have hp23 : L.p < w3.heap.size := by omega
      have HP3 := Lib.hid (show Blk w3 L.p #[.int .i64 (d.cap : Int), .int .i64 (L.cr : Int), v2, L.las, L.dee, .bool d.armed.isSome, .int .i64 (lft L d)] 94 from hA2.blk)
      clear hcut hA2 hK2 hV2
      have HXN := Lib.hid (show ¬ L.dee.ownBlock = some w.heap.size from fun e => by
        have := H.out.rest.lt .dee _ e
        omega)
      have HXA := Lib.hid (show Blk (w3.drew.alloc (.cells #[.string s, .string t, .pointer q] 174)) w.heap.size #[.string s, .string t, .pointer q] 174 from Blk.alloc (w := w3.drew) HX3.out _)
      have HPA := Lib.hid (show Blk (w3.drew.alloc (.cells #[.string s, .string t, .pointer q] 174)) L.p _ _ from Blk.alloc (w := w3.drew) HP3.out _)
      have HDE := Lib.hid (show (w3.drew.alloc (.cells #[.string s, .string t, .pointer q] 174)).ownsRow 0 174 3 L.dee d.deeds.length (row (ddc L.fb) d.deeds) from World.ownsRow.alloc (w := w3.drew) (show w3.drew.ownsRow _ _ _ _ _ _ from HA2.out.rest.dee) _)
      have HSX := Lib.hid (IsX.lit w3.drew #[.string s, .string t, .pointer q] 174 3 1 rfl (by decide))
      obtain ⟨c0, c1, c2⟩ := BoxD.facts HX3.out
      have k4 := HP3.out.cell 4 rfl
      go_upto_region 3 with fail
      go_cut [28] from 21 to 30 (fun _ wx => Hid (Mid w L d wx { d with now := turnT d.now ⟨s, t, f⟩, deeds := d.deeds ++ [⟨s, t, f⟩] }))
      case first =>
        refine wp_region_held_drew (S := (fun wx => wx.cell? ⟨w.heap.size, 0, none⟩ = some (.string s) ∧ wx.cell? ⟨w.heap.size, 1, none⟩ = some (.string t) ∧ wx.cell? ⟨w.heap.size, 2, none⟩ = some (.pointer q))) (by kernel_rfl) (⟨c0, c1, c2⟩) (fun hHeld => ?_)
        refine wpAnyH_take (i := 0) (v := ?_) rfl (by kernel_rfl) (by kernel_rfl) (by kernel_rfl) (fun _ _ _ h => h) (Or.inl ⟨by rfl, ?_⟩) (by assumption) ?_
        rotate_left 1
        · intro w hSw
          (try dsimp only at hSw)
          go_simp
          all_goals (with_reducible rfl)
        try simp only [Act.put, List.getElem_toArray, List.getElem_cons_zero, List.getElem_cons_succ, List.setIfInBounds_toArray, List.set_cons_zero, List.set_cons_succ]
        refine wpAnyH_take (i := 1) (v := ?_) rfl (by kernel_rfl) (by kernel_rfl) (by kernel_rfl) (fun _ _ _ h => h) (Or.inl ⟨by rfl, ?_⟩) (by assumption) ?_
        rotate_left 1
        · intro w hSw
          (try dsimp only at hSw)
          go_simp
          all_goals (with_reducible rfl)
        try simp only [Act.put, List.getElem_toArray, List.getElem_cons_zero, List.getElem_cons_succ, List.setIfInBounds_toArray, List.set_cons_zero, List.set_cons_succ]
        refine wpAnyH_take (i := 2) (v := ?_) rfl (by kernel_rfl) (by kernel_rfl) (by kernel_rfl) (fun _ _ _ h => h) (Or.inl ⟨by rfl, ?_⟩) (by assumption) ?_
        rotate_left 1
        · intro w hSw
          (try dsimp only at hSw)
          go_simp
          all_goals (with_reducible rfl)
        try simp only [Act.put, List.getElem_toArray, List.getElem_cons_zero, List.getElem_cons_succ, List.setIfInBounds_toArray, List.set_cons_zero, List.set_cons_succ]
        refine wpAnyH_take (i := 3) (v := ?_) rfl (by kernel_rfl) (by kernel_rfl) (by kernel_rfl) (fun _ _ _ h => h) (Or.inl ⟨by rfl, ?_⟩) (by assumption) ?_
        rotate_left 1
        · intro w hSw
          (try dsimp only at hSw)
          go_simp
          all_goals (with_reducible rfl)
        try simp only [Act.put, List.getElem_toArray, List.getElem_cons_zero, List.getElem_cons_succ, List.setIfInBounds_toArray, List.set_cons_zero, List.set_cons_succ]
        refine wpAnyH_take (i := 5) (v := ?_) rfl (by kernel_rfl) (by kernel_rfl) (by kernel_rfl) (fun _ _ _ h => h) (Or.inl ⟨by rfl, ?_⟩) (by assumption) ?_
        rotate_left 1
        · intro w hSw
          (try dsimp only at hSw)
          go_simp
          all_goals (with_reducible rfl)
        try simp only [Act.put, List.getElem_toArray, List.getElem_cons_zero, List.getElem_cons_succ, List.setIfInBounds_toArray, List.set_cons_zero, List.set_cons_succ]
        refine wpAnyH_ready (rs := [4, 6]) (by kernel_rfl) (by simp) ?_
        refine AllReadyH.cons rfl (fun K hK => ?_) ?_
        · go_simp
          refine hK.out _ _ ((by first | exact ⟨c0, c1, c2⟩ | exact BoxD.facts HXA.out)) (fun hHeld => ?_)
          clear hK K
          try simp only [Act.put, List.getElem_toArray, List.getElem_cons_zero, List.getElem_cons_succ, List.setIfInBounds_toArray, List.set_cons_zero, List.set_cons_succ]
          refine wpAnyH_ready (rs := [6]) (by kernel_rfl) (by simp) ?_
          refine AllReadyH.cons rfl (fun K hK => ?_) AllReadyH.nil
          go_simp
          refine hK.out _ _ ((by first | exact ⟨c0, c1, c2⟩ | exact BoxD.facts HXA.out)) (fun hHeld => ?_)
          clear hK K
          try simp only [Act.put, List.getElem_toArray, List.getElem_cons_zero, List.getElem_cons_succ, List.setIfInBounds_toArray, List.set_cons_zero, List.set_cons_succ]
          refine wpAnyH_ready (rs := [7]) (by kernel_rfl) (by simp) ?_
          refine AllReadyH.cons rfl (fun K hK => ?_) AllReadyH.nil
          refine step_append_X (by rfl) _ _ 92 rfl 0 174 i0 _ 3 40 Tryz.underlying92 HI.out HZ0.out HZ1.out HZ2.out rfl (by decide) _ _ _ rfl HDE.out _ 1 _ rfl HSX.out (by intro u hu; simp only [List.mem_cons, List.not_mem_nil, or_false] at hu; rcases hu with rfl | rfl | rfl <;> rfl) (by unfold maxLen; omega) (by omega) (Nat.zero_le _) ?_
          intro v4 w4 hown4 hgr4 hat4
          obtain ⟨x4, z4, rfl, hz4a, hz4b⟩ := ownsRow_slice hown4
          have HP4 := Lib.hid (HPA.out.grown (w' := w4) hgr4 (fun e => by cases HA2.out.rest.apt .dsk .dee L.p rfl e))
          have HX4 := Lib.hid (HXA.out.grown (w' := w4) hgr4 (fun e => by exact HXN.out e))
          have g4 := HP4.out.free 4
          have m4 := HP4.out.cell 4 rfl
          have HG4 := Lib.hid hgr4
          have HO4 := Lib.hid hown4
          have HT4 := Lib.hid hat4
          clear hown4 hgr4 hat4 k4
          
          refine hK.out _ _ (BoxD.facts HX4.out) (fun hHeld => ?_)
          clear hK K
          try simp only [Act.put, List.getElem_toArray, List.getElem_cons_zero, List.getElem_cons_succ, List.setIfInBounds_toArray, List.set_cons_zero, List.set_cons_succ]
          refine wpAnyH_take (i := 8) (v := ?_) rfl (by kernel_rfl) (by kernel_rfl) (by kernel_rfl) (fun _ _ _ h => h) (Or.inl ⟨by rfl, ?_⟩) (by assumption) ?_
          rotate_left 1
          · intro w hSw
            (try dsimp only at hSw)
            go_simp
            all_goals (with_reducible rfl)
          try simp only [Act.put, List.getElem_toArray, List.getElem_cons_zero, List.getElem_cons_succ, List.setIfInBounds_toArray, List.set_cons_zero, List.set_cons_succ]
          refine wpAnyH_take (i := 9) (v := ?_) rfl (by kernel_rfl) (by kernel_rfl) (by kernel_rfl) (fun _ _ _ h => h) (Or.inl ⟨by rfl, ?_⟩) (by assumption) ?_
          rotate_left 1
          · intro w hSw
            (try dsimp only at hSw)
            go_simp
            all_goals (with_reducible rfl)
          try simp only [Act.put, List.getElem_toArray, List.getElem_cons_zero, List.getElem_cons_succ, List.setIfInBounds_toArray, List.set_cons_zero, List.set_cons_succ]
          refine wpAnyH_ready (rs := [10]) (by kernel_rfl) (by simp) ?_
          refine AllReadyH.cons rfl (fun K hK => ?_) AllReadyH.nil
          go_simp
          refine hK.out _ _ (BoxD.facts (HX4.out.other (a := ⟨L.p, 4, none⟩) (by show L.p ≠ _; omega) (.slice x4 (d.deeds.length + 1) z4))) (fun hHeld => ?_)
          clear hK K
          try simp only [Act.put, List.getElem_toArray, List.getElem_cons_zero, List.getElem_cons_succ, List.setIfInBounds_toArray, List.set_cons_zero, List.set_cons_succ]
          refine wpAnyH_done (by kernel_rfl) ?_ _
          go_wp2_with fail
          go_meet
          exact Lib.hid (mid_dee HQ.out HA2.out HKB.out HVB.out HP4.out HO4.out HG4.out HT4.out)
        refine AllReadyH.cons rfl (fun K hK => ?_) AllReadyH.nil
        go_simp
        refine hK.out _ _ ((by first | exact ⟨c0, c1, c2⟩ | exact BoxD.facts HXA.out)) (fun hHeld => ?_)
        clear hK K
        try simp only [Act.put, List.getElem_toArray, List.getElem_cons_zero, List.getElem_cons_succ, List.setIfInBounds_toArray, List.set_cons_zero, List.set_cons_succ]
        refine wpAnyH_ready (rs := [4]) (by kernel_rfl) (by simp) ?_
        refine AllReadyH.cons rfl (fun K hK => ?_) AllReadyH.nil
        go_simp
        refine hK.out _ _ ((by first | exact ⟨c0, c1, c2⟩ | exact BoxD.facts HXA.out)) (fun hHeld => ?_)
        clear hK K
        try simp only [Act.put, List.getElem_toArray, List.getElem_cons_zero, List.getElem_cons_succ, List.setIfInBounds_toArray, List.set_cons_zero, List.set_cons_succ]
        refine wpAnyH_ready (rs := [7]) (by kernel_rfl) (by simp) ?_
        refine AllReadyH.cons rfl (fun K hK => ?_) AllReadyH.nil
        refine step_append_X (by rfl) _ _ 92 rfl 0 174 i0 _ 3 40 Tryz.underlying92 HI.out HZ0.out HZ1.out HZ2.out rfl (by decide) _ _ _ rfl HDE.out _ 1 _ rfl HSX.out (by intro u hu; simp only [List.mem_cons, List.not_mem_nil, or_false] at hu; rcases hu with rfl | rfl | rfl <;> rfl) (by unfold maxLen; omega) (by omega) (Nat.zero_le _) ?_
        intro v4 w4 hown4 hgr4 hat4
        obtain ⟨x4, z4, rfl, hz4a, hz4b⟩ := ownsRow_slice hown4
        have HP4 := Lib.hid (HPA.out.grown (w' := w4) hgr4 (fun e => by cases HA2.out.rest.apt .dsk .dee L.p rfl e))
        have HX4 := Lib.hid (HXA.out.grown (w' := w4) hgr4 (fun e => by exact HXN.out e))
        have g4 := HP4.out.free 4
        have m4 := HP4.out.cell 4 rfl
        have HG4 := Lib.hid hgr4
        have HO4 := Lib.hid hown4
        have HT4 := Lib.hid hat4
        clear hown4 hgr4 hat4 k4
        
        refine hK.out _ _ (BoxD.facts HX4.out) (fun hHeld => ?_)
        clear hK K
        try simp only [Act.put, List.getElem_toArray, List.getElem_cons_zero, List.getElem_cons_succ, List.setIfInBounds_toArray, List.set_cons_zero, List.set_cons_succ]
        refine wpAnyH_take (i := 8) (v := ?_) rfl (by kernel_rfl) (by kernel_rfl) (by kernel_rfl) (fun _ _ _ h => h) (Or.inl ⟨by rfl, ?_⟩) (by assumption) ?_
        rotate_left 1
        · intro w hSw
          (try dsimp only at hSw)
          go_simp
          all_goals (with_reducible rfl)
        try simp only [Act.put, List.getElem_toArray, List.getElem_cons_zero, List.getElem_cons_succ, List.setIfInBounds_toArray, List.set_cons_zero, List.set_cons_succ]
        refine wpAnyH_take (i := 9) (v := ?_) rfl (by kernel_rfl) (by kernel_rfl) (by kernel_rfl) (fun _ _ _ h => h) (Or.inl ⟨by rfl, ?_⟩) (by assumption) ?_
        rotate_left 1
        · intro w hSw
          (try dsimp only at hSw)
          go_simp
          all_goals (with_reducible rfl)
        try simp only [Act.put, List.getElem_toArray, List.getElem_cons_zero, List.getElem_cons_succ, List.setIfInBounds_toArray, List.set_cons_zero, List.set_cons_succ]
        refine wpAnyH_ready (rs := [10]) (by kernel_rfl) (by simp) ?_
        refine AllReadyH.cons rfl (fun K hK => ?_) AllReadyH.nil
        go_simp
        refine hK.out _ _ (BoxD.facts (HX4.out.other (a := ⟨L.p, 4, none⟩) (by show L.p ≠ _; omega) (.slice x4 (d.deeds.length + 1) z4))) (fun hHeld => ?_)
        clear hK K
        try simp only [Act.put, List.getElem_toArray, List.getElem_cons_zero, List.getElem_cons_succ, List.setIfInBounds_toArray, List.set_cons_zero, List.set_cons_succ]
        refine wpAnyH_done (by kernel_rfl) ?_ _
        go_wp2_with fail
        go_meet
        exact Lib.hid (mid_dee HQ.out HA2.out HKB.out HVB.out HP4.out HO4.out HG4.out HT4.out)
      case rest =>
        obtain ⟨w5, hw5⟩ : ∃ w5, w5 = wc := ⟨_, rfl⟩
        subst hw5
        obtain ⟨L5, e1, e2, e3, e4, hA5, hK5, hO5⟩ := hcut.out
        have HA5 := Lib.hid hA5
        have HE := Lib.hid (show L5.p = L.p ∧ L5.fb = L.fb ∧ L5.fv = L.fv ∧ L5.cr = L.cr from ⟨e1, e2, e3, e4⟩)
        have HK5 := Lib.hid hK5
        have HO5 := Lib.hid hO5
        rw [← e1]
        clear hcut hA5 hK5 hO5 e1 e2 e3 e4 c0 c1 c2 k4 HXA HPA HDE HSX HP3 HA2 HX3
        go_wp2_with fail
        refine (done_any _ L5 _ HA5.out HD.out ha).mono ?_
        rintro e w6 ⟨rfl, hA6, hK6⟩
        have HF := Lib.hid (show Mid w L d w6 (d.nameD ⟨s, t, f⟩) from ⟨L5, HE.out.1, HE.out.2.1, HE.out.2.2.1, HE.out.2.2.2, hA6, HK5.out.trans hK6 (fun j hj hlt => by
          rcases HO5.out .dsk j hj with h | h
          · exact ⟨.dsk, h⟩
          · omega), HO5.out⟩)
        clear hA6 hK6
        go_wp2
        go_end0
        exact ⟨rfl, HF.out⟩

end Go.Proofs.YtllbngopfganjaaGreatDoor
end

section
namespace Go.Proofs.YtllbngopfganjaaGreatDoor
open Go.RowKit Go.Cor

/-- What an exported call leaves. -/
def Fin' (w : World) (L : Lay) (d : Dsk) (w' : World) (d' : Dsk) : Prop :=
  ∃ L' : Lay, L'.p = L.p ∧ L'.cr = d'.files.length ∧ At w' L' d' ∧ Kept (fun k => ∃ t, L.own d.files.length t = some k) w w' ∧ ∀ t b, L'.own d'.files.length t = some b → (∃ u, L.own d.files.length u = some b) ∨ w.heap.size ≤ b
theorem Fin'.same {w w' : World} {L : Lay} {d : Dsk} (h : At w L d) (hc : L.cr = d.files.length) (hb : Below w.heap.size w w') : Fin' w L d w' d :=
  ⟨L, rfl, hc, h.below hb (Nat.le_refl _), Kept.of_below hb (Nat.le_refl _), fun t _ h => .inl ⟨t, h⟩⟩
theorem Fin'.of_mid {w w' : World} {L : Lay} {d d' : Dsk} (h : Mid w L d w' d') (hc : L.cr = d'.files.length) : Fin' w L d w' d' := by
  obtain ⟨L', h1, _, _, h4, h5, h6, h7⟩ := h
  exact ⟨L', h1, h4.trans hc, h5, h6, fun t b hb => (h7 t b hb).imp (fun h => ⟨t, h⟩) id⟩
theorem Fin'.below {w w1 w' : World} {L : Lay} {d d' : Dsk} (hb : Below w.heap.size w w1) (h : Fin' w1 L d w' d') : Fin' w L d w' d' := by
  obtain ⟨L', h1, h4, h5, h6, h7⟩ := h
  exact ⟨L', h1, h4, h5, (Kept.of_below (S := fun k => ∃ t, L.own d.files.length t = some k) hb (Nat.le_refl _)).trans h6 (fun _ h _ => h), fun t b hb' => (h7 t b hb').imp id (fun h => Nat.le_trans hb.size h)⟩

/-- A disk for those who use it: p is its box, S where it may lie. -/
def IsD (w : World) (p : Nat) (S : Nat → Prop) (d : Dsk) : Prop := ∃ L : Lay, L.p = p ∧ L.cr = d.files.length ∧ At w L d ∧ ∀ t b, L.own d.files.length t = some b → S b
def Turned (w w' : World) (p : Nat) (S : Nat → Prop) (d' : Dsk) : Prop := ∃ S' : Nat → Prop, IsD w' p S' d' ∧ Kept S w w' ∧ ∀ b, S' b → (S b ∨ w.heap.size ≤ b) ∧ b < w'.heap.size
theorem At.lt {w : World} {L : Lay} {d : Dsk} (h : At w L d) : ∀ t b, L.own d.files.length t = some b → b < w.heap.size := h.rest.lt
theorem Turned.of_fin {w w' : World} {L : Lay} {S : Nat → Prop} {d d' : Dsk} (hS : ∀ t b, L.own d.files.length t = some b → S b) (h : Fin' w L d w' d') : Turned w w' L.p S d' := by
  obtain ⟨L', h1, h4, h5, h6, h7⟩ := h
  exact ⟨fun b => ∃ t, L'.own d'.files.length t = some b, ⟨L', h1, h4, h5, fun t b hb => ⟨t, hb⟩⟩, h6.mono (fun k _ ⟨t, ht⟩ => hS t k ht), fun b ⟨t, ht⟩ => ⟨(h7 t b ht).imp (fun ⟨u, hu⟩ => hS u b hu) id, h5.lt t b ht⟩⟩
theorem IsD.kept {S T : Nat → Prop} {w w' : World} {p : Nat} {d : Dsk} (h : IsD w p S d) (hk : Kept T w w') (hT : ∀ b, S b → ¬ T b) : IsD w' p S d := by
  obtain ⟨L, h1, h2, h3, h4⟩ := h
  exact ⟨L, h1, h2, h3.kept hk (fun t b hb => hT b (h4 t b hb)), h4⟩
theorem IsD.below {S : Nat → Prop} {w w' : World} {p B : Nat} {d : Dsk} (h : IsD w p S d) (hb : Below B w w') (hB : w.heap.size ≤ B) : IsD w' p S d := h.kept (Kept.of_below (S := fun _ => False) hb hB) (fun _ _ h => h)

def Lay.setFv (L : Lay) (k : Nat) (v : Value) : Lay := { L with fv := fun j => if j = k then v else L.fv j }
theorem fat_set (fs : List Fil) (k j : Nat) (f : Fil) (hk : k < fs.length) : fat (fs.set k f) j = if j = k then f else fat fs j := by
  unfold fat
  rw [List.getD_eq_getElem?_getD, List.getD_eq_getElem?_getD, List.getElem?_set]
  by_cases h : k = j
  · subst h
    simp [hk]
  · rw [if_neg h, if_neg (fun e => h e.symm)]
theorem setF_len (d : Dsk) (k : Nat) (f : Fil) : (d.setF k f).files.length = d.files.length := by simp [Dsk.setF]
theorem Rest.setFil {w w' : World} {L : Lay} {d : Dsk} {k : Nat} {f : Fil} {v : Value} (h : Rest w L d) (hk : k < d.files.length) (hb : Blk w' (L.fb k) #[.int .i64 (k : Int), v, .int .i64 (f.lasts : Int)] 172)
    (ho : w'.ownsRow 0 5 1 v f.b.length (bvs f.b)) (hK : Kept (fun j => some (L.fb k) = some j ∨ (L.fv k).ownBlock = some j) w w') (hv : ∀ j, v.ownBlock = some j → (L.fv k).ownBlock = some j ∨ w.heap.size ≤ j) : Rest w' (L.setFv k v) (d.setF k f) where
  now := ownsRow_kept h.now hK (fun j e e2 => by
    rcases e2 with e2 | e2
    · cases h.apt .now (.box k) j e ((own_box hk).trans e2)
    · cases h.apt .now (.byt k) j e ((own_byt hk).trans e2))
  las := ownsRow_kept h.las hK (fun j e e2 => by
    rcases e2 with e2 | e2
    · cases h.apt .las (.box k) j e ((own_box hk).trans e2)
    · cases h.apt .las (.byt k) j e ((own_byt hk).trans e2))
  dee := ownsRow_kept h.dee hK (fun j e e2 => by
    rcases e2 with e2 | e2
    · cases h.apt .dee (.box k) j e ((own_box hk).trans e2)
    · cases h.apt .dee (.byt k) j e ((own_byt hk).trans e2))
  box j hj := by
    rw [setF_len] at hj
    have hf : fat (d.setF k f).files j = if j = k then f else fat d.files j := fat_set d.files k j f hk
    rw [hf]
    by_cases e : j = k
    · subst e
      simp only [Lay.setFv, if_true]
      exact hb
    · simp only [Lay.setFv, if_neg e]
      refine (h.box j hj).kept hK (fun e2 => ?_)
      rcases e2 with e2 | e2
      · cases h.apt (.box j) (.box k) _ (own_box hj) ((own_box hk).trans e2); exact e rfl
      · cases h.apt (.box j) (.byt k) _ (own_box hj) ((own_byt hk).trans e2)
  byt j hj := by
    rw [setF_len] at hj
    have hf : fat (d.setF k f).files j = if j = k then f else fat d.files j := fat_set d.files k j f hk
    rw [hf]
    by_cases e : j = k
    · subst e
      simp only [Lay.setFv, if_true]
      exact ho
    · simp only [Lay.setFv, if_neg e]
      refine ownsRow_kept (h.byt j hj) hK (fun i e1 e2 => ?_)
      rcases e2 with e2 | e2
      · cases h.apt (.byt j) (.box k) _ ((own_byt hj).trans e1) ((own_box hk).trans e2)
      · cases h.apt (.byt j) (.byt k) _ ((own_byt hj).trans e1) ((own_byt hk).trans e2); exact e rfl
  apt := by
    rw [setF_len]
    refine h.apt.upd (.byt k) w.heap.size h.lt (fun b hb' => ?_) (fun t ht => ?_)
    · rw [own_byt hk] at hb' ⊢
      simp only [Lay.setFv, if_true] at hb'
      exact hv b hb'
    · cases t with
      | byt j =>
        have e : j ≠ k := fun e => ht (by rw [e])
        simp only [Lay.own, Lay.setFv, if_neg e]
      | _ => rfl
  plt := Nat.lt_of_lt_of_le h.plt hK.size
/-- A file of a disk is changed. -/
theorem fin_file {w w' : World} {L : Lay} {d : Dsk} {k : Nat} {f : Fil} {v : Value} (h : At w L d) (hc : L.cr = d.files.length) (hk : k < d.files.length) (hb : Blk w' (L.fb k) #[.int .i64 (k : Int), v, .int .i64 (f.lasts : Int)] 172)
    (ho : w'.ownsRow 0 5 1 v f.b.length (bvs f.b)) (hK : Kept (fun j => some (L.fb k) = some j ∨ (L.fv k).ownBlock = some j) w w') (hv : ∀ j, v.ownBlock = some j → (L.fv k).ownBlock = some j ∨ w.heap.size ≤ j) : Fin' w L d w' (d.setF k f) := by
  refine ⟨L.setFv k v, rfl, by rw [setF_len]; exact hc, ⟨?_, h.rest.setFil hk hb ho hK hv⟩, hK.mono (fun j _ hj => ?_), fun t b hb' => ?_⟩
  · exact h.blk.kept hK (fun e2 => by
      rcases e2 with e2 | e2
      · cases h.rest.apt .dsk (.box k) L.p rfl ((own_box hk).trans e2)
      · cases h.rest.apt .dsk (.byt k) L.p rfl ((own_byt hk).trans e2))
  · rcases hj with hj | hj
    · exact ⟨.box k, (own_box hk).trans hj⟩
    · exact ⟨.byt k, (own_byt hk).trans hj⟩
  · rw [setF_len] at hb'
    cases t with
    | byt j =>
      simp only [Lay.own, Lay.setFv] at hb'
      by_cases hj : j < d.files.length
      · rw [if_pos hj] at hb'
        by_cases e : j = k
        · subst e
          rw [if_pos rfl] at hb'
          exact (hv b hb').imp (fun h => ⟨.byt j, by rw [own_byt hj]; exact h⟩) id
        · rw [if_neg e] at hb'
          exact .inl ⟨.byt j, by rw [own_byt hj]; exact hb'⟩
      · rw [if_neg hj] at hb'
        cases hb'
    | dsk => exact .inl ⟨.dsk, hb'⟩
    | now => exact .inl ⟨.now, hb'⟩
    | las => exact .inl ⟨.las, hb'⟩
    | dee => exact .inl ⟨.dee, hb'⟩
    | box j => exact .inl ⟨(.box j), hb'⟩
/-- One deed more is done. -/
theorem Fin'.then_done {w w1 : World} {L : Lay} {d d1 : Dsk} (h : Fin' w L d w1 d1) (hd : isDown d1.armed = false) (ha : ∀ n, d1.armed = some n → n < 9223372036854775808) :
    Calls Tryz.prog 84 #[.pointer (some ⟨L.p, 0, none⟩)] w1 fun e w' => e = .returned (.tuple #[]) ∧ Fin' w L d w' d1.done := by
  obtain ⟨L', h1, h4, h5, h6, h7⟩ := h
  rw [← h1]
  refine (done_any w1 L' d1 h5 hd ha).mono ?_
  rintro e w' ⟨rfl, hA, hK⟩
  exact ⟨rfl, L', h1, h4, hA, h6.trans hK (fun j hj hlt => by
    rcases h7 .dsk j hj with ⟨u, h⟩ | h
    · exact ⟨u, h⟩
    · omega), h7⟩

theorem on_down {α : Type} {d : Dsk} {n : ByteArray} {no f : Nat → α} (h : isDown d.armed = true) : d.on n no f = no 12 := by unfold Dsk.on; rw [if_pos (isDown_true h)]
theorem on_none {α : Type} {d : Dsk} {n : ByteArray} {no f : Nat → α} (h : isDown d.armed = false) (hf : tfind d.now n = none) : d.on n no f = no 6 := by unfold Dsk.on; rw [if_neg (isDown_false h), hf]
theorem on_some {α : Type} {d : Dsk} {n : ByteArray} {no f : Nat → α} {k : Nat} (h : isDown d.armed = false) (hf : tfind d.now n = some k) : d.on n no f = f k := by unfold Dsk.on; rw [if_neg (isDown_false h), hf]
/-- What every call of a disk may ask. -/
structure Ready (w : World) (L : Lay) (d : Dsk) (k : Nat) : Prop where
  at' : At w L d
  cr : L.cr = d.files.length
  ok : d.Ok k
  small : k ≤ 100000
theorem Ready.now_len {w : World} {L : Lay} {d : Dsk} {k : Nat} (h : Ready w L d k) : d.now.length ≤ 100000 := by
  have := h.ok.nowN; have := h.ok.lenN; have := h.small; omega
theorem Ready.dee_len {w : World} {L : Lay} {d : Dsk} {k : Nat} (h : Ready w L d k) : d.deeds.length ≤ 100000 := by
  have := h.ok.lenN; have := h.small; omega
theorem Ready.file {w : World} {L : Lay} {d : Dsk} {k : Nat} (h : Ready w L d k) {n : ByteArray} {j : Nat} (hf : tfind d.now n = some j) : j < d.files.length := (h.ok.nowF _ (tfind_mem hf)).1
theorem fat_mem {fs : List Fil} {k : Nat} (h : k < fs.length) : fat fs k ∈ fs := by
  unfold fat
  rw [List.getD_eq_getElem?_getD, List.getElem?_eq_getElem h]
  exact List.getElem_mem h
theorem Ready.fil {w : World} {L : Lay} {d : Dsk} {k : Nat} (h : Ready w L d k) {j : Nat} (hj : j < d.files.length) : (fat d.files j).lasts ≤ (fat d.files j).b.length ∧ (fat d.files j).b.length ≤ 16777216 := h.ok.fil _ (fat_mem hj)

end Go.Proofs.YtllbngopfganjaaGreatDoor
end

section
namespace Go.Proofs.YtllbngopfganjaaGreatDoor
open Go.RowKit Go.Cor

theorem Tryz.sizeU8b : (Tryz.prog.info? 5).map (·.size) = some 1 := by kernel_rfl
theorem fbox_facts {w : World} {g : Nat} {a0 a1 a2 : Value} {T : TypeId} (h : Blk w g #[a0, a1, a2] T) : w.cell? ⟨g, 0, none⟩ = some a0 ∧ w.cell? ⟨g, 1, none⟩ = some a1 ∧ w.cell? ⟨g, 2, none⟩ = some a2 := ⟨h.cell 0 rfl, h.cell 1 rfl, h.cell 2 rfl⟩
theorem isNm_ne {t : ByteArray} (h : isNm t = true) : t ≠ noName := by
  rintro rfl
  cases h
theorem isX_of_B {w : World} {v : Value} {l : List UInt8} (h : IsB w v l) : IsX w 1 v l.length (bvs l) := by
  obtain ⟨a, cap, rfl, h1, h2, h0, h3⟩ := h
  refine ⟨a, cap, rfl, h1, h2, by simp, h0, ?_⟩
  rcases h3 with h3 | ⟨b, off, rfl, hc⟩
  · exact .inl h3
  · refine .inr ⟨b, off, rfl, fun j hj => ?_⟩
    rw [Nat.mul_one] at hj
    rw [hc j hj, bvs_get hj]
theorem usedT_append (fs : List Fil) (a b : Tbl) : usedT fs (a ++ b) = usedT fs a + usedT fs b := by
  induction a with
  | nil => simp [usedT]
  | cons e r ih => simp only [List.cons_append, usedT, ih]; omega
theorem usedT_snoc (fs : List Fil) (l : Tbl) (i : Nat) {e : ByteArray × Nat} (h : l[i]? = some e) : usedT fs (l.take (i + 1)) = usedT fs (l.take i) + (fat fs e.2).b.length := by
  obtain ⟨hi, he⟩ := List.getElem?_eq_some_iff.1 h
  rw [List.take_succ_eq_append_getElem hi, usedT_append, he]
  simp [usedT]
theorem usedT_le (fs : List Fil) (l : Tbl) (h : ∀ f ∈ fs, f.b.length ≤ 16777216) : usedT fs l ≤ l.length * 16777216 := by
  induction l with
  | nil => simp [usedT]
  | cons e r ih =>
    have h1 : (fat fs e.2).b.length ≤ 16777216 := by
      unfold fat
      rw [List.getD_eq_getElem?_getD]
      cases he : fs[e.2]? with
      | none => simp
      | some f => exact h f (List.mem_of_getElem? he)
    simp only [usedT, List.length_cons]
    omega

set_option maxRecDepth 100000 in
set_option maxHeartbeats 1000000 in
theorem used_any (w : World) (L : Lay) (d : Dsk) (k : Nat) (h : Ready w L d k) :
    Calls Tryz.prog 83 #[.pointer (some ⟨L.p, 0, none⟩)] w fun e w' => e = .returned (.int .i64 (d.used : Int)) ∧ Below w.heap.size w w' := by
  have H := Lib.hid h
  obtain ⟨N, hN⟩ : ∃ N, d.now.length = N := ⟨_, rfl⟩
  have hNl := h.now_len
  obtain ⟨_, _, c2, _, _, _, _⟩ := box_facts h.at'.blk
  have hlen := fun W => len_X (P := Tryz.prog) (IsX.own h.at'.rest.now) 91 3 _ Tryz.underlying91 W
  obtain ⟨U, hU⟩ : ∃ U, d.used = U := ⟨_, rfl⟩
  rw [hN] at hNl hlen
  rw [hU]
  have HN := Lib.hid hN
  have HU := Lib.hid hU
  clear h hN hU
  go_enter Tryz.func83, Tryz.ntmps83
  go_wp2
  go_loopw [3, 13] (fun u c wr => ∃ i : Nat, i ≤ N ∧ c = .int .i64 i ∧ u = .int .i64 (usedT d.files (d.now.take i)) ∧ Hid (Below w.heap.size w wr)) (fun _ c _ => N - (intOf c).toNat)
  case atStart => exact ⟨0, Nat.zero_le _, rfl, rfl, Lib.hid (Below.refl _ _)⟩
  case round =>
    obtain ⟨i, hiN, rfl, rfl, hB⟩ := hrel
    by_cases hlt : i < N
    · obtain ⟨e, he⟩ : ∃ e, d.now[i]? = some e := ⟨_, List.getElem?_eq_getElem (by rw [HN.out]; omega)⟩
      have hem := List.mem_of_getElem? he
      have hfl := (H.out.ok.nowF e hem).1
      obtain ⟨b, o, hidx, hob, k0, k1⟩ := indexAt_T (IsX.own (ownsRow_below H.out.at'.rest.now hB.out (Nat.le_refl _))) 91 Tryz.underlying91 he
      have hbl := cell_lt k0
      have HX := Lib.hid ((H.out.at'.below hB.out (Nat.le_refl _)).rest.box e.2 hfl)
      obtain ⟨_, f1, _⟩ := fbox_facts HX.out
      have hfb := HX.out.lt
      have hlen2 := fun W => len_X (P := Tryz.prog) (IsX.own (H.out.at'.rest.byt e.2 hfl)) 33 3 _ Tryz.underlying33 W
      have hsn := usedT_snoc d.files d.now i he
      obtain ⟨M, hM⟩ : ∃ M, (fat d.files e.2).b.length = M := ⟨_, rfl⟩
      obtain ⟨A, hA⟩ : ∃ A, usedT d.files (d.now.take i) = A := ⟨_, rfl⟩
      have hMl : M ≤ 16777216 := by rw [← hM]; exact (H.out.fil hfl).2
      have hAl : A ≤ 1677721600000 := by
        have := usedT_le d.files (d.now.take i) (fun f hf => (H.out.ok.fil f hf).2)
        rw [List.length_take, hA] at this
        omega
      rw [hM] at hsn hlen2
      rw [hA] at hsn
      have HSN := Lib.hid hsn
      rw [hA]
      have hbl' : b < wr.heap.size := hbl
      clear hem he hM hA hsn hbl
      go_wp2
      go_roundw
      case rel => exact ⟨i + 1, by omega, by go_num, by rw [HSN.out]; go_num, Lib.hid (hB.out.alloc hB.out.size _)⟩
      case measure => simp [intOf]; omega
    · obtain rfl : i = N := by omega
      go_wp2
      go_ret
      refine ⟨?_, hB.out⟩
      rw [← HU.out]
      unfold Dsk.used
      rw [List.take_of_length_le (by rw [HN.out]; omega)]
      rfl

end Go.Proofs.YtllbngopfganjaaGreatDoor
end

section
namespace Go.Proofs.YtllbngopfganjaaGreatDoor
open Go.RowKit Go.Cor

set_option maxRecDepth 100000 in
set_option maxHeartbeats 2000000 in
theorem sync_any (w : World) (L : Lay) (d : Dsk) (k : Nat) (n : ByteArray) (h : Ready w L d k) :
    Calls Tryz.prog 60 #[.pointer (some ⟨L.p, 0, none⟩), .string n] w fun e w' => e = .returned (cerr (d.sync n).2) ∧ Fin' w L d w' (d.sync n).1 := by
  have H := Lib.hid h
  cases hd : isDown d.armed with
  | true =>
    rw [show d.sync n = (d, 12) from on_down hd]
    have HD := Lib.hid hd
    clear h hd
    go_enter Tryz.func60, Tryz.ntmps60
    go_wp2_with fail
    refine (find_down _ L d n H.out.at' HD.out).mono ?_
    rintro e w1 ⟨rfl, hb⟩
    have HB := Lib.hid hb
    clear hb
    go_wp2
    go_ret
    exact ⟨rfl, Fin'.same H.out.at' H.out.cr HB.out⟩
  | false =>
    cases hf : tfind d.now n with
    | none =>
      rw [show d.sync n = (d, 6) from on_none hd hf]
      have HD := Lib.hid hd
      have HF := Lib.hid hf
      have hln := h.now_len
      clear h hd hf
      go_enter Tryz.func60, Tryz.ntmps60
      go_wp2_with fail
      refine (find_none _ L d n H.out.at' HD.out H.out.ok.nowS (by omega) HF.out).mono ?_
      rintro e w1 ⟨rfl, hb⟩
      have HB := Lib.hid hb
      clear hb
      go_wp2
      go_ret
      exact ⟨rfl, Fin'.same H.out.at' H.out.cr HB.out⟩
    | some j =>
      have hj := h.file hf
      have hln := h.now_len
      have hfl := h.fil hj
      have HD := Lib.hid hd
      have HF := Lib.hid hf
      have HJ := Lib.hid hj
      clear h
      rw [show d.sync n = ((d.setF j ⟨(fat d.files j).b, (fat d.files j).b.length⟩).done, 0) from on_some hd hf]
      clear hd hf
      obtain ⟨N, hN⟩ : ∃ N, (fat d.files j).b.length = N := ⟨_, rfl⟩
      have HN := Lib.hid hN
      rw [hN] at hfl
      rw [hN]
      clear hN
      go_enter Tryz.func60, Tryz.ntmps60
      go_wp2_with fail
      refine (find_some _ L d n j H.out.at' HD.out H.out.ok.nowS (by omega) HF.out).mono ?_
      rintro e w1 ⟨rfl, hb⟩
      have HB := Lib.hid hb
      have HA1 := Lib.hid (H.out.at'.below hb (Nat.le_refl _))
      have HX1 := Lib.hid (HA1.out.rest.box j HJ.out)
      have HY1 := Lib.hid (HA1.out.rest.byt j HJ.out)
      clear hb
      obtain ⟨c0, c1, c2⟩ := fbox_facts HX1.out
      have f1 := HX1.out.free 1
      have f2 := HX1.out.free 2
      have hlen := fun W => len_X (P := Tryz.prog) (IsX.own HY1.out) 33 3 _ Tryz.underlying33 W
      rw [HN.out] at hlen
      have HK2 := Lib.hid ((Kept.refl (fun i => some (L.fb j) = some i ∨ (L.fv j).ownBlock = some i) w1).setCell (p := ⟨L.fb j, 2, none⟩) (.inl (.inl rfl)) (.int .i64 (N : Int)))
      have HY2 := Lib.hid (ownsRow_kept (S := fun i => some (L.fb j) = some i) HY1.out ((Kept.refl (fun i => some (L.fb j) = some i) w1).setCell (p := ⟨L.fb j, 2, none⟩) (.inl rfl) (.int .i64 (N : Int))) (fun i e e2 => by cases HA1.out.rest.apt (.byt j) (.box j) i ((own_byt HJ.out).trans e) ((own_box HJ.out).trans e2)))
      have HF2 := Lib.hid (fin_file (f := ⟨(fat d.files j).b, N⟩) HA1.out H.out.cr HJ.out (HX1.out.set 2 (.int .i64 (N : Int))) HY2.out HK2.out (fun i hi => .inl hi))
      go_wp2_with fail
      refine (Fin'.then_done HF2.out HD.out H.out.ok.arm).mono ?_
      rintro e w3 ⟨rfl, hF3⟩
      have HF3 := Lib.hid (Fin'.below HB.out hF3)
      clear hF3
      go_wp2
      go_ret
      exact ⟨rfl, HF3.out⟩

set_option maxRecDepth 100000 in
set_option maxHeartbeats 2000000 in
theorem rename_any (w : World) (L : Lay) (d : Dsk) (k : Nat) (n : ByteArray) (t : ByteArray) (h : Ready w L d k) (hsz1 : n.size ≤ 281474976710656) (hsz2 : t.size ≤ 281474976710656) :
    Calls Tryz.prog 63 #[.pointer (some ⟨L.p, 0, none⟩), .string n, .string t] w fun e w' => e = .returned (cerr (d.rename n t).2) ∧ Fin' w L d w' (d.rename n t).1 := by
  have H := Lib.hid h
  cases hd : isDown d.armed with
  | true =>
    rw [show d.rename n t = (d, 12) from on_down hd]
    have HD := Lib.hid hd
    clear h hd
    go_enter Tryz.func63, Tryz.ntmps63
    go_wp2_with fail
    refine (find_down _ L d n H.out.at' HD.out).mono ?_
    rintro e w1 ⟨rfl, hb⟩
    have HB := Lib.hid hb
    clear hb
    go_wp2
    go_ret
    exact ⟨rfl, Fin'.same H.out.at' H.out.cr HB.out⟩
  | false =>
    cases hf : tfind d.now n with
    | none =>
      rw [show d.rename n t = (d, 6) from on_none hd hf]
      have HD := Lib.hid hd
      have HF := Lib.hid hf
      have hln := h.now_len
      clear h hd hf
      go_enter Tryz.func63, Tryz.ntmps63
      go_wp2_with fail
      refine (find_none _ L d n H.out.at' HD.out H.out.ok.nowS (by omega) HF.out).mono ?_
      rintro e w1 ⟨rfl, hb⟩
      have HB := Lib.hid hb
      clear hb
      go_wp2
      go_ret
      exact ⟨rfl, Fin'.same H.out.at' H.out.cr HB.out⟩
    | some j =>
      have hj := h.file hf
      have hln := h.now_len
      have hfl := h.fil hj
      have HD := Lib.hid hd
      have HF := Lib.hid hf
      have HJ := Lib.hid hj
      clear h
      have hst : d.rename n t = if isNm t = false then (d, 1) else (d.nameD ⟨n, t, j⟩, 0) := on_some hd hf
      rw [hst]
      clear hd hf hst
      cases hn : isNm t with
      | false =>
        rw [if_pos rfl]
        have HNM := Lib.hid hn
        clear hn
        go_enter Tryz.func63, Tryz.ntmps63
        go_wp2_with fail
        refine (find_some _ L d n j H.out.at' HD.out H.out.ok.nowS (by omega) HF.out).mono ?_
        rintro e w1 ⟨rfl, hb⟩
        have HB := Lib.hid hb
        have HA1 := Lib.hid (H.out.at'.below hb (Nat.le_refl _))
        have HX1 := Lib.hid (HA1.out.rest.box j HJ.out)
        have HY1 := Lib.hid (HA1.out.rest.byt j HJ.out)
        clear hb
        obtain ⟨c0, c1, c2⟩ := fbox_facts HX1.out
        have f1 := HX1.out.free 1
        have f2 := HX1.out.free 2
        go_wp2_with fail
        refine (isName_any t _ (by omega)).mono ?_
        rintro e w2 ⟨rfl, rfl⟩
        rw [HNM.out]
        go_wp2
        go_ret
        exact ⟨rfl, Fin'.same H.out.at' H.out.cr HB.out⟩
      | true =>
        rw [if_neg (by decide)]
        have HNM := Lib.hid hn
        clear hn
        go_enter Tryz.func63, Tryz.ntmps63
        go_wp2_with fail
        refine (find_some _ L d n j H.out.at' HD.out H.out.ok.nowS (by omega) HF.out).mono ?_
        rintro e w1 ⟨rfl, hb⟩
        have HB := Lib.hid hb
        have HA1 := Lib.hid (H.out.at'.below hb (Nat.le_refl _))
        have HX1 := Lib.hid (HA1.out.rest.box j HJ.out)
        have HY1 := Lib.hid (HA1.out.rest.byt j HJ.out)
        clear hb
        obtain ⟨c0, c1, c2⟩ := fbox_facts HX1.out
        have f1 := HX1.out.free 1
        have f2 := HX1.out.free 2
        go_wp2_with fail
        refine (isName_any t _ (by omega)).mono ?_
        rintro e w2 ⟨rfl, rfl⟩
        rw [HNM.out]
        go_wp2_with fail
        refine (name_any _ L d n t j _ HA1.out hsz1 hsz2 (by unfold dptr; rw [if_neg (isNm_ne HNM.out)]) HD.out H.out.ok.arm H.out.ok.nowS (by omega) (by have := H.out.dee_len; omega)).mono ?_
        rintro e w3 ⟨rfl, hM⟩
        have HF3 := Lib.hid (Fin'.below HB.out (Fin'.of_mid hM (show L.cr = d.files.length from H.out.cr)))
        clear hM
        go_wp2
        go_ret
        exact ⟨rfl, HF3.out⟩

end Go.Proofs.YtllbngopfganjaaGreatDoor
end

section
namespace Go.Proofs.YtllbngopfganjaaGreatDoor
open Go.RowKit Go.Cor

set_option maxHeartbeats 400000 in
theorem bclone_any (v : Value) (l : List UInt8) (w : World) (hv : IsB w v l) (hl : l.length ≤ 1099511627776) :
    Calls Tryz.prog 67 #[v] w fun e w' =>
      ∃ v', e = .returned v' ∧ w'.ownsRow w.heap.size 5 1 v' l.length (bvs l) ∧ Below w.heap.size w w' := by
  obtain ⟨i0, hi, hz0, hz1, hz2⟩ := info_parts Tryz.infoU8
  have q22 : ∀ (w : World) (a : Option Addr) (n c n' c' : Nat), (binOp .eql 33 (.slice a n c) (.slice none n' c')).run Tryz.prog w = .ok (.bool a.isNone) w := fun w a n c n' c' => Lib.run_eql_slice_nil w _ _ a n c n' c' Tryz.underlying33
  have HV := Lib.hid hv
  obtain ⟨x, cap, rfl, hlc, hcm, hnc, hcell⟩ := hv
  clear hcell
  cases x with
  | none =>
    obtain rfl := hnc rfl
    obtain rfl : l = [] := List.eq_nil_of_length_eq_zero (by omega)
    go_enter Tryz.func67, Tryz.ntmps67
    go_wp2
    go_ret
    exact ⟨_, rfl, ⟨rfl, .inl ⟨rfl, rfl⟩⟩, Below.refl _ _⟩
  | some a =>
    clear hnc
    go_enter Tryz.func67, Tryz.ntmps67
    go_wp2_with (at_builtin; refine wpList_append_B (by rfl) _ _ 33 rfl w.heap.size 5 i0 Tryz.underlying33 hi hz0 hz1 hz2 _ [] 0 rfl (World.ownsRow_lit _ #[] 0 (Nat.le_refl _) (Nat.zero_le _) rfl) rfl _ l rfl (HV.out.mono ((Below.refl _ _).alloc (Nat.le_refl _) _) (Nat.le_refl _)) (by simp; omega) (by simp) ?_; intro v4 w4 hown4 hb4)
    go_ret
    exact ⟨_, rfl, by simpa using hown4, ((Below.refl _ _).alloc (Nat.le_refl _) _).trans hb4⟩

theorem slice_lh_V {P : Program} {w : World} {v : Value} {l : List UInt8} (hv : IsB w v l) (T U : TypeId) (ht : P.underlying T = some (.slice U)) (hs : (P.info? U).map (·.size) = some 1) (lo hi : Nat) (h1 : lo ≤ hi) (h2 : hi ≤ l.length) :
    ∃ sv, (∀ W, (Instr.slice T v (some (.int .i64 (lo : Int))) (some (.int .i64 (hi : Int))) none).run P W = .ok sv W) ∧ IsB w sv ((l.drop lo).take (hi - lo)) := by
  obtain ⟨i, hi1, hi2⟩ := Option.map_eq_some_iff.1 hs
  obtain ⟨a, cap, rfl, k1, k2, k0, k3⟩ := hv
  have ht' : P.underlying T = some (.slice (P.elem T)) := by simp [Program.elem, ht]
  have he : P.elem T = U := by simp [Program.elem, ht]
  have hsz : ∀ W, (sizeOf U).run P W = .ok 1 W := fun W => by simp [sizeOf, typeInfo, hi1, hi2]
  refine ⟨sliced a lo hi cap 1, fun W => ?_, ?_⟩
  · rw [run_slice_lh W T _ _ _ ht' .i64 .i64 _ _ (by omega) (by omega) (by omega), he, hsz]
    simp [Result.andThen]
  · have hlen : ((l.drop lo).take (hi - lo)).length = hi - lo := by simp; omega
    unfold sliced
    refine ⟨_, _, by rw [hlen], by rw [hlen]; omega, by omega, fun hx => ?_, ?_⟩
    · split at hx
      · omega
      · have : a = none := by simpa using hx
        rw [k0 this]
        omega
    · rw [hlen]
      by_cases h0 : hi - lo = 0
      · exact .inl h0
      · rcases k3 with k3 | ⟨b, off, rfl, hc⟩
        · omega
        · rw [if_neg (by omega)]
          refine .inr ⟨b, off + lo, by simp [add_lit], fun i hi => ?_⟩
          rw [show off + lo + i = off + (lo + i) from by omega, hc (lo + i) (by omega)]
          congr 2
          simp only [List.getD_eq_getElem?_getD, List.getElem?_take, if_pos hi, List.getElem?_drop]
set_option maxRecDepth 100000 in
set_option maxHeartbeats 2000000 in
theorem read_any (w : World) (L : Lay) (d : Dsk) (k : Nat) (n : ByteArray) (m z : Int) (h : Ready w L d k) (hm1 : -9223372036854775808 ≤ m) (hm2 : m ≤ 9223372036854775807) (hz1 : -9223372036854775808 ≤ z) (hz2 : z ≤ 9223372036854775807) :
    Calls Tryz.prog 119 #[.pointer (some ⟨L.p, 0, none⟩), .string n, .int .i64 m, .int .i64 z] w fun e w' => ∃ v', e = .returned (.tuple #[v', cerr (d.read n m z).2]) ∧ w'.ownsRow w.heap.size 5 1 v' (d.read n m z).1.length (bvs (d.read n m z).1) ∧ Below w.heap.size w w' := by
  have H := Lib.hid h
  cases hd : isDown d.armed with
  | true =>
    rw [show d.read n m z = (([] : List UInt8), 12) from on_down hd]
    have HD := Lib.hid hd
    clear h hd
    go_enter Tryz.func119, Tryz.ntmps119
    go_wp2_with fail
    refine (find_down _ L d n H.out.at' HD.out).mono ?_
    rintro e w1 ⟨rfl, hb⟩
    have HB := Lib.hid hb
    clear hb
    go_wp2
    go_ret2
    exact ⟨_, rfl, World.ownsRow_nil _ _ _ _, HB.out⟩
  | false =>
    cases hf : tfind d.now n with
    | none =>
      rw [show d.read n m z = (([] : List UInt8), 6) from on_none hd hf]
      have HD := Lib.hid hd
      have HF := Lib.hid hf
      have hln := h.now_len
      clear h hd hf
      go_enter Tryz.func119, Tryz.ntmps119
      go_wp2_with fail
      refine (find_none _ L d n H.out.at' HD.out H.out.ok.nowS (by omega) HF.out).mono ?_
      rintro e w1 ⟨rfl, hb⟩
      have HB := Lib.hid hb
      clear hb
      go_wp2
      go_ret2
      exact ⟨_, rfl, World.ownsRow_nil _ _ _ _, HB.out⟩
    | some j =>
      have hj := h.file hf
      have hln := h.now_len
      have hfl := h.fil hj
      have HD := Lib.hid hd
      have HF := Lib.hid hf
      have HJ := Lib.hid hj
      clear h
      have hst : d.read n m z = if m < 0 ∨ z < 0 then ([], 1) else if (fat d.files j).b.length < m + z then ([], 3) else (((fat d.files j).b.drop m.toNat).take z.toNat, 0) := on_some hd hf
      rw [hst]
      clear hd hf hst
      obtain ⟨N, hN⟩ : ∃ N, (fat d.files j).b.length = N := ⟨_, rfl⟩
      have HN := Lib.hid hN
      rw [hN] at hfl
      rw [hN]
      clear hN
      by_cases h1 : m < 0
      · rw [if_pos (.inl h1)]
        go_enter Tryz.func119, Tryz.ntmps119
        go_wp2_with fail
        refine (find_some _ L d n j H.out.at' HD.out H.out.ok.nowS (by omega) HF.out).mono ?_
        rintro e w1 ⟨rfl, hb⟩
        have HB := Lib.hid hb
        have HA1 := Lib.hid (H.out.at'.below hb (Nat.le_refl _))
        have HX1 := Lib.hid (HA1.out.rest.box j HJ.out)
        have HY1 := Lib.hid (HA1.out.rest.byt j HJ.out)
        clear hb
        obtain ⟨c0, c1, c2⟩ := fbox_facts HX1.out
        have f1 := HX1.out.free 1
        have f2 := HX1.out.free 2
        go_wp2
        go_ret2
        exact ⟨_, rfl, World.ownsRow_nil _ _ _ _, HB.out⟩
      · by_cases h2 : z < 0
        · rw [if_pos (.inr h2)]
          go_enter Tryz.func119, Tryz.ntmps119
          go_wp2_with fail
          refine (find_some _ L d n j H.out.at' HD.out H.out.ok.nowS (by omega) HF.out).mono ?_
          rintro e w1 ⟨rfl, hb⟩
          have HB := Lib.hid hb
          have HA1 := Lib.hid (H.out.at'.below hb (Nat.le_refl _))
          have HX1 := Lib.hid (HA1.out.rest.box j HJ.out)
          have HY1 := Lib.hid (HA1.out.rest.byt j HJ.out)
          clear hb
          obtain ⟨c0, c1, c2⟩ := fbox_facts HX1.out
          have f1 := HX1.out.free 1
          have f2 := HX1.out.free 2
          go_wp2
          go_ret2
          exact ⟨_, rfl, World.ownsRow_nil _ _ _ _, HB.out⟩
        · rw [if_neg (by rintro (h | h) <;> omega)]
          by_cases h3 : (N : Int) < m + z
          · rw [if_pos h3]
            have h3' : (N : Int) - z < m := by omega
            go_enter Tryz.func119, Tryz.ntmps119
            go_wp2_with fail
            refine (find_some _ L d n j H.out.at' HD.out H.out.ok.nowS (by omega) HF.out).mono ?_
            rintro e w1 ⟨rfl, hb⟩
            have HB := Lib.hid hb
            have HA1 := Lib.hid (H.out.at'.below hb (Nat.le_refl _))
            have HX1 := Lib.hid (HA1.out.rest.box j HJ.out)
            have HY1 := Lib.hid (HA1.out.rest.byt j HJ.out)
            clear hb
            obtain ⟨c0, c1, c2⟩ := fbox_facts HX1.out
            have f1 := HX1.out.free 1
            have f2 := HX1.out.free 2
            have hlen := fun W => len_X (P := Tryz.prog) (IsX.own HY1.out) 33 3 _ Tryz.underlying33 W
            rw [HN.out] at hlen
            go_wp2
            go_ret2
            exact ⟨_, rfl, World.ownsRow_nil _ _ _ _, HB.out⟩
          · rw [if_neg h3]
            obtain ⟨q, rfl⟩ := Int.eq_ofNat_of_zero_le (show 0 ≤ m by omega)
            obtain ⟨r, rfl⟩ := Int.eq_ofNat_of_zero_le (show 0 ≤ z by omega)
            rw [show ((q : Int)).toNat = q from rfl, show ((r : Int)).toNat = r from rfl]
            have h3' : ¬ ((N : Int) - (r : Int) < (q : Int)) := by omega
            go_enter Tryz.func119, Tryz.ntmps119
            go_wp2_with fail
            refine (find_some _ L d n j H.out.at' HD.out H.out.ok.nowS (by omega) HF.out).mono ?_
            rintro e w1 ⟨rfl, hb⟩
            have HB := Lib.hid hb
            have HA1 := Lib.hid (H.out.at'.below hb (Nat.le_refl _))
            have HX1 := Lib.hid (HA1.out.rest.box j HJ.out)
            have HY1 := Lib.hid (HA1.out.rest.byt j HJ.out)
            clear hb
            obtain ⟨c0, c1, c2⟩ := fbox_facts HX1.out
            have f1 := HX1.out.free 1
            have f2 := HX1.out.free 2
            have hlen := fun W => len_X (P := Tryz.prog) (IsX.own HY1.out) 33 3 _ Tryz.underlying33 W
            rw [HN.out] at hlen
            have hI := IsB.own HY1.out rfl
            obtain ⟨sv, hsl, hsv⟩ := slice_lh_V (P := Tryz.prog) hI 33 _ Tryz.underlying33 Tryz.sizeU8b q (q + r) (by omega) (by rw [HN.out]; omega)
            rw [Nat.add_sub_cancel_left] at hsv
            rw [show ((q + r : Nat) : Int) = (q : Int) + (r : Int) from by omega] at hsl
            have HSV := Lib.hid hsv
            clear hsv hI
            go_wp2_with fail
            refine (bclone_any sv _ _ HSV.out (by rw [List.length_take, List.length_drop, HN.out]; omega)).mono ?_
            rintro e w2 ⟨v', rfl, hown, hb2⟩
            have HO2 := Lib.hid hown
            have HB2 := Lib.hid (HB.out.trans (hb2.mono HB.out.size))
            have hs1 := HB.out.size
            clear hown hb2
            go_wp2
            go_ret2
            exact ⟨_, rfl, ownsRow_base HO2.out hs1, HB2.out⟩

end Go.Proofs.YtllbngopfganjaaGreatDoor
end

section
namespace Go.Proofs.YtllbngopfganjaaGreatDoor
open Go.RowKit Go.Cor

theorem Ready.below {w w' : World} {L : Lay} {d : Dsk} {k B : Nat} (h : Ready w L d k) (hb : Below B w w') (hB : w.heap.size ≤ B) : Ready w' L d k := ⟨h.at'.below hb hB, h.cr, h.ok, h.small⟩
theorem regU_call {w wx wy : World} {p : Nat} {v : Value} (h : wx.cell? ⟨p, 0, none⟩ = some v ∧ Below w.heap.size w wx) (hp : p < w.heap.size) (hb : Below wx.heap.size wx wy) : wy.cell? ⟨p, 0, none⟩ = some v ∧ Below w.heap.size w wy :=
  ⟨(hb.cell (p := ⟨p, 0, none⟩) (Nat.lt_of_lt_of_le hp h.2.size)).trans h.1, h.2.trans (hb.mono h.2.size)⟩

set_option maxRecDepth 100000 in
set_option maxHeartbeats 2000000 in
theorem append_any (w : World) (L : Lay) (d : Dsk) (k : Nat) (n : ByteArray) (v : Value) (l : List UInt8) (h : Ready w L d k) (hbv : IsB w v l) (hl : l.length ≤ 16777216) :
    Calls Tryz.prog 59 #[.pointer (some ⟨L.p, 0, none⟩), .string n, v] w fun e w' => e = .returned (cerr (d.append n l).2) ∧ Fin' w L d w' (d.append n l).1 := by
  have H := Lib.hid h
  cases hd : isDown d.armed with
  | true =>
    rw [show d.append n l = (d, 12) from on_down hd]
    have HD := Lib.hid hd
    clear h hd
    go_enter Tryz.func59, Tryz.ntmps59
    go_wp2_with fail
    refine (find_down _ L d n H.out.at' HD.out).mono ?_
    rintro e w1 ⟨rfl, hb⟩
    have HB := Lib.hid hb
    clear hb
    go_wp2
    go_ret
    exact ⟨rfl, Fin'.same H.out.at' H.out.cr HB.out⟩
  | false =>
    cases hf : tfind d.now n with
    | none =>
      rw [show d.append n l = (d, 6) from on_none hd hf]
      have HD := Lib.hid hd
      have HF := Lib.hid hf
      have hln := h.now_len
      clear h hd hf
      go_enter Tryz.func59, Tryz.ntmps59
      go_wp2_with fail
      refine (find_none _ L d n H.out.at' HD.out H.out.ok.nowS (by omega) HF.out).mono ?_
      rintro e w1 ⟨rfl, hb⟩
      have HB := Lib.hid hb
      clear hb
      go_wp2
      go_ret
      exact ⟨rfl, Fin'.same H.out.at' H.out.cr HB.out⟩
    | some j =>
      have hj := h.file hf
      have hln := h.now_len
      have hfl := h.fil hj
      have HD := Lib.hid hd
      have HF := Lib.hid hf
      have HJ := Lib.hid hj
      clear h
      have hst : d.append n l = if 16777216 < (fat d.files j).b.length + l.length then (d, 2) else if d.cap < d.used + l.length then (d, 11) else ((d.setF j ⟨(fat d.files j).b ++ l, (fat d.files j).lasts⟩).done, 0) := on_some hd hf
      rw [hst]
      have HBV := Lib.hid hbv
      have hcap := H.out.ok.cap
      have hus := usedT_le d.files d.now (fun f hf => (H.out.ok.fil f hf).2)
      clear hd hf hst hbv
      obtain ⟨N, hN⟩ : ∃ N, (fat d.files j).b.length = N := ⟨_, rfl⟩
      have HN := Lib.hid hN
      rw [hN] at hfl
      rw [hN]
      clear hN
      obtain ⟨M, hM⟩ : ∃ M, l.length = M := ⟨_, rfl⟩
      have HM := Lib.hid hM
      rw [hM] at hl
      rw [hM]
      clear hM
      obtain ⟨U, hU⟩ : ∃ U, d.used = U := ⟨_, rfl⟩
      have HU := Lib.hid hU
      rw [show usedT d.files d.now = U from hU] at hus
      rw [hU]
      clear hU
      have hus' : U ≤ 1677721600000 := by omega
      by_cases h1 : 16777216 < N + M
      · rw [if_pos h1]
        have h1' : (16777216 : Int) - (N : Int) < (M : Int) := by omega
        go_enter Tryz.func59, Tryz.ntmps59
        go_wp2_with fail
        refine (find_some _ L d n j H.out.at' HD.out H.out.ok.nowS (by omega) HF.out).mono ?_
        rintro e w1 ⟨rfl, hb⟩
        have HB := Lib.hid hb
        have HA1 := Lib.hid (H.out.at'.below hb (Nat.le_refl _))
        have HX1 := Lib.hid (HA1.out.rest.box j HJ.out)
        have HY1 := Lib.hid (HA1.out.rest.byt j HJ.out)
        clear hb
        obtain ⟨c0, c1, c2⟩ := fbox_facts HX1.out
        have f1 := HX1.out.free 1
        have f2 := HX1.out.free 2
        have hlen := fun W => len_X (P := Tryz.prog) (IsX.own HY1.out) 33 3 _ Tryz.underlying33 W
        rw [HN.out] at hlen
        have hbl := fun W => len_X (P := Tryz.prog) (isX_of_B HBV.out) 33 3 _ Tryz.underlying33 W
        rw [HM.out] at hbl
        go_wp2
        go_ret
        exact ⟨rfl, Fin'.same H.out.at' H.out.cr HB.out⟩
      · rw [if_neg h1]
        have h1' : ¬ (16777216 : Int) - (N : Int) < (M : Int) := by omega
        by_cases h2 : d.cap < U + M
        · rw [if_pos h2]
          have h2' : (d.cap : Int) - (U : Int) < (M : Int) := by omega
          go_enter Tryz.func59, Tryz.ntmps59
          go_wp2_with fail
          refine (find_some _ L d n j H.out.at' HD.out H.out.ok.nowS (by omega) HF.out).mono ?_
          rintro e w1 ⟨rfl, hb⟩
          have HB := Lib.hid hb
          have HA1 := Lib.hid (H.out.at'.below hb (Nat.le_refl _))
          have HX1 := Lib.hid (HA1.out.rest.box j HJ.out)
          have HY1 := Lib.hid (HA1.out.rest.byt j HJ.out)
          clear hb
          obtain ⟨c0, c1, c2⟩ := fbox_facts HX1.out
          have f1 := HX1.out.free 1
          have f2 := HX1.out.free 2
          have hlen := fun W => len_X (P := Tryz.prog) (IsX.own HY1.out) 33 3 _ Tryz.underlying33 W
          rw [HN.out] at hlen
          have hbl := fun W => len_X (P := Tryz.prog) (isX_of_B HBV.out) 33 3 _ Tryz.underlying33 W
          rw [HM.out] at hbl
          obtain ⟨p0, _, _, _, _, _, _⟩ := box_facts HA1.out.blk
          have S0 : w1.drew.cell? ⟨L.p, 0, none⟩ = some (.int .i64 (d.cap : Int)) ∧ Below w1.heap.size w1 w1.drew := ⟨p0, (Below.refl _ w1).drew⟩
          have hpl := HA1.out.blk.lt
          have HR1 := Lib.hid (show Ready w1.drew L d k from (H.out.below HB.out (Nat.le_refl _)).below ((Below.refl _ w1).drew) (Nat.le_refl _))
          go_upto_region 6 with fail
          go_cut [37] from 28 to 37 (fun q wx => q = .bool true ∧ Hid (Below w1.heap.size w1 wx))
          case first =>
            go_region_held3 (fun wx => wx.cell? ⟨L.p, 0, none⟩ = some (.int .i64 (d.cap : Int)) ∧ Below w1.heap.size w1 wx) (first | exact S0 | exact regU_call S0 hpl (by assumption)) (first | (go_at_call 83; refine (used_any w1.drew L d k HR1.out).mono ?_; rintro e wa ⟨rfl, hba⟩; rw [HU.out]))
            go_wp2_with fail
            go_meet
            exact ⟨by rw [IntWalk.i64_in _ (by omega), decide_eq_true h2'], Lib.hid (regU_call S0 hpl hba).2⟩
          case rest =>
            obtain ⟨rfl, hbc⟩ := hcut
            clear S0 HR1 p0
            go_wp2
            go_ret
            exact ⟨rfl, Fin'.same H.out.at' H.out.cr (HB.out.trans (hbc.out.mono HB.out.size))⟩
        · rw [if_neg h2]
          have h2' : ¬ (d.cap : Int) - (U : Int) < (M : Int) := by omega
          obtain ⟨i0, hi, hz0, hz1, hz2⟩ := info_parts Tryz.infoU8
          have HI := Lib.hid hi
          have HZ0 := Lib.hid hz0
          have HZ1 := Lib.hid hz1
          have HZ2 := Lib.hid hz2
          clear hi hz0 hz1 hz2
          go_enter Tryz.func59, Tryz.ntmps59
          go_wp2_with fail
          refine (find_some _ L d n j H.out.at' HD.out H.out.ok.nowS (by omega) HF.out).mono ?_
          rintro e w1 ⟨rfl, hb⟩
          have HB := Lib.hid hb
          have HA1 := Lib.hid (H.out.at'.below hb (Nat.le_refl _))
          have HX1 := Lib.hid (HA1.out.rest.box j HJ.out)
          have HY1 := Lib.hid (HA1.out.rest.byt j HJ.out)
          clear hb
          obtain ⟨c0, c1, c2⟩ := fbox_facts HX1.out
          have f1 := HX1.out.free 1
          have f2 := HX1.out.free 2
          have hlen := fun W => len_X (P := Tryz.prog) (IsX.own HY1.out) 33 3 _ Tryz.underlying33 W
          rw [HN.out] at hlen
          have hbl := fun W => len_X (P := Tryz.prog) (isX_of_B HBV.out) 33 3 _ Tryz.underlying33 W
          rw [HM.out] at hbl
          obtain ⟨p0, _, _, _, _, _, _⟩ := box_facts HA1.out.blk
          have S0 : w1.drew.cell? ⟨L.p, 0, none⟩ = some (.int .i64 (d.cap : Int)) ∧ Below w1.heap.size w1 w1.drew := ⟨p0, (Below.refl _ w1).drew⟩
          have hpl := HA1.out.blk.lt
          have HR1 := Lib.hid (show Ready w1.drew L d k from (H.out.below HB.out (Nat.le_refl _)).below ((Below.refl _ w1).drew) (Nat.le_refl _))
          go_upto_region 6 with fail
          go_cut [37] from 28 to 37 (fun q wx => q = .bool false ∧ Hid (Below w1.heap.size w1 wx))
          case first =>
            go_region_held3 (fun wx => wx.cell? ⟨L.p, 0, none⟩ = some (.int .i64 (d.cap : Int)) ∧ Below w1.heap.size w1 wx) (first | exact S0 | exact regU_call S0 hpl (by assumption)) (first | (go_at_call 83; refine (used_any w1.drew L d k HR1.out).mono ?_; rintro e wa ⟨rfl, hba⟩; rw [HU.out]))
            go_wp2_with fail
            go_meet
            exact ⟨by rw [IntWalk.i64_in _ (by omega), decide_eq_false (Int.not_lt.2 h2')], Lib.hid (regU_call S0 hpl hba).2⟩
          case rest =>
            obtain ⟨rfl, hbc⟩ := hcut
            clear S0 HR1 p0
            have HBC := Lib.hid hbc.out
            clear hbc
            obtain ⟨w2, hw2⟩ : ∃ w2, w2 = wc := ⟨_, rfl⟩
            subst hw2
            have HBW := Lib.hid (HB.out.trans (HBC.out.mono HB.out.size))
            have HA2 := Lib.hid (HA1.out.below HBC.out (Nat.le_refl _))
            have HX2 := Lib.hid (HA2.out.rest.box j HJ.out)
            have HY2 := Lib.hid (HA2.out.rest.byt j HJ.out)
            have HV2 := Lib.hid (isX_of_B (HBV.out.mono HBW.out (Nat.le_refl _)))
            clear c0 c1 c2 f1 f2 HX1 HY1
            obtain ⟨c0, c1, c2⟩ := fbox_facts HX2.out
            go_wp2_with (at_builtin; refine wpList_append_X (by rfl) _ _ 33 33 rfl (fun _ _ _ => rfl) 0 5 i0 _ 1 1 Tryz.underlying33 HI.out HZ0.out HZ1.out HZ2.out rfl (by decide) (L.fv j) _ _ rfl HY2.out v _ _ rfl HV2.out (bvs_one l) (by unfold maxLen; rw [HN.out, HM.out]; omega) (by rw [HN.out, HM.out]; omega) (Nat.zero_le _) ?_)
            intro v4 w4 hown4 hgr4 hat4
            obtain ⟨x4, z4, rfl, hz4a, hz4b⟩ := ownsRow_slice hown4
            have hbb : (bvs (fat d.files j).b ++ bvs l) = bvs ((fat d.files j).b ++ l) := (bvs_append _ _).symm
            rw [hbb] at hown4
            have hapt : ¬ (L.fv j).ownBlock = some (L.fb j) := fun e => by cases HA2.out.rest.apt (.byt j) (.box j) _ ((own_byt HJ.out).trans e) (own_box HJ.out)
            have HX4 := Lib.hid (HX2.out.grown (w' := w4) hgr4 hapt)
            have hv4 : ∀ i, (Value.slice x4 ((fat d.files j).b.length + l.length) z4).ownBlock = some i → (L.fv j).ownBlock = some i ∨ w2.heap.size ≤ i := fun i e => by
              rcases hat4 with h | h
              · exact .inl (h ▸ e)
              · rw [h] at e
                cases e
                exact .inr (Nat.le_refl _)
            have HK4 := Lib.hid (((Kept.refl (fun i => some (L.fb j) = some i ∨ (L.fv j).ownBlock = some i) w2).grown hgr4 (fun i e => .inl (.inr e))).setCell (p := ⟨L.fb j, 1, none⟩) (.inl (.inl rfl)) (.slice x4 ((fat d.files j).b.length + l.length) z4))
            have hne4 : ∀ i, (Value.slice x4 ((fat d.files j).b.length + l.length) z4).ownBlock = some i → ¬ some (L.fb j) = some i := fun i e e2 => by
              cases e2
              rcases hv4 _ e with h | h
              · exact hapt h
              · have := HX2.out.lt
                omega
            have HY4 := Lib.hid (ownsRow_kept (S := fun i => some (L.fb j) = some i) hown4 ((Kept.refl (fun i => some (L.fb j) = some i) w4).setCell (p := ⟨L.fb j, 1, none⟩) (.inl rfl) (.slice x4 ((fat d.files j).b.length + l.length) z4)) hne4)
            have HF4 := Lib.hid (fin_file (f := ⟨(fat d.files j).b ++ l, (fat d.files j).lasts⟩) HA2.out H.out.cr HJ.out (HX4.out.set 1 (.slice x4 ((fat d.files j).b.length + l.length) z4)) (by have := HY4.out; rw [show ((⟨(fat d.files j).b ++ l, (fat d.files j).lasts⟩ : Fil)).b.length = (fat d.files j).b.length + l.length from List.length_append]; exact this) HK4.out hv4)
            clear hown4 hgr4 hat4 hv4 hne4 hapt hbb c0 c1 c2
            obtain ⟨c0, c1, c2⟩ := fbox_facts HX4.out
            have f1 := HX4.out.free 1
            go_wp2_with fail
            refine (Fin'.then_done HF4.out HD.out H.out.ok.arm).mono ?_
            rintro e w5 ⟨rfl, hF5⟩
            have HF5 := Lib.hid (Fin'.below HBW.out hF5)
            clear hF5
            go_wp2
            go_ret
            exact ⟨rfl, HF5.out⟩

/-- The names last as they are; none of the deeds does any more. -/
theorem Rest.setLas {w w' : World} {L : Lay} {d : Dsk} (h : Rest w L d) {v : Value} (ho : w'.ownsRow w.heap.size 164 2 v d.now.length (row (ent L.fb) d.now)) (hk : Kept (fun k => some L.p = some k) w w') :
    Rest w' { L with las := v, dee := .slice none 0 0 } { d with las := d.now, deeds := [] } where
  now := ownsRow_kept h.now hk (fun k e e2 => by cases h.apt .now .dsk k e e2)
  las := ownsRow_base ho (Nat.zero_le _)
  dee := World.ownsRow_nil _ _ _ _
  box k hl := (h.box k hl).kept hk (fun e2 => by cases h.apt (.box k) .dsk _ (own_box hl) e2)
  byt k hl := ownsRow_kept (h.byt k hl) hk (fun j e e2 => by cases h.apt (.byt k) .dsk j ((own_byt hl).trans e) e2)
  apt := by
    have h1 : Apt (({ L with dee := .slice none 0 0 } : Lay).own d.files.length) := h.apt.upd .dee w.heap.size h.lt (fun b hb => by cases hb) (fun t ht => by cases t <;> first | rfl | exact absurd rfl ht)
    have h2 : ∀ t b, (({ L with dee := .slice none 0 0 } : Lay).own d.files.length) t = some b → b < w.heap.size := fun t b hb => by
      cases t with
      | dee => cases hb
      | dsk => exact h.lt .dsk b hb
      | now => exact h.lt .now b hb
      | las => exact h.lt .las b hb
      | box k => exact h.lt (.box k) b hb
      | byt k => exact h.lt (.byt k) b hb
    exact h1.upd .las w.heap.size h2 (fun b hb => .inr (ho.lt b hb).1) (fun t ht => by cases t <;> first | rfl | exact absurd rfl ht)
  plt := Nat.lt_of_lt_of_le h.plt hk.size
theorem last_fin {w w' : World} {L : Lay} {d : Dsk} {v : Value} {a3 a4 : Value} (h : Rest w L d) (hc : L.cr = d.files.length) (hb : Blk w' L.p #[.int .i64 (d.cap : Int), .int .i64 (L.cr : Int), L.now, v, .slice none 0 0, .bool d.armed.isSome, .int .i64 (lft L d)] 94) (ho : w'.ownsRow w.heap.size 164 2 v d.now.length (row (ent L.fb) d.now)) (hk : Kept (fun k => some L.p = some k) w w') : Fin' w L d w' d.syncN := by
  refine ⟨{ L with las := v, dee := .slice none 0 0 }, rfl, hc, ⟨hb, h.setLas ho hk⟩, hk.mono (fun k _ hk => ⟨.dsk, hk⟩), fun t b hb => ?_⟩
  cases t with
  | dee => cases hb
  | las => exact .inr (ho.lt b hb).1
  | dsk => exact .inl ⟨.dsk, hb⟩
  | now => exact .inl ⟨.now, hb⟩
  | box k => exact .inl ⟨(.box k), hb⟩
  | byt k => exact .inl ⟨(.byt k), hb⟩

set_option maxRecDepth 100000 in
set_option maxHeartbeats 1000000 in
theorem syncNames_any (w : World) (L : Lay) (d : Dsk) (k : Nat) (h : Ready w L d k) :
    Calls Tryz.prog 64 #[.pointer (some ⟨L.p, 0, none⟩)] w fun e w' => e = .returned (cerr d.syncNames.2) ∧ Fin' w L d w' d.syncNames.1 := by
  have H := Lib.hid h
  cases hd : isDown d.armed with
  | true =>
    rw [show d.syncNames = (d, 12) from by unfold Dsk.syncNames; rw [if_pos (isDown_true hd)]]
    have HD := Lib.hid hd
    clear h hd
    go_enter Tryz.func64, Tryz.ntmps64
    go_wp2_with fail
    refine (up_any _ L d H.out.at'.blk).mono ?_
    rintro e w' ⟨rfl, rfl⟩
    rw [HD.out, if_pos rfl]
    go_wp2
    go_ret
    exact ⟨rfl, Fin'.same H.out.at' H.out.cr (Below.refl _ _)⟩
  | false =>
    rw [show d.syncNames = (d.syncN.done, 0) from by unfold Dsk.syncNames; rw [if_neg (isDown_false hd)]]
    have hln := h.now_len
    have HD := Lib.hid hd
    clear h hd
    go_enter Tryz.func64, Tryz.ntmps64
    go_wp2_with fail
    refine (up_any _ L d H.out.at'.blk).mono ?_
    rintro e w' ⟨rfl, rfl⟩
    rw [HD.out, if_neg (by decide)]
    go_wp2_with fail
    refine (lastNames_any _ L.p _ _ _ _ _ _ L.now d.now L.fb H.out.at'.blk H.out.at'.rest.now (by omega)).mono ?_
    rintro e w1 ⟨rfl, v', hb, ho, hk⟩
    have HF := Lib.hid (last_fin (a3 := .nilIface) (a4 := .nilIface) H.out.at'.rest H.out.cr hb ho hk)
    clear hb ho hk
    go_wp2_with fail
    refine (Fin'.then_done HF.out HD.out H.out.ok.arm).mono ?_
    rintro e w2 ⟨rfl, hF2⟩
    have HF2 := Lib.hid hF2
    clear hF2
    go_wp2
    go_ret
    exact ⟨rfl, HF2.out⟩

/-- A disk without files. -/
def newD (cap : Nat) : Dsk := ⟨cap, [], [], [], [], none⟩
theorem new_ok (cap : Nat) (w : World) (hc : cap ≤ 1073741824) :
    Calls Tryz.prog 16 #[.int .i64 (cap : Int)] w fun e w' => e = .returned (.tuple #[.pointer (some ⟨w.heap.size, 0, none⟩), .nilIface]) ∧ IsD w' w.heap.size (fun b => b = w.heap.size) (newD cap) ∧ Below w.heap.size w w' ∧ w.heap.size < w'.heap.size := by
  have h1 : ¬ (cap : Int) < 0 := by omega
  have h2 : ¬ (1073741824 : Int) < (cap : Int) := by omega
  go_enter Tryz.func16, Tryz.ntmps16
  go_wp2
  go_ret2
  have hb := Blk.new w #[.int .i64 (cap : Int), .int .i64 0, .slice none 0 0, .slice none 0 0, .slice none 0 0, .bool false, .int .i64 0] 94
  refine ⟨rfl, ⟨⟨w.heap.size, .slice none 0 0, .slice none 0 0, .slice none 0 0, fun _ => 0, fun _ => .slice none 0 0, 0, 0⟩, rfl, rfl, ⟨hb, World.ownsRow_nil _ _ _ _, World.ownsRow_nil _ _ _ _, World.ownsRow_nil _ _ _ _, (fun k hk => absurd hk (Nat.not_lt_zero _)), (fun k hk => absurd hk (Nat.not_lt_zero _)), ?_, hb.lt⟩, ?_⟩, (Below.refl _ _).alloc (Nat.le_refl _) _, hb.lt⟩
  · intro t u b ht hu
    cases t <;> first | cases ht | skip
    cases u <;> first | rfl | cases hu
  · intro t b hb'
    cases t <;> first | (cases hb'; done) | skip
    cases hb'
    rfl
end Go.Proofs.YtllbngopfganjaaGreatDoor
end
