/- Package disk: a deed of names is done: by contract. -/
import Derived.Test.YtnofabeajcdddaaDiskb
namespace Go.Proofs.Ytnofabeajcdddaa
open Go.RowKit Go.Cor

theorem regS_call {w wx wy : World} {B : Nat} {s t : ByteArray} {q : Value} {T : TypeId} (h : wx.cell? ⟨B, 0, none⟩ = some (.string s) ∧ wx.cell? ⟨B, 1, none⟩ = some (.string t) ∧ wx.frozen? ⟨B, 0, none⟩ = false ∧ wx.frozen? ⟨B, 1, none⟩ = false ∧ Blk wx B #[.string s, .string t, q] T ∧ Below B w wx) (hb : Below wx.heap.size wx wy) :
    wy.cell? ⟨B, 0, none⟩ = some (.string s) ∧ wy.cell? ⟨B, 1, none⟩ = some (.string t) ∧ wy.frozen? ⟨B, 0, none⟩ = false ∧ wy.frozen? ⟨B, 1, none⟩ = false ∧ Blk wy B #[.string s, .string t, q] T ∧ Below B w wy := by
  obtain ⟨_, _, _, _, h5, h6⟩ := h
  have h5' := h5.below hb h5.lt
  exact ⟨h5'.cell 0 rfl, h5'.cell 1 rfl, h5'.free 0, h5'.free 1, h5', h6.trans (hb.mono (Nat.le_of_lt h5.lt))⟩
theorem regS_st0 {w wx : World} {B : Nat} {s t : ByteArray} {q : Value} {T : TypeId} (h : wx.cell? ⟨B, 0, none⟩ = some (.string s) ∧ wx.cell? ⟨B, 1, none⟩ = some (.string t) ∧ wx.frozen? ⟨B, 0, none⟩ = false ∧ wx.frozen? ⟨B, 1, none⟩ = false ∧ Blk wx B #[.string s, .string t, q] T ∧ Below B w wx) :
    (wx.setCell ⟨B, 0, none⟩ (.string s)).cell? ⟨B, 0, none⟩ = some (.string s) ∧ (wx.setCell ⟨B, 0, none⟩ (.string s)).cell? ⟨B, 1, none⟩ = some (.string t) ∧ (wx.setCell ⟨B, 0, none⟩ (.string s)).frozen? ⟨B, 0, none⟩ = false ∧ (wx.setCell ⟨B, 0, none⟩ (.string s)).frozen? ⟨B, 1, none⟩ = false ∧ Blk (wx.setCell ⟨B, 0, none⟩ (.string s)) B #[.string s, .string t, q] T ∧ Below B w (wx.setCell ⟨B, 0, none⟩ (.string s)) := by
  obtain ⟨_, _, _, _, h5, h6⟩ := h
  have h5' := h5.set 0 (.string s)
  exact ⟨h5'.cell 0 rfl, h5'.cell 1 rfl, h5'.free 0, h5'.free 1, h5', h6.setCell (Nat.le_refl _) _⟩
theorem regS_st1 {w wx : World} {B : Nat} {s t : ByteArray} {q : Value} {T : TypeId} (h : wx.cell? ⟨B, 0, none⟩ = some (.string s) ∧ wx.cell? ⟨B, 1, none⟩ = some (.string t) ∧ wx.frozen? ⟨B, 0, none⟩ = false ∧ wx.frozen? ⟨B, 1, none⟩ = false ∧ Blk wx B #[.string s, .string t, q] T ∧ Below B w wx) :
    (wx.setCell ⟨B, 1, none⟩ (.string t)).cell? ⟨B, 0, none⟩ = some (.string s) ∧ (wx.setCell ⟨B, 1, none⟩ (.string t)).cell? ⟨B, 1, none⟩ = some (.string t) ∧ (wx.setCell ⟨B, 1, none⟩ (.string t)).frozen? ⟨B, 0, none⟩ = false ∧ (wx.setCell ⟨B, 1, none⟩ (.string t)).frozen? ⟨B, 1, none⟩ = false ∧ Blk (wx.setCell ⟨B, 1, none⟩ (.string t)) B #[.string s, .string t, q] T ∧ Below B w (wx.setCell ⟨B, 1, none⟩ (.string t)) := by
  obtain ⟨_, _, _, _, h5, h6⟩ := h
  have h5' := h5.set 1 (.string t)
  exact ⟨h5'.cell 0 rfl, h5'.cell 1 rfl, h5'.free 0, h5'.free 1, h5', h6.setCell (Nat.le_refl _) _⟩

/-- What a deed leaves: the disk d' where d was; what it may have written; what it has. -/
def Mid (w : World) (L : Lay) (d : Dsk) (w' : World) (d' : Dsk) : Prop :=
  ∃ L' : Lay, L'.p = L.p ∧ L'.fb = L.fb ∧ L'.fv = L.fv ∧ L'.cr = L.cr ∧ At w' L' d' ∧ Kept (fun k => ∃ t, L.own d.files.length t = some k) w w' ∧ ∀ t b, L'.own d'.files.length t = some b → L.own d.files.length t = some b ∨ w.heap.size ≤ b
theorem Apt.upd {f g : Tg → Option Nat} (h : Apt f) (τ : Tg) (N : Nat) (hN : ∀ t b, f t = some b → b < N) (hτ : ∀ b, g τ = some b → f τ = some b ∨ N ≤ b) (ho : ∀ t, t ≠ τ → g t = f t) : Apt g := by
  intro t u b ht hu
  by_cases e1 : t = τ
  · by_cases e2 : u = τ
    · rw [e1, e2]
    · rw [ho u e2] at hu
      rw [e1] at ht
      rcases hτ b ht with h1 | h1
      · rw [e1]; exact h τ u b h1 hu
      · have := hN u b hu; omega
  · rw [ho t e1] at ht
    by_cases e2 : u = τ
    · rw [e2] at hu
      rcases hτ b hu with h1 | h1
      · rw [e2]; exact h t τ b ht h1
      · have := hN t b ht; omega
    · rw [ho u e2] at hu
      exact h t u b ht hu

/-- The table of now is another one. -/
theorem Rest.setNow {w w' : World} {L : Lay} {d : Dsk} (h : Rest w L d) {v : Value} {l : Tbl} (ho : w'.ownsRow 0 104 2 v l.length (row (ent L.fb) l)) (hk : Kept (fun k => L.now.ownBlock = some k) w w') (hv : ∀ k, v.ownBlock = some k → L.now.ownBlock = some k ∨ w.heap.size ≤ k) :
    Rest w' { L with now := v } { d with now := l } where
  now := ho
  las := ownsRow_kept h.las hk (fun k e e2 => by cases h.apt .las .now k e e2)
  dee := ownsRow_kept h.dee hk (fun k e e2 => by cases h.apt .dee .now k e e2)
  box k hl := (h.box k hl).kept hk (fun e2 => by cases h.apt (.box k) .now _ (own_box hl) e2)
  byt k hl := ownsRow_kept (h.byt k hl) hk (fun j e e2 => by cases h.apt (.byt k) .now j ((own_byt hl).trans e) e2)
  apt := h.apt.upd .now w.heap.size h.lt hv (fun t ht => by cases t <;> first | rfl | exact absurd rfl ht)
  plt := Nat.lt_of_lt_of_le h.plt hk.size
theorem Rest.setDee {w w' : World} {L : Lay} {d : Dsk} (h : Rest w L d) {v : Value} {l : List Dd} (ho : w'.ownsRow 0 100 3 v l.length (row (ddc L.fb) l)) (hk : Kept (fun k => L.dee.ownBlock = some k) w w') (hv : ∀ k, v.ownBlock = some k → L.dee.ownBlock = some k ∨ w.heap.size ≤ k) :
    Rest w' { L with dee := v } { d with deeds := l } where
  now := ownsRow_kept h.now hk (fun k e e2 => by cases h.apt .now .dee k e e2)
  las := ownsRow_kept h.las hk (fun k e e2 => by cases h.apt .las .dee k e e2)
  dee := ho
  box k hl := (h.box k hl).kept hk (fun e2 => by cases h.apt (.box k) .dee _ (own_box hl) e2)
  byt k hl := ownsRow_kept (h.byt k hl) hk (fun j e e2 => by cases h.apt (.byt k) .dee j ((own_byt hl).trans e) e2)
  apt := h.apt.upd .dee w.heap.size h.lt hv (fun t ht => by cases t <;> first | rfl | exact absurd rfl ht)
  plt := Nat.lt_of_lt_of_le h.plt hk.size
/-- A field of the disk's box is stored. -/
theorem Rest.setDsk {w : World} {L : Lay} {d : Dsk} (h : Rest w L d) (j : Nat) (u : Value) : Rest (w.setCell ⟨L.p, j, none⟩ u) L d := by
  have hk : Kept (fun k => some L.p = some k) w (w.setCell ⟨L.p, j, none⟩ u) := (Kept.refl (fun k => some L.p = some k) w).setCell (p := ⟨L.p, j, none⟩) (.inl rfl) _
  exact ⟨ownsRow_kept h.now hk (fun k e e2 => by cases h.apt .now .dsk k e e2), ownsRow_kept h.las hk (fun k e e2 => by cases h.apt .las .dsk k e e2), ownsRow_kept h.dee hk (fun k e e2 => by cases h.apt .dee .dsk k e e2),
    fun k hl => (h.box k hl).kept hk (fun e2 => by cases h.apt (.box k) .dsk _ (own_box hl) e2), fun k hl => ownsRow_kept (h.byt k hl) hk (fun j e e2 => by cases h.apt (.byt k) .dsk j ((own_byt hl).trans e) e2), h.apt, Nat.lt_of_lt_of_le h.plt hk.size⟩

theorem mid_dee {w w3 w4 : World} {L : Lay} {d : Dsk} {v2 v4 : Value} {t1 : Tbl} {x : Dd} {q : Option Addr} {T : TypeId} (hq : q = dptr L.fb x) (hA : At w3 { L with now := v2 } { d with now := t1 }) (hK : Kept (fun k => ∃ t, L.own d.files.length t = some k) w w3) (hV : ∀ k, v2.ownBlock = some k → L.now.ownBlock = some k ∨ w.heap.size ≤ k)
    (hP : Blk w4 L.p #[.int .i64 (d.cap : Int), .int .i64 (L.cr : Int), v2, L.las, L.dee, .bool d.armed.isSome, .int .i64 (lft L d)] 82)
    (hO : w4.ownsRow 0 100 3 v4 (d.deeds.length + 1) (row (ddc L.fb) d.deeds ++ #[Value.string x.src, .string x.dst, .pointer q].toList))
    (hG : (w3.drew.alloc (.cells #[.string x.src, .string x.dst, .pointer q] T)).grownBy w4 L.dee.ownBlock) (hT : v4.ownBlock = L.dee.ownBlock ∨ v4.ownBlock = some (w3.drew.alloc (.cells #[.string x.src, .string x.dst, .pointer q] T)).heap.size) :
    Mid w L d (w4.setCell ⟨L.p, 4, none⟩ v4) { d with now := t1, deeds := d.deeds ++ [x] } := by
  have hk : Kept (fun k => L.dee.ownBlock = some k) w3 w4 := (((Kept.refl (fun k => L.dee.ownBlock = some k) w3).drew).alloc _).grown hG (fun k hk => .inl hk)
  have hv : ∀ k, v4.ownBlock = some k → L.dee.ownBlock = some k ∨ w3.heap.size ≤ k := fun k e => by
    rcases hT with h | h
    · exact .inl (h ▸ e)
    · rw [h] at e
      have e' : (w3.drew.alloc (.cells #[.string x.src, .string x.dst, .pointer q] T)).heap.size = k := by simpa using e
      have e2 : (w3.drew.alloc (.cells #[.string x.src, .string x.dst, .pointer q] T)).heap.size = w3.heap.size + 1 := by simp
      exact .inr (by omega)
  have ho : w4.ownsRow 0 100 3 v4 (d.deeds ++ [x]).length (row (ddc L.fb) (d.deeds ++ [x])) := by
    rw [row_append, row_one, List.length_append]
    subst hq
    exact hO
  have hR := hA.rest.setDee (w' := w4) ho hk hv
  refine ⟨{ L with now := v2, dee := v4 }, rfl, rfl, rfl, rfl, ⟨hP.set 4 v4, hR.setDsk 4 v4⟩, ?_, fun t b hb => ?_⟩
  · exact (hK.trans hk (fun j hj _ => ⟨.dee, hj⟩)).setCell (p := ⟨L.p, 4, none⟩) (.inl ⟨.dsk, rfl⟩) _
  · cases t with
    | now => exact hV b hb
    | dee => exact (hv b hb).imp id (fun h => Nat.le_trans hK.size h)
    | dsk => exact .inl hb
    | las => exact .inl hb
    | box k => exact .inl hb
    | byt k => exact .inl hb

set_option maxRecDepth 100000 in
set_option maxHeartbeats 4000000 in
theorem name_any (w : World) (L : Lay) (d : Dsk) (s t : ByteArray) (f : Nat) (q : Option Addr) (h : At w L d) (hss : s.size ≤ 281474976710656) (hts : t.size ≤ 281474976710656) (hq : q = dptr L.fb ⟨s, t, f⟩) (hd : isDown d.armed = false) (ha : ∀ n, d.armed = some n → n < 9223372036854775808)
    (hs : Sorted d.now) (hl : d.now.length ≤ 1048575) (hdl : d.deeds.length ≤ 1048575) :
    Calls Try.prog 43 #[.pointer (some ⟨L.p, 0, none⟩), .agg #[.string s, .string t, .pointer q]] w fun e w' => e = .returned (.tuple #[]) ∧ Mid w L d w' (d.nameD ⟨s, t, f⟩) := by
  have S0 : (w.alloc (.cells #[.string s, .string t, .pointer q] 100)).drew.cell? ⟨w.heap.size, 0, none⟩ = some (.string s) ∧ (w.alloc (.cells #[.string s, .string t, .pointer q] 100)).drew.cell? ⟨w.heap.size, 1, none⟩ = some (.string t) ∧ (w.alloc (.cells #[.string s, .string t, .pointer q] 100)).drew.frozen? ⟨w.heap.size, 0, none⟩ = false ∧ (w.alloc (.cells #[.string s, .string t, .pointer q] 100)).drew.frozen? ⟨w.heap.size, 1, none⟩ = false ∧ Blk (w.alloc (.cells #[.string s, .string t, .pointer q] 100)).drew w.heap.size #[.string s, .string t, .pointer q] 100 ∧ Below w.heap.size w (w.alloc (.cells #[.string s, .string t, .pointer q] 100)).drew := by
    have h5 := (Blk.new w #[.string s, .string t, .pointer q] 100).drew
    exact ⟨h5.cell 0 rfl, h5.cell 1 rfl, h5.free 0, h5.free 1, h5, ((Below.refl _ w).alloc (Nat.le_refl _) _).drew⟩
  obtain ⟨i0, hinf, hz0, hz1, hz2⟩ := info_parts Try.infoDeed
  have H := Lib.hid h
  have HQ := Lib.hid hq
  have HD := Lib.hid hd
  have HI := Lib.hid hinf
  have HZ0 := Lib.hid hz0
  have HZ1 := Lib.hid hz1
  have HZ2 := Lib.hid hz2
  clear h hq hd hinf hz0 hz1 hz2
  go_enter Try.func43, Try.ntmps43
  go_upto_region 1 with fail
  go_cut [4] from 4 to 11 (fun _ wx => Hid (Blk wx w.heap.size #[.string s, .string t, .pointer q] 100 ∧ Below w.heap.size w wx))
  case first =>
    go_region_held3 (fun wx => wx.cell? ⟨w.heap.size, 0, none⟩ = some (.string s) ∧ wx.cell? ⟨w.heap.size, 1, none⟩ = some (.string t) ∧ wx.frozen? ⟨w.heap.size, 0, none⟩ = false ∧ wx.frozen? ⟨w.heap.size, 1, none⟩ = false ∧ Blk wx w.heap.size #[.string s, .string t, .pointer q] 100 ∧ Below w.heap.size w wx) (first | exact S0 | (refine regS_call (by assumption) (by assumption)) | exact regS_st0 (by assumption) | exact regS_st1 (by assumption)) (first | (go_at_call 59; refine (sclone_any s _ hss).mono ?_; rintro e wa ⟨rfl, hba⟩) | (go_at_call 59; refine (sclone_any t _ hts).mono ?_; rintro e wb ⟨rfl, hbb⟩))
    go_wp2_with fail
    go_meet
    exact Lib.hid (regS_st1 (regS_st0 (regS_call (regS_call S0 hba) hbb))).2.2.2.2
  case rest =>
    clear S0
    obtain ⟨w1, hw1⟩ : ∃ w1, w1 = wc := ⟨_, rfl⟩
    subst hw1
    have HX1 := Lib.hid hcut.out.1
    have HB1 := Lib.hid hcut.out.2
    have HA1 := Lib.hid (H.out.below hcut.out.2 (Nat.le_refl _))
    have hsz : w.heap.size < w1.heap.size := hcut.out.1.lt
    have hpw : L.p < w.heap.size := H.out.rest.plt
    clear hcut
    obtain ⟨c0, c1, c2⟩ := BoxD.facts HX1.out
    obtain ⟨_, _, k2, _, _, _, _⟩ := box_facts HA1.out.blk
    have f2 := HA1.out.blk.free 2
    have HKA := Lib.hid (Kept.of_below (S := fun k => ∃ t, L.own d.files.length t = some k) HB1.out (Nat.le_refl _))
    have HBH := Lib.hid (behind_any L.fb L.now d.now ⟨s, t, f⟩ q w1.drew HA1.out.rest.now hs hl (fun hne => by rw [HQ.out]; unfold dptr; rw [if_neg hne]))
    go_upto_region 2 with fail
    go_cut [18] from 12 to 20 (fun _ wx => Hid (Blk wx w.heap.size #[.string s, .string t, .pointer q] 100 ∧ ∃ v2, At wx { L with now := v2 } { d with now := turnT d.now ⟨s, t, f⟩ } ∧ Kept (fun k => ∃ t, L.own d.files.length t = some k) w wx ∧ ∀ k, v2.ownBlock = some k → L.now.ownBlock = some k ∨ w.heap.size ≤ k))
    case first =>
      refine wp_region_held_drew (S := (fun wx => wx.cell? ⟨w.heap.size, 0, none⟩ = some (.string s) ∧ wx.cell? ⟨w.heap.size, 1, none⟩ = some (.string t) ∧ wx.cell? ⟨w.heap.size, 2, none⟩ = some (.pointer q))) (by kernel_rfl) (⟨c0, c1, c2⟩) (fun hHeld => ?_)
      refine wpAnyH_take (i := 0) (v := ?_) rfl (by kernel_rfl) (by kernel_rfl) (by kernel_rfl) (fun _ _ _ h => h) (Or.inl ⟨by rfl, ?_⟩) (by assumption) ?_
      rotate_left 1
      · intro w hSw
        (try dsimp only at hSw)
        go_simp
        all_goals (with_reducible rfl)
      try simp only [Act.put, List.getElem_toArray, List.getElem_cons_zero, List.getElem_cons_succ, List.setIfInBounds_toArray, List.set_cons_zero, List.set_cons_succ]
      refine wpAnyH_take (i := 1) (v := ?_) rfl (by kernel_rfl) (by kernel_rfl) (by kernel_rfl) (fun _ _ _ h => h) (Or.inl ⟨by rfl, ?_⟩) (by assumption) ?_
      rotate_left 1
      · intro w hSw
        (try dsimp only at hSw)
        go_simp
        all_goals (with_reducible rfl)
      try simp only [Act.put, List.getElem_toArray, List.getElem_cons_zero, List.getElem_cons_succ, List.setIfInBounds_toArray, List.set_cons_zero, List.set_cons_succ]
      refine wpAnyH_take (i := 2) (v := ?_) rfl (by kernel_rfl) (by kernel_rfl) (by kernel_rfl) (fun _ _ _ h => h) (Or.inl ⟨by rfl, ?_⟩) (by assumption) ?_
      rotate_left 1
      · intro w hSw
        (try dsimp only at hSw)
        go_simp
        all_goals (with_reducible rfl)
      try simp only [Act.put, List.getElem_toArray, List.getElem_cons_zero, List.getElem_cons_succ, List.setIfInBounds_toArray, List.set_cons_zero, List.set_cons_succ]
      refine wpAnyH_take (i := 3) (v := ?_) rfl (by kernel_rfl) (by kernel_rfl) (by kernel_rfl) (fun _ _ _ h => h) (Or.inl ⟨by rfl, ?_⟩) (by assumption) ?_
      rotate_left 1
      · intro w hSw
        (try dsimp only at hSw)
        go_simp
        all_goals (with_reducible rfl)
      try simp only [Act.put, List.getElem_toArray, List.getElem_cons_zero, List.getElem_cons_succ, List.setIfInBounds_toArray, List.set_cons_zero, List.set_cons_succ]
      refine wpAnyH_take (i := 5) (v := ?_) rfl (by kernel_rfl) (by kernel_rfl) (by kernel_rfl) (fun _ _ _ h => h) (Or.inl ⟨by rfl, ?_⟩) (by assumption) ?_
      rotate_left 1
      · intro w hSw
        (try dsimp only at hSw)
        go_simp
        all_goals (with_reducible rfl)
      try simp only [Act.put, List.getElem_toArray, List.getElem_cons_zero, List.getElem_cons_succ, List.setIfInBounds_toArray, List.set_cons_zero, List.set_cons_succ]
      refine wpAnyH_ready (rs := [4]) (by kernel_rfl) (by simp) ?_
      refine AllReadyH.cons rfl (fun K hK => ?_) AllReadyH.nil
      go_simp
      refine hK.out _ _ (⟨c0, c1, c2⟩) (fun hHeld => ?_)
      clear hK K
      try simp only [Act.put, List.getElem_toArray, List.getElem_cons_zero, List.getElem_cons_succ, List.setIfInBounds_toArray, List.set_cons_zero, List.set_cons_succ]
      refine wpAnyH_ready (rs := [6]) (by kernel_rfl) (by simp) ?_
      refine AllReadyH.cons rfl (fun K hK => ?_) AllReadyH.nil
      go_simp
      go_at_call 47
      refine HBH.out.mono ?_
      rintro e w2 ⟨v2, rfl, hown2, hk2, hv2⟩
      have hk2 := Kept.undrew hk2
      obtain ⟨x2, z2, rfl, hz2a, hz2b⟩ := ownsRow_slice hown2
      have HP2 := Lib.hid (HA1.out.blk.kept (w' := w2) (S := fun k => L.now.ownBlock = some k) hk2 (fun e => by cases HA1.out.rest.apt .dsk .now L.p rfl e))
      have HX2 := Lib.hid (HX1.out.kept (w' := w2) (S := fun k => L.now.ownBlock = some k) hk2 (fun e => by have := HA1.out.rest.lt .now _ e; have := (H.out.rest.lt .now _ e); omega))
      have g2 := HP2.out.free 2
      have m2 := HP2.out.cell 2 rfl
      have HN2 := Lib.hid (HA1.out.rest.setNow hown2 (w := w1) (w' := w2) hk2 hv2)
      have HK2 := Lib.hid (HKA.out.trans (show Kept (fun k => L.now.ownBlock = some k) w1 w2 from hk2) (fun j hj _ => ⟨.now, hj⟩))
      have HV2 := Lib.hid (show ∀ k, (Value.slice x2 (turnT d.now ⟨s, t, f⟩).length z2).ownBlock = some k → L.now.ownBlock = some k ∨ w1.heap.size ≤ k from hv2)
      clear hown2 hk2 hv2 k2
      go_wp2_with fail
      refine hK.out _ _ (BoxD.facts HX2.out) (fun hHeld => ?_)
      clear hK K
      try simp only [Act.put, List.getElem_toArray, List.getElem_cons_zero, List.getElem_cons_succ, List.setIfInBounds_toArray, List.set_cons_zero, List.set_cons_succ]
      refine wpAnyH_take (i := 7) (v := ?_) rfl (by kernel_rfl) (by kernel_rfl) (by kernel_rfl) (fun _ _ _ h => h) (Or.inl ⟨by rfl, ?_⟩) (by assumption) ?_
      rotate_left 1
      · intro w hSw
        (try dsimp only at hSw)
        go_simp
        all_goals (with_reducible rfl)
      try simp only [Act.put, List.getElem_toArray, List.getElem_cons_zero, List.getElem_cons_succ, List.setIfInBounds_toArray, List.set_cons_zero, List.set_cons_succ]
      refine wpAnyH_take (i := 8) (v := ?_) rfl (by kernel_rfl) (by kernel_rfl) (by kernel_rfl) (fun _ _ _ h => h) (Or.inl ⟨by rfl, ?_⟩) (by assumption) ?_
      rotate_left 1
      · intro w hSw
        (try dsimp only at hSw)
        go_simp
        all_goals (with_reducible rfl)
      try simp only [Act.put, List.getElem_toArray, List.getElem_cons_zero, List.getElem_cons_succ, List.setIfInBounds_toArray, List.set_cons_zero, List.set_cons_succ]
      refine wpAnyH_ready (rs := [9]) (by kernel_rfl) (by simp) ?_
      refine AllReadyH.cons rfl (fun K hK => ?_) AllReadyH.nil
      go_simp
      refine hK.out _ _ (BoxD.facts (HX2.out.other (a := ⟨L.p, 2, none⟩) (by show L.p ≠ _; omega) (.slice x2 (turnT d.now ⟨s, t, f⟩).length z2))) (fun hHeld => ?_)
      clear hK K
      try simp only [Act.put, List.getElem_toArray, List.getElem_cons_zero, List.getElem_cons_succ, List.setIfInBounds_toArray, List.set_cons_zero, List.set_cons_succ]
      refine wpAnyH_done (by kernel_rfl) ?_ _
      go_wp2_with fail
      go_meet
      have hA : At (w2.setCell ⟨L.p, 2, none⟩ (Value.slice x2 (turnT d.now ⟨s, t, f⟩).length z2)) { L with now := (Value.slice x2 (turnT d.now ⟨s, t, f⟩).length z2) } { d with now := turnT d.now ⟨s, t, f⟩ } := ⟨HP2.out.set 2 (Value.slice x2 (turnT d.now ⟨s, t, f⟩).length z2), HN2.out.setDsk 2 (Value.slice x2 (turnT d.now ⟨s, t, f⟩).length z2)⟩
      exact Lib.hid ⟨HX2.out.other (a := ⟨L.p, 2, none⟩) (by show L.p ≠ _; omega) _, _, hA, HK2.out.setCell (p := ⟨L.p, 2, none⟩) (.inl ⟨.dsk, rfl⟩) _, fun k hk => (HV2.out k hk).imp id (fun h => by omega)⟩
    case rest =>
      clear HA1 HX1 HBH HKA HB1 c0 c1 c2 k2 f2 hsz
      obtain ⟨w3, hw3⟩ : ∃ w3, w3 = wc := ⟨_, rfl⟩
      subst hw3
      have HX3 := Lib.hid hcut.out.1
      obtain ⟨v2, hA2, hK2, hV2⟩ := hcut.out.2
      have HA2 := Lib.hid hA2
      have HKB := Lib.hid hK2
      have HVB := Lib.hid hV2
      have hsz : w.heap.size < w3.heap.size := hcut.out.1.lt
      have hp23 : L.p < w3.heap.size := by omega
      have HP3 := Lib.hid (show Blk w3 L.p #[.int .i64 (d.cap : Int), .int .i64 (L.cr : Int), v2, L.las, L.dee, .bool d.armed.isSome, .int .i64 (lft L d)] 82 from hA2.blk)
      clear hcut hA2 hK2 hV2
      have HXN := Lib.hid (show ¬ L.dee.ownBlock = some w.heap.size from fun e => by
        have := H.out.rest.lt .dee _ e
        omega)
      have HXA := Lib.hid (show Blk (w3.drew.alloc (.cells #[.string s, .string t, .pointer q] 100)) w.heap.size #[.string s, .string t, .pointer q] 100 from Blk.alloc (w := w3.drew) HX3.out _)
      have HPA := Lib.hid (show Blk (w3.drew.alloc (.cells #[.string s, .string t, .pointer q] 100)) L.p _ _ from Blk.alloc (w := w3.drew) HP3.out _)
      have HDE := Lib.hid (show (w3.drew.alloc (.cells #[.string s, .string t, .pointer q] 100)).ownsRow 0 100 3 L.dee d.deeds.length (row (ddc L.fb) d.deeds) from World.ownsRow.alloc (w := w3.drew) (show w3.drew.ownsRow _ _ _ _ _ _ from HA2.out.rest.dee) _)
      have HSX := Lib.hid (IsX.lit w3.drew #[.string s, .string t, .pointer q] 100 3 1 rfl (by decide))
      obtain ⟨c0, c1, c2⟩ := BoxD.facts HX3.out
      have k4 := HP3.out.cell 4 rfl
      go_upto_region 3 with fail
      go_cut [28] from 21 to 30 (fun _ wx => Hid (Mid w L d wx { d with now := turnT d.now ⟨s, t, f⟩, deeds := d.deeds ++ [⟨s, t, f⟩] }))
      case first =>
        refine wp_region_held_drew (S := (fun wx => wx.cell? ⟨w.heap.size, 0, none⟩ = some (.string s) ∧ wx.cell? ⟨w.heap.size, 1, none⟩ = some (.string t) ∧ wx.cell? ⟨w.heap.size, 2, none⟩ = some (.pointer q))) (by kernel_rfl) (⟨c0, c1, c2⟩) (fun hHeld => ?_)
        refine wpAnyH_take (i := 0) (v := ?_) rfl (by kernel_rfl) (by kernel_rfl) (by kernel_rfl) (fun _ _ _ h => h) (Or.inl ⟨by rfl, ?_⟩) (by assumption) ?_
        rotate_left 1
        · intro w hSw
          (try dsimp only at hSw)
          go_simp
          all_goals (with_reducible rfl)
        try simp only [Act.put, List.getElem_toArray, List.getElem_cons_zero, List.getElem_cons_succ, List.setIfInBounds_toArray, List.set_cons_zero, List.set_cons_succ]
        refine wpAnyH_take (i := 1) (v := ?_) rfl (by kernel_rfl) (by kernel_rfl) (by kernel_rfl) (fun _ _ _ h => h) (Or.inl ⟨by rfl, ?_⟩) (by assumption) ?_
        rotate_left 1
        · intro w hSw
          (try dsimp only at hSw)
          go_simp
          all_goals (with_reducible rfl)
        try simp only [Act.put, List.getElem_toArray, List.getElem_cons_zero, List.getElem_cons_succ, List.setIfInBounds_toArray, List.set_cons_zero, List.set_cons_succ]
        refine wpAnyH_take (i := 2) (v := ?_) rfl (by kernel_rfl) (by kernel_rfl) (by kernel_rfl) (fun _ _ _ h => h) (Or.inl ⟨by rfl, ?_⟩) (by assumption) ?_
        rotate_left 1
        · intro w hSw
          (try dsimp only at hSw)
          go_simp
          all_goals (with_reducible rfl)
        try simp only [Act.put, List.getElem_toArray, List.getElem_cons_zero, List.getElem_cons_succ, List.setIfInBounds_toArray, List.set_cons_zero, List.set_cons_succ]
        refine wpAnyH_take (i := 3) (v := ?_) rfl (by kernel_rfl) (by kernel_rfl) (by kernel_rfl) (fun _ _ _ h => h) (Or.inl ⟨by rfl, ?_⟩) (by assumption) ?_
        rotate_left 1
        · intro w hSw
          (try dsimp only at hSw)
          go_simp
          all_goals (with_reducible rfl)
        try simp only [Act.put, List.getElem_toArray, List.getElem_cons_zero, List.getElem_cons_succ, List.setIfInBounds_toArray, List.set_cons_zero, List.set_cons_succ]
        refine wpAnyH_take (i := 5) (v := ?_) rfl (by kernel_rfl) (by kernel_rfl) (by kernel_rfl) (fun _ _ _ h => h) (Or.inl ⟨by rfl, ?_⟩) (by assumption) ?_
        rotate_left 1
        · intro w hSw
          (try dsimp only at hSw)
          go_simp
          all_goals (with_reducible rfl)
        try simp only [Act.put, List.getElem_toArray, List.getElem_cons_zero, List.getElem_cons_succ, List.setIfInBounds_toArray, List.set_cons_zero, List.set_cons_succ]
        refine wpAnyH_ready (rs := [4, 6]) (by kernel_rfl) (by simp) ?_
        refine AllReadyH.cons rfl (fun K hK => ?_) ?_
        · go_simp
          refine hK.out _ _ ((by first | exact ⟨c0, c1, c2⟩ | exact BoxD.facts HXA.out)) (fun hHeld => ?_)
          clear hK K
          try simp only [Act.put, List.getElem_toArray, List.getElem_cons_zero, List.getElem_cons_succ, List.setIfInBounds_toArray, List.set_cons_zero, List.set_cons_succ]
          refine wpAnyH_ready (rs := [6]) (by kernel_rfl) (by simp) ?_
          refine AllReadyH.cons rfl (fun K hK => ?_) AllReadyH.nil
          go_simp
          refine hK.out _ _ ((by first | exact ⟨c0, c1, c2⟩ | exact BoxD.facts HXA.out)) (fun hHeld => ?_)
          clear hK K
          try simp only [Act.put, List.getElem_toArray, List.getElem_cons_zero, List.getElem_cons_succ, List.setIfInBounds_toArray, List.set_cons_zero, List.set_cons_succ]
          refine wpAnyH_ready (rs := [7]) (by kernel_rfl) (by simp) ?_
          refine AllReadyH.cons rfl (fun K hK => ?_) AllReadyH.nil
          refine step_append_X (by rfl) _ _ 80 rfl 0 100 i0 _ 3 40 Try.underlying80 HI.out HZ0.out HZ1.out HZ2.out rfl (by decide) _ _ _ rfl HDE.out _ 1 _ rfl HSX.out (by intro u hu; simp only [List.mem_cons, List.not_mem_nil, or_false] at hu; rcases hu with rfl | rfl | rfl <;> rfl) (by unfold maxLen; omega) (by omega) (Nat.zero_le _) ?_
          intro v4 w4 hown4 hgr4 hat4
          obtain ⟨x4, z4, rfl, hz4a, hz4b⟩ := ownsRow_slice hown4
          have HP4 := Lib.hid (HPA.out.grown (w' := w4) hgr4 (fun e => by cases HA2.out.rest.apt .dsk .dee L.p rfl e))
          have HX4 := Lib.hid (HXA.out.grown (w' := w4) hgr4 (fun e => by exact HXN.out e))
          have g4 := HP4.out.free 4
          have m4 := HP4.out.cell 4 rfl
          have HG4 := Lib.hid hgr4
          have HO4 := Lib.hid hown4
          have HT4 := Lib.hid hat4
          clear hown4 hgr4 hat4 k4
          
          refine hK.out _ _ (BoxD.facts HX4.out) (fun hHeld => ?_)
          clear hK K
          try simp only [Act.put, List.getElem_toArray, List.getElem_cons_zero, List.getElem_cons_succ, List.setIfInBounds_toArray, List.set_cons_zero, List.set_cons_succ]
          refine wpAnyH_take (i := 8) (v := ?_) rfl (by kernel_rfl) (by kernel_rfl) (by kernel_rfl) (fun _ _ _ h => h) (Or.inl ⟨by rfl, ?_⟩) (by assumption) ?_
          rotate_left 1
          · intro w hSw
            (try dsimp only at hSw)
            go_simp
            all_goals (with_reducible rfl)
          try simp only [Act.put, List.getElem_toArray, List.getElem_cons_zero, List.getElem_cons_succ, List.setIfInBounds_toArray, List.set_cons_zero, List.set_cons_succ]
          refine wpAnyH_take (i := 9) (v := ?_) rfl (by kernel_rfl) (by kernel_rfl) (by kernel_rfl) (fun _ _ _ h => h) (Or.inl ⟨by rfl, ?_⟩) (by assumption) ?_
          rotate_left 1
          · intro w hSw
            (try dsimp only at hSw)
            go_simp
            all_goals (with_reducible rfl)
          try simp only [Act.put, List.getElem_toArray, List.getElem_cons_zero, List.getElem_cons_succ, List.setIfInBounds_toArray, List.set_cons_zero, List.set_cons_succ]
          refine wpAnyH_ready (rs := [10]) (by kernel_rfl) (by simp) ?_
          refine AllReadyH.cons rfl (fun K hK => ?_) AllReadyH.nil
          go_simp
          refine hK.out _ _ (BoxD.facts (HX4.out.other (a := ⟨L.p, 4, none⟩) (by show L.p ≠ _; omega) (.slice x4 (d.deeds.length + 1) z4))) (fun hHeld => ?_)
          clear hK K
          try simp only [Act.put, List.getElem_toArray, List.getElem_cons_zero, List.getElem_cons_succ, List.setIfInBounds_toArray, List.set_cons_zero, List.set_cons_succ]
          refine wpAnyH_done (by kernel_rfl) ?_ _
          go_wp2_with fail
          go_meet
          exact Lib.hid (mid_dee HQ.out HA2.out HKB.out HVB.out HP4.out HO4.out HG4.out HT4.out)
        refine AllReadyH.cons rfl (fun K hK => ?_) AllReadyH.nil
        go_simp
        refine hK.out _ _ ((by first | exact ⟨c0, c1, c2⟩ | exact BoxD.facts HXA.out)) (fun hHeld => ?_)
        clear hK K
        try simp only [Act.put, List.getElem_toArray, List.getElem_cons_zero, List.getElem_cons_succ, List.setIfInBounds_toArray, List.set_cons_zero, List.set_cons_succ]
        refine wpAnyH_ready (rs := [4]) (by kernel_rfl) (by simp) ?_
        refine AllReadyH.cons rfl (fun K hK => ?_) AllReadyH.nil
        go_simp
        refine hK.out _ _ ((by first | exact ⟨c0, c1, c2⟩ | exact BoxD.facts HXA.out)) (fun hHeld => ?_)
        clear hK K
        try simp only [Act.put, List.getElem_toArray, List.getElem_cons_zero, List.getElem_cons_succ, List.setIfInBounds_toArray, List.set_cons_zero, List.set_cons_succ]
        refine wpAnyH_ready (rs := [7]) (by kernel_rfl) (by simp) ?_
        refine AllReadyH.cons rfl (fun K hK => ?_) AllReadyH.nil
        refine step_append_X (by rfl) _ _ 80 rfl 0 100 i0 _ 3 40 Try.underlying80 HI.out HZ0.out HZ1.out HZ2.out rfl (by decide) _ _ _ rfl HDE.out _ 1 _ rfl HSX.out (by intro u hu; simp only [List.mem_cons, List.not_mem_nil, or_false] at hu; rcases hu with rfl | rfl | rfl <;> rfl) (by unfold maxLen; omega) (by omega) (Nat.zero_le _) ?_
        intro v4 w4 hown4 hgr4 hat4
        obtain ⟨x4, z4, rfl, hz4a, hz4b⟩ := ownsRow_slice hown4
        have HP4 := Lib.hid (HPA.out.grown (w' := w4) hgr4 (fun e => by cases HA2.out.rest.apt .dsk .dee L.p rfl e))
        have HX4 := Lib.hid (HXA.out.grown (w' := w4) hgr4 (fun e => by exact HXN.out e))
        have g4 := HP4.out.free 4
        have m4 := HP4.out.cell 4 rfl
        have HG4 := Lib.hid hgr4
        have HO4 := Lib.hid hown4
        have HT4 := Lib.hid hat4
        clear hown4 hgr4 hat4 k4
        
        refine hK.out _ _ (BoxD.facts HX4.out) (fun hHeld => ?_)
        clear hK K
        try simp only [Act.put, List.getElem_toArray, List.getElem_cons_zero, List.getElem_cons_succ, List.setIfInBounds_toArray, List.set_cons_zero, List.set_cons_succ]
        refine wpAnyH_take (i := 8) (v := ?_) rfl (by kernel_rfl) (by kernel_rfl) (by kernel_rfl) (fun _ _ _ h => h) (Or.inl ⟨by rfl, ?_⟩) (by assumption) ?_
        rotate_left 1
        · intro w hSw
          (try dsimp only at hSw)
          go_simp
          all_goals (with_reducible rfl)
        try simp only [Act.put, List.getElem_toArray, List.getElem_cons_zero, List.getElem_cons_succ, List.setIfInBounds_toArray, List.set_cons_zero, List.set_cons_succ]
        refine wpAnyH_take (i := 9) (v := ?_) rfl (by kernel_rfl) (by kernel_rfl) (by kernel_rfl) (fun _ _ _ h => h) (Or.inl ⟨by rfl, ?_⟩) (by assumption) ?_
        rotate_left 1
        · intro w hSw
          (try dsimp only at hSw)
          go_simp
          all_goals (with_reducible rfl)
        try simp only [Act.put, List.getElem_toArray, List.getElem_cons_zero, List.getElem_cons_succ, List.setIfInBounds_toArray, List.set_cons_zero, List.set_cons_succ]
        refine wpAnyH_ready (rs := [10]) (by kernel_rfl) (by simp) ?_
        refine AllReadyH.cons rfl (fun K hK => ?_) AllReadyH.nil
        go_simp
        refine hK.out _ _ (BoxD.facts (HX4.out.other (a := ⟨L.p, 4, none⟩) (by show L.p ≠ _; omega) (.slice x4 (d.deeds.length + 1) z4))) (fun hHeld => ?_)
        clear hK K
        try simp only [Act.put, List.getElem_toArray, List.getElem_cons_zero, List.getElem_cons_succ, List.setIfInBounds_toArray, List.set_cons_zero, List.set_cons_succ]
        refine wpAnyH_done (by kernel_rfl) ?_ _
        go_wp2_with fail
        go_meet
        exact Lib.hid (mid_dee HQ.out HA2.out HKB.out HVB.out HP4.out HO4.out HG4.out HT4.out)
      case rest =>
        obtain ⟨w5, hw5⟩ : ∃ w5, w5 = wc := ⟨_, rfl⟩
        subst hw5
        obtain ⟨L5, e1, e2, e3, e4, hA5, hK5, hO5⟩ := hcut.out
        have HA5 := Lib.hid hA5
        have HE := Lib.hid (show L5.p = L.p ∧ L5.fb = L.fb ∧ L5.fv = L.fv ∧ L5.cr = L.cr from ⟨e1, e2, e3, e4⟩)
        have HK5 := Lib.hid hK5
        have HO5 := Lib.hid hO5
        rw [← e1]
        clear hcut hA5 hK5 hO5 e1 e2 e3 e4 c0 c1 c2 k4 HXA HPA HDE HSX HP3 HA2 HX3
        go_wp2_with fail
        refine (done_any _ L5 _ HA5.out HD.out ha).mono ?_
        rintro e w6 ⟨rfl, hA6, hK6⟩
        have HF := Lib.hid (show Mid w L d w6 (d.nameD ⟨s, t, f⟩) from ⟨L5, HE.out.1, HE.out.2.1, HE.out.2.2.1, HE.out.2.2.2, hA6, HK5.out.trans hK6 (fun j hj hlt => by
          rcases HO5.out .dsk j hj with h | h
          · exact ⟨.dsk, h⟩
          · omega), HO5.out⟩)
        clear hA6 hK6
        go_wp2
        go_end0
        exact ⟨rfl, HF.out⟩

end Go.Proofs.Ytnofabeajcdddaa
