/- Package disk: Create, Names: by contracts. -/
import Derived.Test.YtnofabeajcdddaaOps3
namespace Go.Proofs.Ytnofabeajcdddaa
open Go.RowKit Go.Cor

theorem row_congr {α : Type} {f g : α → List Value} {l : List α} (h : ∀ x ∈ l, f x = g x) : row f l = row g l := by
  induction l with
  | nil => rfl
  | cons x r ih => rw [row_cons, row_cons, h x (List.mem_cons_self ..), ih (fun y hy => h y (List.mem_cons_of_mem _ hy))]
/-- One file more. -/
def Lay.addF (L : Lay) (n g : Nat) : Lay := { L with fb := fun j => if j = n then g else L.fb j, fv := fun j => if j = n then .slice none 0 0 else L.fv j }
theorem addF_ne {L : Lay} {n g j : Nat} (h : j ≠ n) : (L.addF n g).fb j = L.fb j := if_neg h
theorem addF_eq {L : Lay} {n g j : Nat} (h : j = n) : (L.addF n g).fb j = g := if_pos h
theorem fat_add (fs : List Fil) (f : Fil) (j : Nat) : fat (fs ++ [f]) j = if j < fs.length then fat fs j else if j = fs.length then f else ⟨[], 0⟩ := by
  unfold fat
  rw [List.getD_eq_getElem?_getD, List.getD_eq_getElem?_getD]
  by_cases h : j < fs.length
  · rw [if_pos h, List.getElem?_append_left h]
  · rw [if_neg h, List.getElem?_append_right (by omega)]
    by_cases h2 : j = fs.length
    · rw [if_pos h2, h2]
      simp
    · rw [if_neg h2, List.getElem?_eq_none (by simp; omega)]
      rfl
theorem addF_own {w : World} {L : Lay} {d : Dsk} (h : Rest w L d) (g : Nat) : ∀ t b, (L.addF d.files.length g).own (d.files.length + 1) t = some b → L.own d.files.length t = some b ∨ (t = .box d.files.length ∧ b = g) := by
  intro t b hb
  cases t with
  | dsk => exact .inl hb
  | now => exact .inl hb
  | las => exact .inl hb
  | dee => exact .inl hb
  | box j =>
    simp only [Lay.own, Lay.addF] at hb ⊢
    by_cases e : j = d.files.length
    · subst e
      rw [if_pos (Nat.lt_succ_self _), if_pos rfl] at hb
      cases hb
      exact .inr ⟨rfl, rfl⟩
    · by_cases hj : j < d.files.length
      · rw [if_pos (by omega), if_neg e] at hb
        rw [if_pos hj]
        exact .inl hb
      · rw [if_neg (by omega)] at hb
        cases hb
  | byt j =>
    simp only [Lay.own, Lay.addF] at hb ⊢
    by_cases e : j = d.files.length
    · subst e
      rw [if_pos (Nat.lt_succ_self _), if_pos rfl] at hb
      cases hb
    · by_cases hj : j < d.files.length
      · rw [if_pos (by omega), if_neg e] at hb
        rw [if_pos hj]
        exact .inl hb
      · rw [if_neg (by omega)] at hb
        cases hb
theorem addF_same {L : Lay} {n g : Nat} : ∀ t, t ≠ .box n → (L.addF n g).own (n + 1) t = L.own n t := by
  intro t ht
  cases t with
  | box j =>
    have e : j ≠ n := fun e => ht (by rw [e])
    simp only [Lay.own, Lay.addF, if_neg e]
    by_cases hj : j < n
    · rw [if_pos hj, if_pos (by omega)]
    · rw [if_neg hj, if_neg (by omega)]
  | byt j =>
    simp only [Lay.own, Lay.addF]
    by_cases e : j = n
    · subst e
      rw [if_pos (Nat.lt_succ_self _), if_pos rfl, if_neg (Nat.lt_irrefl _)]
      rfl
    · rw [if_neg e]
      by_cases hj : j < n
      · rw [if_pos hj, if_pos (by omega)]
      · rw [if_neg hj, if_neg (by omega)]
  | _ => rfl
theorem Rest.addFil {w w' : World} {L : Lay} {d : Dsk} {k g : Nat} (h : Rest w L d) (ok : d.Ok k) (hg : w.heap.size ≤ g) (hb : Blk w' g #[.int .i64 (d.files.length : Int), .slice none 0 0, .int .i64 0] 93) (hbel : Below w.heap.size w w') :
    Rest w' (L.addF d.files.length g) { d with files := d.files ++ [⟨[], 0⟩] } where
  now := by
    have := ownsRow_below h.now hbel (Nat.le_refl _)
    rw [row_congr (g := ent (L.addF d.files.length g).fb) (fun e he => by unfold ent; rw [addF_ne (by have := (ok.nowF e he).1; omega)])] at this
    exact this
  las := by
    have := ownsRow_below h.las hbel (Nat.le_refl _)
    rw [row_congr (g := ent (L.addF d.files.length g).fb) (fun e he => by unfold ent; rw [addF_ne (by have := (ok.lasF e he).1; omega)])] at this
    exact this
  dee := by
    have := ownsRow_below h.dee hbel (Nat.le_refl _)
    rw [row_congr (g := ddc (L.addF d.files.length g).fb) (fun x hx => by
      unfold ddc dptr
      by_cases hd : x.dst = noName
      · rw [if_pos hd, if_pos hd]
      · rw [if_neg hd, if_neg hd]
        rcases (ok.deeF x hx).1 with h1 | h1
        · exact absurd h1 hd
        · rw [addF_ne (by have := h1.2; omega)])] at this
    exact this
  box j hj := by
    have hf := fat_add d.files ⟨[], 0⟩ j
    rw [List.length_append] at hj
    simp only [List.length_cons, List.length_nil] at hj
    show Blk w' ((L.addF d.files.length g).fb j) #[_, (L.addF d.files.length g).fv j, .int .i64 ((fat (d.files ++ [⟨[], 0⟩]) j).lasts : Int)] _
    rw [hf]
    by_cases e : j = d.files.length
    · subst e
      rw [if_neg (Nat.lt_irrefl _), if_pos rfl]
      simp only [Lay.addF, if_true]
      exact hb
    · rw [if_pos (by omega)]
      simp only [Lay.addF, if_neg e]
      exact (h.box j (by omega)).below hbel (h.box j (by omega)).lt
  byt j hj := by
    have hf := fat_add d.files ⟨[], 0⟩ j
    rw [List.length_append] at hj
    simp only [List.length_cons, List.length_nil] at hj
    show w'.ownsRow 0 _ 1 ((L.addF d.files.length g).fv j) (fat (d.files ++ [⟨[], 0⟩]) j).b.length (bvs (fat (d.files ++ [⟨[], 0⟩]) j).b)
    rw [hf]
    by_cases e : j = d.files.length
    · subst e
      rw [if_neg (Nat.lt_irrefl _), if_pos rfl]
      simp only [Lay.addF, if_true]
      exact World.ownsRow_nil _ _ _ _
    · rw [if_pos (by omega)]
      simp only [Lay.addF, if_neg e]
      exact ownsRow_below (h.byt j (by omega)) hbel (Nat.le_refl _)
  apt := by
    have hl : (d.files ++ [(⟨[], 0⟩ : Fil)]).length = d.files.length + 1 := by simp
    show Apt ((L.addF d.files.length g).own (d.files ++ [(⟨[], 0⟩ : Fil)]).length)
    rw [hl]
    refine h.apt.upd (.box d.files.length) w.heap.size h.lt (fun b hb' => ?_) addF_same
    rcases addF_own h g _ b hb' with h1 | h1
    · exact .inl h1
    · rw [h1.2]; exact .inr hg
  plt := Nat.lt_of_lt_of_le h.plt hbel.size

theorem fin_create {w w3 w4 : World} {L L' : Lay} {d d' : Dsk} {g : Nat} (hb : Below w.heap.size w w3) (hr : Rest w L d) (hg : w.heap.size ≤ g) (hl : d'.files.length = d.files.length + 1) (hp : L'.p = L.p) (hcr : L'.cr = d.files.length) (hA : At w4 L' d')
    (hK : Kept (fun k => ∃ t, (L.addF d.files.length g).own (d.files.length + 1) t = some k) w3 w4) (hO : ∀ t b, L'.own d'.files.length t = some b → (L.addF d.files.length g).own (d.files.length + 1) t = some b ∨ w3.heap.size ≤ b) :
    Fin' w L d (w4.setCell ⟨L.p, 1, none⟩ (.int .i64 ((d.files.length : Int) + 1))) d' := by
  have hb' : Blk (w4.setCell ⟨L.p, 1, none⟩ (.int .i64 ((d.files.length : Int) + 1))) L'.p (dcells { L' with cr := d.files.length + 1 } d') 82 := by
    have := hA.blk.set 1 (.int .i64 ((d.files.length : Int) + 1))
    rw [hp] at this
    rw [hp]
    exact this
  have hr' : Rest (w4.setCell ⟨L.p, 1, none⟩ (.int .i64 ((d.files.length : Int) + 1))) L' d' := by
    have := hA.rest.setDsk 1 (.int .i64 ((d.files.length : Int) + 1))
    rw [hp] at this
    exact this
  refine ⟨{ L' with cr := d.files.length + 1 }, hp, hl.symm, ⟨hb', ⟨hr'.now, hr'.las, hr'.dee, hr'.box, hr'.byt, hr'.apt, hr'.plt⟩⟩, ?_, fun t b ht => ?_⟩
  · refine ((Kept.of_below (S := fun k => ∃ t, L.own d.files.length t = some k) hb (Nat.le_refl _)).trans hK (fun j hj hlt => ?_)).setCell (p := ⟨L.p, 1, none⟩) (.inl ⟨.dsk, rfl⟩) _
    obtain ⟨t, ht⟩ := hj
    rcases addF_own hr g t j ht with h1 | h1
    · exact ⟨t, h1⟩
    · omega
  · rcases hO t b ht with h1 | h1
    · rcases addF_own hr g t b h1 with h2 | h2
      · exact .inl ⟨t, h2⟩
      · rw [h2.2]; exact .inr hg
    · exact .inr (Nat.le_trans hb.size h1)

set_option maxRecDepth 100000 in
set_option maxHeartbeats 2000000 in
theorem create_any (w : World) (L : Lay) (d : Dsk) (k : Nat) (n : ByteArray) (h : Ready w L d k) (hsz : n.size ≤ 281474976710656) :
    Calls Try.prog 18 #[.pointer (some ⟨L.p, 0, none⟩), .string n] w fun e w' => e = .returned (cerr (d.create n).2) ∧ Fin' w L d w' (d.create n).1 := by
  have H := Lib.hid h
  have hln := h.now_len
  cases hd : isDown d.armed with
  | true =>
    rw [show d.create n = (d, 12) from by unfold Dsk.create; rw [if_pos (isDown_true hd)]]
    have HD := Lib.hid hd
    clear h hd
    go_enter Try.func18, Try.ntmps18
    go_wp2_with fail
    refine (up_any _ L d H.out.at'.blk).mono ?_
    rintro e w' ⟨rfl, rfl⟩
    rw [HD.out, if_pos rfl]
    go_wp2
    go_ret
    exact ⟨rfl, Fin'.same H.out.at' H.out.cr (Below.refl _ _)⟩
  | false =>
    have hst : d.create n = if isNm n = false then (d, 1) else if (tfind d.now n).isSome = true then (d, 8) else if 64 ≤ d.now.length then (d, 11)
      else (({ d with files := d.files ++ [⟨[], 0⟩] } : Dsk).nameD ⟨noName, n, d.files.length⟩, 0) := by unfold Dsk.create; rw [if_neg (isDown_false hd)]
    rw [hst]
    have HD := Lib.hid hd
    clear h hd hst
    cases hn : isNm n with
    | false =>
      rw [if_pos rfl]
      have HNM := Lib.hid hn
      clear hn
      go_enter Try.func18, Try.ntmps18
      go_wp2_with fail
      refine (up_any _ L d H.out.at'.blk).mono ?_
      rintro e w' ⟨rfl, rfl⟩
      rw [HD.out, if_neg (by decide)]
      go_wp2_with fail
      refine (isName_any n _ (by omega)).mono ?_
      rintro e w' ⟨rfl, rfl⟩
      rw [HNM.out]
      go_wp2
      go_ret
      exact ⟨rfl, Fin'.same H.out.at' H.out.cr (Below.refl _ _)⟩
    | true =>
      rw [if_neg (by decide)]
      have HNM := Lib.hid hn
      clear hn
      cases hf : (tfind d.now n).isSome with
      | true =>
        rw [if_pos rfl]
        have HF := Lib.hid hf
        clear hf
        obtain ⟨_, _, c2, _, _, _, _⟩ := box_facts H.out.at'.blk
        go_enter Try.func18, Try.ntmps18
        go_wp2_with fail
        refine (up_any _ L d H.out.at'.blk).mono ?_
        rintro e w' ⟨rfl, rfl⟩
        rw [HD.out, if_neg (by decide)]
        go_wp2_with fail
        refine (isName_any n _ (by omega)).mono ?_
        rintro e w' ⟨rfl, rfl⟩
        rw [HNM.out]
        go_wp2_with fail
        refine (place_any L.fb L.now d.now n _ (IsX.own H.out.at'.rest.now) H.out.ok.nowS (by omega)).mono ?_
        rintro e w1 ⟨rfl, hb⟩
        rw [HF.out]
        have HB := Lib.hid hb
        clear hb c2
        go_wp2
        go_ret
        exact ⟨rfl, Fin'.same H.out.at' H.out.cr HB.out⟩
      | false =>
        rw [if_neg (by decide)]
        have HF := Lib.hid hf
        clear hf
        obtain ⟨N, hN⟩ : ∃ N, d.now.length = N := ⟨_, rfl⟩
        have HN := Lib.hid hN
        rw [hN] at hln ⊢
        clear hN
        by_cases h64 : 64 ≤ N
        · rw [if_pos h64]
          have h64' : (64 : Int) ≤ (N : Int) := by omega
          obtain ⟨_, _, c2, _, _, _, _⟩ := box_facts H.out.at'.blk
          go_enter Try.func18, Try.ntmps18
          go_wp2_with fail
          refine (up_any _ L d H.out.at'.blk).mono ?_
          rintro e w' ⟨rfl, rfl⟩
          rw [HD.out, if_neg (by decide)]
          go_wp2_with fail
          refine (isName_any n _ (by omega)).mono ?_
          rintro e w' ⟨rfl, rfl⟩
          rw [HNM.out]
          go_wp2_with fail
          refine (place_any L.fb L.now d.now n _ (IsX.own H.out.at'.rest.now) H.out.ok.nowS (by rw [HN.out]; omega)).mono ?_
          rintro e w1 ⟨rfl, hb⟩
          rw [HF.out]
          have HB := Lib.hid hb
          clear hb c2
          obtain ⟨_, _, c2, _, _, _, _⟩ := box_facts (H.out.at'.below HB.out (Nat.le_refl _)).blk
          have hlen := fun W => len_X (P := Try.prog) (IsX.own H.out.at'.rest.now) 79 3 _ Try.underlying79 W
          rw [HN.out] at hlen
          go_wp2
          go_ret
          exact ⟨rfl, Fin'.same H.out.at' H.out.cr HB.out⟩
        · rw [if_neg h64]
          have h64' : ¬ (64 : Int) ≤ (N : Int) := by omega
          obtain ⟨_, _, c2, _, _, _, _⟩ := box_facts H.out.at'.blk
          have hfk : d.files.length ≤ 100000 := Nat.le_trans H.out.ok.filN H.out.small
          have hdk := H.out.dee_len
          obtain ⟨F, hF⟩ : ∃ F, d.files.length = F := ⟨_, rfl⟩
          have HFL := Lib.hid hF
          have HCR := Lib.hid (H.out.cr.trans hF)
          rw [hF] at hfk ⊢
          clear hF
          go_enter Try.func18, Try.ntmps18
          go_wp2_with fail
          refine (up_any _ L d H.out.at'.blk).mono ?_
          rintro e w' ⟨rfl, rfl⟩
          rw [HD.out, if_neg (by decide)]
          go_wp2_with fail
          refine (isName_any n _ (by omega)).mono ?_
          rintro e w' ⟨rfl, rfl⟩
          rw [HNM.out]
          go_wp2_with fail
          refine (place_any L.fb L.now d.now n _ (IsX.own H.out.at'.rest.now) H.out.ok.nowS (by rw [HN.out]; omega)).mono ?_
          rintro e w1 ⟨rfl, hb⟩
          rw [HF.out]
          have HB := Lib.hid hb
          have HA1 := Lib.hid (H.out.at'.below hb (Nat.le_refl _))
          clear hb c2
          obtain ⟨_, c1, c2, _, _, _, _⟩ := box_facts HA1.out.blk
          rw [HCR.out] at c1
          have hlen := fun W => len_X (P := Try.prog) (IsX.own H.out.at'.rest.now) 79 3 _ Try.underlying79 W
          rw [HN.out] at hlen
          have HB3 := Lib.hid (HB.out.alloc HB.out.size (.cells #[.int .i64 (F : Int), .slice none 0 0, .int .i64 0] 93))
          have hb1 : Below w1.heap.size w1 (w1.alloc (.cells #[.int .i64 (F : Int), .slice none 0 0, .int .i64 0] 93)) := (Below.refl _ w1).alloc (Nat.le_refl _) _
          have HR3 := Lib.hid (HA1.out.rest.addFil H.out.ok (Nat.le_refl _) (by rw [HFL.out]; exact Blk.new w1 _ _) hb1)
          have HA3 := Lib.hid (show At (w1.alloc (.cells #[.int .i64 (F : Int), .slice none 0 0, .int .i64 0] 93)) (L.addF d.files.length w1.heap.size) { d with files := d.files ++ [⟨[], 0⟩] } from ⟨(HA1.out.blk.below hb1 HA1.out.blk.lt), HR3.out⟩)
          have HQ := Lib.hid (show some (⟨w1.heap.size, 0, none⟩ : Addr) = dptr (L.addF d.files.length w1.heap.size).fb ⟨noName, n, F⟩ from by unfold dptr; rw [if_neg (isNm_ne HNM.out), addF_eq HFL.out.symm])
          clear hb1
          go_wp2_with fail
          refine (name_any _ (L.addF d.files.length w1.heap.size) _ noName n F (some ⟨w1.heap.size, 0, none⟩) HA3.out (by decide) hsz HQ.out HD.out H.out.ok.arm H.out.ok.nowS (by show d.now.length ≤ _; rw [HN.out]; omega) (by show d.deeds.length ≤ _; omega)).mono ?_
          rintro e w4 ⟨rfl, L', e1, e2, e3, e4, hA, hK, hO⟩
          have e1' : L'.p = L.p := e1
          have e4' : L'.cr = F := e4.trans HCR.out
          have hl' : (({ d with files := d.files ++ [⟨[], 0⟩] } : Dsk).nameD ⟨noName, n, F⟩).files.length = d.files.length + 1 := by show (d.files ++ [_]).length = _; simp
          have hl2 : (d.files ++ [(⟨[], 0⟩ : Fil)]).length = d.files.length + 1 := by simp
          rw [show ({ d with files := d.files ++ [⟨[], 0⟩] } : Dsk).files.length = d.files.length + 1 from hl2] at hK hO
          have HE := Lib.hid (fin_create HB3.out H.out.at'.rest HB.out.size hl' e1' (e4'.trans HFL.out.symm) hA hK hO)
          rw [HFL.out] at HE
          have c1' : w4.cell? ⟨L.p, 1, none⟩ = some (.int .i64 (F : Int)) := by
            have := (box_facts hA.blk).2.1
            rw [e1', e4'] at this
            exact this
          have g1' : w4.frozen? ⟨L.p, 1, none⟩ = false := by
            have := hA.blk.free 1
            rw [e1'] at this
            exact this
          clear hA hK hO e1 e2 e3 e4 e1' e4' hl' hl2 c1 c2
          go_wp2
          go_ret
          exact ⟨rfl, HE.out⟩

end Go.Proofs.Ytnofabeajcdddaa
