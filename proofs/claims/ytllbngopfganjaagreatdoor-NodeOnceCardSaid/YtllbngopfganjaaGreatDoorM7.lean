/- Create, Nms, Cr, Dok, Nil, St, Ixp, Vst, Nam, Head, Fs. -/
import Derived.Test.YtllbngopfganjaaGreatDoorM6
import Derived.Test.YtllbngopfganjaaGreatDoorM3
import Derived.Test.YtllbngopfganjaaGreatDoorM1
import Derived.Test.YtllbngopfganjaaGreatDoorM2
set_option linter.unusedVariables false
set_option linter.unusedSimpArgs false

section
namespace Go.Proofs.YtllbngopfganjaaGreatDoor
open Go.RowKit Go.Cor

theorem row_congr {α : Type} {f g : α → List Value} {l : List α} (h : ∀ x ∈ l, f x = g x) : row f l = row g l := by
  induction l with
  | nil => rfl
  | cons x r ih => rw [row_cons, row_cons, h x (List.mem_cons_self ..), ih (fun y hy => h y (List.mem_cons_of_mem _ hy))]
/-- One file more. -/
def Lay.addF (L : Lay) (n g : Nat) : Lay := { L with fb := fun j => if j = n then g else L.fb j, fv := fun j => if j = n then .slice none 0 0 else L.fv j }
theorem addF_ne {L : Lay} {n g j : Nat} (h : j ≠ n) : (L.addF n g).fb j = L.fb j := if_neg h
theorem addF_eq {L : Lay} {n g j : Nat} (h : j = n) : (L.addF n g).fb j = g := if_pos h
theorem fat_add (fs : List Fil) (f : Fil) (j : Nat) : fat (fs ++ [f]) j = if j < fs.length then fat fs j else if j = fs.length then f else ⟨[], 0⟩ := by
  unfold fat
  rw [List.getD_eq_getElem?_getD, List.getD_eq_getElem?_getD]
  by_cases h : j < fs.length
  · rw [if_pos h, List.getElem?_append_left h]
  · rw [if_neg h, List.getElem?_append_right (by omega)]
    by_cases h2 : j = fs.length
    · rw [if_pos h2, h2]
      simp
    · rw [if_neg h2, List.getElem?_eq_none (by simp; omega)]
      rfl
theorem addF_own {w : World} {L : Lay} {d : Dsk} (h : Rest w L d) (g : Nat) : ∀ t b, (L.addF d.files.length g).own (d.files.length + 1) t = some b → L.own d.files.length t = some b ∨ (t = .box d.files.length ∧ b = g) := by
  intro t b hb
  cases t with
  | dsk => exact .inl hb
  | now => exact .inl hb
  | las => exact .inl hb
  | dee => exact .inl hb
  | box j =>
    simp only [Lay.own, Lay.addF] at hb ⊢
    by_cases e : j = d.files.length
    · subst e
      rw [if_pos (Nat.lt_succ_self _), if_pos rfl] at hb
      cases hb
      exact .inr ⟨rfl, rfl⟩
    · by_cases hj : j < d.files.length
      · rw [if_pos (by omega), if_neg e] at hb
        rw [if_pos hj]
        exact .inl hb
      · rw [if_neg (by omega)] at hb
        cases hb
  | byt j =>
    simp only [Lay.own, Lay.addF] at hb ⊢
    by_cases e : j = d.files.length
    · subst e
      rw [if_pos (Nat.lt_succ_self _), if_pos rfl] at hb
      cases hb
    · by_cases hj : j < d.files.length
      · rw [if_pos (by omega), if_neg e] at hb
        rw [if_pos hj]
        exact .inl hb
      · rw [if_neg (by omega)] at hb
        cases hb
theorem addF_same {L : Lay} {n g : Nat} : ∀ t, t ≠ .box n → (L.addF n g).own (n + 1) t = L.own n t := by
  intro t ht
  cases t with
  | box j =>
    have e : j ≠ n := fun e => ht (by rw [e])
    simp only [Lay.own, Lay.addF, if_neg e]
    by_cases hj : j < n
    · rw [if_pos hj, if_pos (by omega)]
    · rw [if_neg hj, if_neg (by omega)]
  | byt j =>
    simp only [Lay.own, Lay.addF]
    by_cases e : j = n
    · subst e
      rw [if_pos (Nat.lt_succ_self _), if_pos rfl, if_neg (Nat.lt_irrefl _)]
      rfl
    · rw [if_neg e]
      by_cases hj : j < n
      · rw [if_pos hj, if_pos (by omega)]
      · rw [if_neg hj, if_neg (by omega)]
  | _ => rfl
theorem Rest.addFil {w w' : World} {L : Lay} {d : Dsk} {k g : Nat} (h : Rest w L d) (ok : d.Ok k) (hg : w.heap.size ≤ g) (hb : Blk w' g #[.int .i64 (d.files.length : Int), .slice none 0 0, .int .i64 0] 172) (hbel : Below w.heap.size w w') :
    Rest w' (L.addF d.files.length g) { d with files := d.files ++ [⟨[], 0⟩] } where
  now := by
    have := ownsRow_below h.now hbel (Nat.le_refl _)
    rw [row_congr (g := ent (L.addF d.files.length g).fb) (fun e he => by unfold ent; rw [addF_ne (by have := (ok.nowF e he).1; omega)])] at this
    exact this
  las := by
    have := ownsRow_below h.las hbel (Nat.le_refl _)
    rw [row_congr (g := ent (L.addF d.files.length g).fb) (fun e he => by unfold ent; rw [addF_ne (by have := (ok.lasF e he).1; omega)])] at this
    exact this
  dee := by
    have := ownsRow_below h.dee hbel (Nat.le_refl _)
    rw [row_congr (g := ddc (L.addF d.files.length g).fb) (fun x hx => by
      unfold ddc dptr
      by_cases hd : x.dst = noName
      · rw [if_pos hd, if_pos hd]
      · rw [if_neg hd, if_neg hd]
        rcases (ok.deeF x hx).1 with h1 | h1
        · exact absurd h1 hd
        · rw [addF_ne (by have := h1.2; omega)])] at this
    exact this
  box j hj := by
    have hf := fat_add d.files ⟨[], 0⟩ j
    rw [List.length_append] at hj
    simp only [List.length_cons, List.length_nil] at hj
    show Blk w' ((L.addF d.files.length g).fb j) #[_, (L.addF d.files.length g).fv j, .int .i64 ((fat (d.files ++ [⟨[], 0⟩]) j).lasts : Int)] _
    rw [hf]
    by_cases e : j = d.files.length
    · subst e
      rw [if_neg (Nat.lt_irrefl _), if_pos rfl]
      simp only [Lay.addF, if_true]
      exact hb
    · rw [if_pos (by omega)]
      simp only [Lay.addF, if_neg e]
      exact (h.box j (by omega)).below hbel (h.box j (by omega)).lt
  byt j hj := by
    have hf := fat_add d.files ⟨[], 0⟩ j
    rw [List.length_append] at hj
    simp only [List.length_cons, List.length_nil] at hj
    show w'.ownsRow 0 _ 1 ((L.addF d.files.length g).fv j) (fat (d.files ++ [⟨[], 0⟩]) j).b.length (bvs (fat (d.files ++ [⟨[], 0⟩]) j).b)
    rw [hf]
    by_cases e : j = d.files.length
    · subst e
      rw [if_neg (Nat.lt_irrefl _), if_pos rfl]
      simp only [Lay.addF, if_true]
      exact World.ownsRow_nil _ _ _ _
    · rw [if_pos (by omega)]
      simp only [Lay.addF, if_neg e]
      exact ownsRow_below (h.byt j (by omega)) hbel (Nat.le_refl _)
  apt := by
    have hl : (d.files ++ [(⟨[], 0⟩ : Fil)]).length = d.files.length + 1 := by simp
    show Apt ((L.addF d.files.length g).own (d.files ++ [(⟨[], 0⟩ : Fil)]).length)
    rw [hl]
    refine h.apt.upd (.box d.files.length) w.heap.size h.lt (fun b hb' => ?_) addF_same
    rcases addF_own h g _ b hb' with h1 | h1
    · exact .inl h1
    · rw [h1.2]; exact .inr hg
  plt := Nat.lt_of_lt_of_le h.plt hbel.size

theorem fin_create {w w3 w4 : World} {L L' : Lay} {d d' : Dsk} {g : Nat} (hb : Below w.heap.size w w3) (hr : Rest w L d) (hg : w.heap.size ≤ g) (hl : d'.files.length = d.files.length + 1) (hp : L'.p = L.p) (hcr : L'.cr = d.files.length) (hA : At w4 L' d')
    (hK : Kept (fun k => ∃ t, (L.addF d.files.length g).own (d.files.length + 1) t = some k) w3 w4) (hO : ∀ t b, L'.own d'.files.length t = some b → (L.addF d.files.length g).own (d.files.length + 1) t = some b ∨ w3.heap.size ≤ b) :
    Fin' w L d (w4.setCell ⟨L.p, 1, none⟩ (.int .i64 ((d.files.length : Int) + 1))) d' := by
  have hb' : Blk (w4.setCell ⟨L.p, 1, none⟩ (.int .i64 ((d.files.length : Int) + 1))) L'.p (dcells { L' with cr := d.files.length + 1 } d') 94 := by
    have := hA.blk.set 1 (.int .i64 ((d.files.length : Int) + 1))
    rw [hp] at this
    rw [hp]
    exact this
  have hr' : Rest (w4.setCell ⟨L.p, 1, none⟩ (.int .i64 ((d.files.length : Int) + 1))) L' d' := by
    have := hA.rest.setDsk 1 (.int .i64 ((d.files.length : Int) + 1))
    rw [hp] at this
    exact this
  refine ⟨{ L' with cr := d.files.length + 1 }, hp, hl.symm, ⟨hb', ⟨hr'.now, hr'.las, hr'.dee, hr'.box, hr'.byt, hr'.apt, hr'.plt⟩⟩, ?_, fun t b ht => ?_⟩
  · refine ((Kept.of_below (S := fun k => ∃ t, L.own d.files.length t = some k) hb (Nat.le_refl _)).trans hK (fun j hj hlt => ?_)).setCell (p := ⟨L.p, 1, none⟩) (.inl ⟨.dsk, rfl⟩) _
    obtain ⟨t, ht⟩ := hj
    rcases addF_own hr g t j ht with h1 | h1
    · exact ⟨t, h1⟩
    · omega
  · rcases hO t b ht with h1 | h1
    · rcases addF_own hr g t b h1 with h2 | h2
      · exact .inl ⟨t, h2⟩
      · rw [h2.2]; exact .inr hg
    · exact .inr (Nat.le_trans hb.size h1)

set_option maxRecDepth 100000 in
set_option maxHeartbeats 2000000 in
theorem create_any (w : World) (L : Lay) (d : Dsk) (k : Nat) (n : ByteArray) (h : Ready w L d k) (hsz : n.size ≤ 281474976710656) :
    Calls Tryz.prog 58 #[.pointer (some ⟨L.p, 0, none⟩), .string n] w fun e w' => e = .returned (cerr (d.create n).2) ∧ Fin' w L d w' (d.create n).1 := by
  have H := Lib.hid h
  have hln := h.now_len
  cases hd : isDown d.armed with
  | true =>
    rw [show d.create n = (d, 12) from by unfold Dsk.create; rw [if_pos (isDown_true hd)]]
    have HD := Lib.hid hd
    clear h hd
    go_enter Tryz.func58, Tryz.ntmps58
    go_wp2_with fail
    refine (up_any _ L d H.out.at'.blk).mono ?_
    rintro e w' ⟨rfl, rfl⟩
    rw [HD.out, if_pos rfl]
    go_wp2
    go_ret
    exact ⟨rfl, Fin'.same H.out.at' H.out.cr (Below.refl _ _)⟩
  | false =>
    have hst : d.create n = if isNm n = false then (d, 1) else if (tfind d.now n).isSome = true then (d, 8) else if 64 ≤ d.now.length then (d, 11)
      else (({ d with files := d.files ++ [⟨[], 0⟩] } : Dsk).nameD ⟨noName, n, d.files.length⟩, 0) := by unfold Dsk.create; rw [if_neg (isDown_false hd)]
    rw [hst]
    have HD := Lib.hid hd
    clear h hd hst
    cases hn : isNm n with
    | false =>
      rw [if_pos rfl]
      have HNM := Lib.hid hn
      clear hn
      go_enter Tryz.func58, Tryz.ntmps58
      go_wp2_with fail
      refine (up_any _ L d H.out.at'.blk).mono ?_
      rintro e w' ⟨rfl, rfl⟩
      rw [HD.out, if_neg (by decide)]
      go_wp2_with fail
      refine (isName_any n _ (by omega)).mono ?_
      rintro e w' ⟨rfl, rfl⟩
      rw [HNM.out]
      go_wp2
      go_ret
      exact ⟨rfl, Fin'.same H.out.at' H.out.cr (Below.refl _ _)⟩
    | true =>
      rw [if_neg (by decide)]
      have HNM := Lib.hid hn
      clear hn
      cases hf : (tfind d.now n).isSome with
      | true =>
        rw [if_pos rfl]
        have HF := Lib.hid hf
        clear hf
        obtain ⟨_, _, c2, _, _, _, _⟩ := box_facts H.out.at'.blk
        go_enter Tryz.func58, Tryz.ntmps58
        go_wp2_with fail
        refine (up_any _ L d H.out.at'.blk).mono ?_
        rintro e w' ⟨rfl, rfl⟩
        rw [HD.out, if_neg (by decide)]
        go_wp2_with fail
        refine (isName_any n _ (by omega)).mono ?_
        rintro e w' ⟨rfl, rfl⟩
        rw [HNM.out]
        go_wp2_with fail
        refine (place_any L.fb L.now d.now n _ (IsX.own H.out.at'.rest.now) H.out.ok.nowS (by omega)).mono ?_
        rintro e w1 ⟨rfl, hb⟩
        rw [HF.out]
        have HB := Lib.hid hb
        clear hb c2
        go_wp2
        go_ret
        exact ⟨rfl, Fin'.same H.out.at' H.out.cr HB.out⟩
      | false =>
        rw [if_neg (by decide)]
        have HF := Lib.hid hf
        clear hf
        obtain ⟨N, hN⟩ : ∃ N, d.now.length = N := ⟨_, rfl⟩
        have HN := Lib.hid hN
        rw [hN] at hln ⊢
        clear hN
        by_cases h64 : 64 ≤ N
        · rw [if_pos h64]
          have h64' : (64 : Int) ≤ (N : Int) := by omega
          obtain ⟨_, _, c2, _, _, _, _⟩ := box_facts H.out.at'.blk
          go_enter Tryz.func58, Tryz.ntmps58
          go_wp2_with fail
          refine (up_any _ L d H.out.at'.blk).mono ?_
          rintro e w' ⟨rfl, rfl⟩
          rw [HD.out, if_neg (by decide)]
          go_wp2_with fail
          refine (isName_any n _ (by omega)).mono ?_
          rintro e w' ⟨rfl, rfl⟩
          rw [HNM.out]
          go_wp2_with fail
          refine (place_any L.fb L.now d.now n _ (IsX.own H.out.at'.rest.now) H.out.ok.nowS (by rw [HN.out]; omega)).mono ?_
          rintro e w1 ⟨rfl, hb⟩
          rw [HF.out]
          have HB := Lib.hid hb
          clear hb c2
          obtain ⟨_, _, c2, _, _, _, _⟩ := box_facts (H.out.at'.below HB.out (Nat.le_refl _)).blk
          have hlen := fun W => len_X (P := Tryz.prog) (IsX.own H.out.at'.rest.now) 91 3 _ Tryz.underlying91 W
          rw [HN.out] at hlen
          go_wp2
          go_ret
          exact ⟨rfl, Fin'.same H.out.at' H.out.cr HB.out⟩
        · rw [if_neg h64]
          have h64' : ¬ (64 : Int) ≤ (N : Int) := by omega
          obtain ⟨_, _, c2, _, _, _, _⟩ := box_facts H.out.at'.blk
          have hfk : d.files.length ≤ 100000 := Nat.le_trans H.out.ok.filN H.out.small
          have hdk := H.out.dee_len
          obtain ⟨F, hF⟩ : ∃ F, d.files.length = F := ⟨_, rfl⟩
          have HFL := Lib.hid hF
          have HCR := Lib.hid (H.out.cr.trans hF)
          rw [hF] at hfk ⊢
          clear hF
          go_enter Tryz.func58, Tryz.ntmps58
          go_wp2_with fail
          refine (up_any _ L d H.out.at'.blk).mono ?_
          rintro e w' ⟨rfl, rfl⟩
          rw [HD.out, if_neg (by decide)]
          go_wp2_with fail
          refine (isName_any n _ (by omega)).mono ?_
          rintro e w' ⟨rfl, rfl⟩
          rw [HNM.out]
          go_wp2_with fail
          refine (place_any L.fb L.now d.now n _ (IsX.own H.out.at'.rest.now) H.out.ok.nowS (by rw [HN.out]; omega)).mono ?_
          rintro e w1 ⟨rfl, hb⟩
          rw [HF.out]
          have HB := Lib.hid hb
          have HA1 := Lib.hid (H.out.at'.below hb (Nat.le_refl _))
          clear hb c2
          obtain ⟨_, c1, c2, _, _, _, _⟩ := box_facts HA1.out.blk
          rw [HCR.out] at c1
          have hlen := fun W => len_X (P := Tryz.prog) (IsX.own H.out.at'.rest.now) 91 3 _ Tryz.underlying91 W
          rw [HN.out] at hlen
          have HB3 := Lib.hid (HB.out.alloc HB.out.size (.cells #[.int .i64 (F : Int), .slice none 0 0, .int .i64 0] 172))
          have hb1 : Below w1.heap.size w1 (w1.alloc (.cells #[.int .i64 (F : Int), .slice none 0 0, .int .i64 0] 172)) := (Below.refl _ w1).alloc (Nat.le_refl _) _
          have HR3 := Lib.hid (HA1.out.rest.addFil H.out.ok (Nat.le_refl _) (by rw [HFL.out]; exact Blk.new w1 _ _) hb1)
          have HA3 := Lib.hid (show At (w1.alloc (.cells #[.int .i64 (F : Int), .slice none 0 0, .int .i64 0] 172)) (L.addF d.files.length w1.heap.size) { d with files := d.files ++ [⟨[], 0⟩] } from ⟨(HA1.out.blk.below hb1 HA1.out.blk.lt), HR3.out⟩)
          have HQ := Lib.hid (show some (⟨w1.heap.size, 0, none⟩ : Addr) = dptr (L.addF d.files.length w1.heap.size).fb ⟨noName, n, F⟩ from by unfold dptr; rw [if_neg (isNm_ne HNM.out), addF_eq HFL.out.symm])
          clear hb1
          go_wp2_with fail
          refine (name_any _ (L.addF d.files.length w1.heap.size) _ noName n F (some ⟨w1.heap.size, 0, none⟩) HA3.out (by decide) hsz HQ.out HD.out H.out.ok.arm H.out.ok.nowS (by show d.now.length ≤ _; rw [HN.out]; omega) (by show d.deeds.length ≤ _; omega)).mono ?_
          rintro e w4 ⟨rfl, L', e1, e2, e3, e4, hA, hK, hO⟩
          have e1' : L'.p = L.p := e1
          have e4' : L'.cr = F := e4.trans HCR.out
          have hl' : (({ d with files := d.files ++ [⟨[], 0⟩] } : Dsk).nameD ⟨noName, n, F⟩).files.length = d.files.length + 1 := by show (d.files ++ [_]).length = _; simp
          have hl2 : (d.files ++ [(⟨[], 0⟩ : Fil)]).length = d.files.length + 1 := by simp
          rw [show ({ d with files := d.files ++ [⟨[], 0⟩] } : Dsk).files.length = d.files.length + 1 from hl2] at hK hO
          have HE := Lib.hid (fin_create HB3.out H.out.at'.rest HB.out.size hl' e1' (e4'.trans HFL.out.symm) hA hK hO)
          rw [HFL.out] at HE
          have c1' : w4.cell? ⟨L.p, 1, none⟩ = some (.int .i64 (F : Int)) := by
            have := (box_facts hA.blk).2.1
            rw [e1', e4'] at this
            exact this
          have g1' : w4.frozen? ⟨L.p, 1, none⟩ = false := by
            have := hA.blk.free 1
            rw [e1'] at this
            exact this
          clear hA hK hO e1 e2 e3 e4 e1' e4' hl' hl2 c1 c2
          go_wp2
          go_ret
          exact ⟨rfl, HE.out⟩

end Go.Proofs.YtllbngopfganjaaGreatDoor
end

section
namespace Go.Proofs.YtllbngopfganjaaGreatDoor
open Go.RowKit Go.Cor

theorem Tryz.infoStr : (Tryz.prog.info? 9).map (fun i => (i.zero, i.size, i.bytes)) = some (some (.string ⟨#[]⟩), 1, 16) := by kernel_rfl
theorem Tryz.sizeStr : (Tryz.prog.info? 9).map (·.size) = some 1 := by kernel_rfl
theorem index_lit {P : Program} (g n c : Nat) (T U : TypeId) (size : Nat) (ht : P.underlying T = some (.slice U)) (hs : (P.info? U).map (·.size) = some size) (i : Nat) (hi : i < n) (W : World) :
    (Instr.indexAt T (.slice (some ⟨g, 0, none⟩) n c) (.int .i64 (i : Int))).run P W = .ok (.pointer (some ⟨g, i * size, none⟩)) W := by
  obtain ⟨j, hj1, hj2⟩ := Option.map_eq_some_iff.1 hs
  have ht' : P.underlying T = some (.slice (P.elem T)) := by simp [Program.elem, ht]
  have he : P.elem T = U := by simp [Program.elem, ht]
  have hsz : ∀ W, (sizeOf U).run P W = .ok size W := fun W => by simp [sizeOf, typeInfo, hj1, hj2]
  have h0 : (0 : Int) ≤ (i : Int) := by omega
  have h1 : (i : Int) < (n : Int) := by omega
  go_simp
/-- The names as cells. -/
def nms (l : Tbl) : List Value := l.map fun e => .string e.1
def nmsTo (l : Tbl) (i : Nat) : List Value := nms (l.take i) ++ List.replicate (l.length - i) (.string ⟨#[]⟩)
theorem nmsTo_get (l : Tbl) (i : Nat) (h : i < l.length) : (nmsTo l i)[i]? = some (.string ⟨#[]⟩) := by
  unfold nmsTo nms
  rw [List.getElem?_append_right (by simp; omega), List.getElem?_replicate, if_pos (by simp; omega)]
theorem nmsTo_set (l : Tbl) (i : Nat) {e : ByteArray × Nat} (h : l[i]? = some e) : (nmsTo l i).set i (.string e.1) = nmsTo l (i + 1) := by
  obtain ⟨hi, he⟩ := List.getElem?_eq_some_iff.1 h
  unfold nmsTo nms
  have hl : (List.map (fun e : ByteArray × Nat => Value.string e.1) (l.take i)).length = i := by simp; omega
  rw [List.set_append_right _ _ (by omega), hl, Nat.sub_self, List.take_succ_eq_append_getElem hi, he, List.map_append, show l.length - i = (l.length - (i + 1)) + 1 from by omega, List.replicate_succ, List.set_cons_zero]
  simp
theorem nmsTo_all (l : Tbl) : nmsTo l l.length = nms l := by simp [nmsTo]

set_option maxRecDepth 100000 in
set_option maxHeartbeats 1000000 in
theorem names_any (w : World) (L : Lay) (d : Dsk) (k : Nat) (h : Ready w L d k) :
    Calls Tryz.prog 55 #[.pointer (some ⟨L.p, 0, none⟩)] w fun e w' => ∃ v', e = .returned v' ∧ w'.ownsRow w.heap.size 9 1 v' d.now.length (nms d.now) ∧ Below w.heap.size w w' := by
  have H := Lib.hid h
  obtain ⟨N, hN⟩ : ∃ N, d.now.length = N := ⟨_, rfl⟩
  have hNl := h.now_len
  obtain ⟨_, _, c2, _, _, _, _⟩ := box_facts h.at'.blk
  have hpl := h.at'.blk.lt
  have hlen := fun W => len_X (P := Tryz.prog) (IsX.own h.at'.rest.now) 91 3 _ Tryz.underlying91 W
  rw [hN] at hNl hlen ⊢
  obtain ⟨i0, hi, hz0, hz1, hz2⟩ := info_parts Tryz.infoStr
  obtain ⟨M, hM⟩ : ∃ M, M = madeCells (Value.string ⟨#[]⟩).cells (((N : Nat) : Int).toNat * i0.size) := ⟨_, rfl⟩
  have hMl : M.toList = nmsTo d.now 0 := by
    rw [hM, hz1]
    have : (Value.string ⟨#[]⟩).cells = #[.string ⟨#[]⟩] := rfl
    rw [this, toList_madeCells_one]
    unfold nmsTo nms
    rw [hN]
    simp
  have hmk : ∀ W : World, (Instr.makeSlice 132 (.int .i64 (N : Int)) (.int .i64 (N : Int))).run Tryz.prog W = .ok (.slice (some ⟨W.heap.size, 0, none⟩) N N) (W.alloc (.cells M 9)) := fun W => by
    have h := run_make (P := Tryz.prog) W 132 9 i0 (.string ⟨#[]⟩) Tryz.underlying132 hi hz0 .i64 .i64 (N : Int) (N : Int) (by omega) (by omega) (by rw [hz2]; omega) (by omega)
    rw [← hM] at h
    simpa using h
  have HB0 := Lib.hid (show Blk (w.alloc (.cells M 9)) w.heap.size (nmsTo d.now 0).toArray 9 from by rw [← hMl, Array.toArray_toList]; exact Blk.new w M _)
  have hix := fun (i : Nat) (hi : i < N) (W : World) => index_lit (P := Tryz.prog) w.heap.size N N 132 _ 1 Tryz.underlying132 Tryz.sizeStr i hi W
  have HIX := Lib.hid hix
  have HN := Lib.hid hN
  clear h hN hM hMl hi hz0 hz1 hz2 hix
  go_enter Tryz.func55, Tryz.ntmps55
  go_wp2
  go_loopw [19] (fun c wr => ∃ i : Nat, i ≤ N ∧ c = .int .i64 i ∧ Hid (Blk wr w.heap.size (nmsTo d.now i).toArray 9) ∧ Hid (Below w.heap.size w wr)) (fun c _ => N - (intOf c).toNat)
  case atStart => exact ⟨0, Nat.zero_le _, rfl, HB0, Lib.hid ((Below.refl _ _).alloc (Nat.le_refl _) _)⟩
  case round =>
    obtain ⟨i, hiN, rfl, hX, hB⟩ := hrel
    by_cases hlt : i < N
    · obtain ⟨e, he⟩ : ∃ e, d.now[i]? = some e := ⟨_, List.getElem?_eq_getElem (by rw [HN.out]; omega)⟩
      obtain ⟨b, o, hidx, hob, k0, k1⟩ := indexAt_T (IsX.own (ownsRow_below H.out.at'.rest.now hB.out (Nat.le_refl _))) 91 Tryz.underlying91 he
      have hbl : b < wr.heap.size := cell_lt k0
      have hgl := hX.out.lt
      have k5 := hX.out.cell i (v := .string ⟨#[]⟩) (by rw [List.getElem?_toArray]; exact nmsTo_get d.now i (by rw [HN.out]; exact hlt))
      have g5 := hX.out.free i
      have hidx2 := HIX.out i hlt
      rw [Nat.mul_one] at hidx2
      have HS := Lib.hid (nmsTo_set d.now i he)
      clear he
      go_wp2
      go_roundw
      case rel => exact ⟨i + 1, by omega, by go_num, Lib.hid (by rw [← HS.out]; have := ((hX.out.set i (.string e.1)).alloc (.cells #[.string e.1, .pointer (some ⟨L.fb e.2, 0, none⟩)] 164)); rw [List.setIfInBounds_toArray] at this; exact this), Lib.hid ((hB.out.setCell (p := ⟨w.heap.size, i, none⟩) (Nat.le_refl _) _).alloc (by simp; exact hB.out.size) _)⟩
      case measure => simp [intOf]; omega
    · obtain rfl : i = N := by omega
      go_wp2
      go_ret
      have hX' := hX.out
      rw [show nmsTo d.now i = nms d.now from by rw [← HN.out]; exact nmsTo_all _] at hX'
      exact ⟨_, rfl, ⟨by rw [Nat.mul_one, ← HN.out]; simp [nms], .inr ⟨w.heap.size, i, _, rfl, Nat.le_refl _, hX', Nat.le_refl _, by unfold maxLen; omega, by rw [List.size_toArray, Nat.mul_one, ← HN.out]; simp [nms], by rw [List.toList_toArray, Nat.mul_one]; exact List.take_of_length_le (by rw [← HN.out]; simp [nms])⟩⟩, hB.out⟩

end Go.Proofs.YtllbngopfganjaaGreatDoor
end

section
namespace Go.Proofs.YtllbngopfganjaaGreatDoor
open Go.RowKit Go.Cor

theorem turnT_sorted {l : Tbl} (h : Sorted l) (x : Dd) : Sorted (turnT l x) := by
  unfold turnT
  split
  · exact wout_sorted h _
  · exact wth_sorted (wout_sorted h _) _ _
theorem turnT_len (l : Tbl) (x : Dd) : (turnT l x).length ≤ l.length + 1 := by
  unfold turnT
  split
  · have := wout_length l x.src; omega
  · rw [wth_length]
    have h1 := wout_length (wout l x.src) x.dst
    have h2 := wout_length l x.src
    omega
theorem turnT_mem {l : Tbl} {x : Dd} {e : ByteArray × Nat} (h : e ∈ turnT l x) : e ∈ l ∨ (x.dst ≠ noName ∧ e = (x.dst, x.file)) := by
  unfold turnT at h
  split at h
  · exact .inl ((wout_sublist l x.src).mem h)
  · rename_i hd
    rcases wth_mem h with h1 | h1
    · exact .inr ⟨hd, h1⟩
    · exact .inl ((wout_sublist l x.src).mem h1)
theorem mem_set_or {α : Type} {l : List α} {i : Nat} {a x : α} (h : x ∈ l.set i a) : x ∈ l ∨ x = a := List.mem_or_eq_of_mem_set h
end Go.Proofs.YtllbngopfganjaaGreatDoor
end

section
namespace Go.Proofs.YtllbngopfganjaaGreatDoor
open Go.Cor

theorem isNm_ne' {t : ByteArray} (h : isNm t = true) : t ≠ noName := by rintro rfl; cases h
theorem Ok.more {d : Dsk} {k m : Nat} (h : d.Ok k) (hm : k ≤ m) : d.Ok m := ⟨h.cap, h.nowS, h.lasS, h.nowF, h.lasF, h.deeF, h.fil, Nat.le_trans h.filN hm, h.nowN, Nat.le_trans h.lenN hm, h.arm⟩
theorem Ok.done {d : Dsk} {k : Nat} (h : d.Ok k) : d.done.Ok k := ⟨h.cap, h.nowS, h.lasS, h.nowF, h.lasF, h.deeF, h.fil, h.filN, h.nowN, h.lenN, fun n hn => by
  unfold Dsk.done at hn
  simp only [Option.map_eq_some_iff] at hn
  obtain ⟨a, ha, rfl⟩ := hn
  have := h.arm a ha
  omega⟩
theorem Ok.nameD {d : Dsk} {k : Nat} (h : d.Ok k) {x : Dd} (h1 : x.dst = noName ∨ isNm x.dst = true ∧ x.file < d.files.length) (h2 : x.src = noName ∨ isNm x.src = true) (h3 : x.src = noName → x.dst ≠ noName) : (d.nameD x).Ok (k + 1) := by
  refine Ok.done (d := { d with now := turnT d.now x, deeds := d.deeds ++ [x] }) ⟨h.cap, turnT_sorted h.nowS x, h.lasS, fun e he => ?_, h.lasF, fun y hy => ?_, h.fil, Nat.le_succ_of_le h.filN, ?_, ?_, h.arm⟩
  · rcases turnT_mem he with h4 | ⟨h4, rfl⟩
    · exact h.nowF e h4
    · rcases h1 with h5 | h5
      · exact absurd h5 h4
      · exact ⟨h5.2, h5.1⟩
  · rcases List.mem_append.1 hy with h4 | h4
    · exact h.deeF y h4
    · have e : y = x := by simpa using h4
      subst e
      exact ⟨h1, h2, h3⟩
  · have := turnT_len d.now x
    have := h.nowN
    simp only [List.length_append, List.length_cons, List.length_nil]
    omega
  · have := h.lenN
    simp only [List.length_append, List.length_cons, List.length_nil]
    omega
theorem Ok.setF {d : Dsk} {k j : Nat} {f : Fil} (h : d.Ok k) (hf : f.lasts ≤ f.b.length ∧ f.b.length ≤ 16777216) : (d.setF j f).Ok k := by
  have hl : (d.files.set j f).length = d.files.length := by simp
  refine ⟨h.cap, h.nowS, h.lasS, fun e he => ?_, fun e he => ?_, fun y hy => ?_, fun g hg => ?_, ?_, h.nowN, h.lenN, h.arm⟩
  · have := h.nowF e he; exact ⟨by show _ < (d.files.set j f).length; rw [hl]; exact this.1, this.2⟩
  · have := h.lasF e he; exact ⟨by show _ < (d.files.set j f).length; rw [hl]; exact this.1, this.2⟩
  · have := h.deeF y hy
    refine ⟨this.1.imp id (fun h => ⟨h.1, by show _ < (d.files.set j f).length; rw [hl]; exact h.2⟩), this.2⟩
  · rcases mem_set_or hg with h1 | h1
    · exact h.fil g h1
    · subst h1; exact hf
  · show (d.files.set j f).length ≤ k
    rw [hl]
    exact h.filN
theorem Ok.file {d : Dsk} {k : Nat} (h : d.Ok k) {n : ByteArray} {j : Nat} (hf : tfind d.now n = some j) : j < d.files.length ∧ isNm n = true := h.nowF _ (tfind_mem hf)
theorem Ok.fat {d : Dsk} {k : Nat} (h : d.Ok k) {j : Nat} (hj : j < d.files.length) : (fat d.files j).lasts ≤ (fat d.files j).b.length ∧ (fat d.files j).b.length ≤ 16777216 := h.fil _ (fat_mem hj)
theorem Ok.addF {d : Dsk} {k : Nat} (h : d.Ok k) : ({ d with files := d.files ++ [⟨[], 0⟩] } : Dsk).Ok (k + 1) := by
  have hl : (d.files ++ [(⟨[], 0⟩ : Fil)]).length = d.files.length + 1 := by simp
  refine ⟨h.cap, h.nowS, h.lasS, fun e he => ?_, fun e he => ?_, fun y hy => ?_, fun g hg => ?_, ?_, h.nowN, Nat.le_succ_of_le h.lenN, h.arm⟩
  · have := h.nowF e he; exact ⟨by show _ < (d.files ++ [_]).length; rw [hl]; omega, this.2⟩
  · have := h.lasF e he; exact ⟨by show _ < (d.files ++ [_]).length; rw [hl]; omega, this.2⟩
  · have := h.deeF y hy
    refine ⟨this.1.imp id (fun h => ⟨h.1, by show _ < (d.files ++ [_]).length; rw [hl]; omega⟩), this.2⟩
  · rcases List.mem_append.1 hg with h1 | h1
    · exact h.fil g h1
    · have : g = ⟨[], 0⟩ := by simpa using h1
      subst this
      exact ⟨Nat.le_refl _, Nat.zero_le _⟩
  · show (d.files ++ [_]).length ≤ k + 1
    rw [hl]
    have := h.filN
    omega
theorem Ok.create {d : Dsk} {k : Nat} (h : d.Ok k) (n : ByteArray) : (d.create n).1.Ok (k + 2) := by
  unfold Dsk.create
  split
  · exact Ok.more h (by omega)
  split
  · exact Ok.more h (by omega)
  split
  · exact Ok.more h (by omega)
  split
  · exact Ok.more h (by omega)
  · rename_i hn _ _
    have hn' : isNm n = true := by simpa using hn
    exact Ok.nameD (Ok.addF h) (.inr ⟨hn', by show d.files.length < (d.files ++ [_]).length; simp⟩) (.inl rfl) (fun _ => isNm_ne' hn')
theorem on_ok {d : Dsk} {k : Nat} (h : d.Ok k) (n : ByteArray) (f : Nat → Dsk × Nat) (hf : ∀ j, tfind d.now n = some j → (f j).1.Ok (k + 2)) : (d.on n (fun c => (d, c)) f).1.Ok (k + 2) := by
  unfold Dsk.on
  split
  · exact Ok.more h (by omega)
  · cases he : tfind d.now n with
    | none => exact Ok.more h (by omega)
    | some j => exact hf j he
theorem Ok.append {d : Dsk} {k : Nat} (h : d.Ok k) (n : ByteArray) (b : List UInt8) : (d.append n b).1.Ok (k + 2) := by
  refine on_ok h n _ fun j hj => ?_
  split
  · exact Ok.more h (by omega)
  split
  · exact Ok.more h (by omega)
  · have := Ok.fat h (Ok.file h hj).1
    exact Ok.more (Ok.done (Ok.setF h ⟨by simp only [List.length_append]; omega, by simp only [List.length_append]; omega⟩)) (by omega)
theorem Ok.sync {d : Dsk} {k : Nat} (h : d.Ok k) (n : ByteArray) : (d.sync n).1.Ok (k + 2) := by
  refine on_ok h n _ fun j hj => ?_
  have := Ok.fat h (Ok.file h hj).1
  exact Ok.more (Ok.done (Ok.setF h ⟨Nat.le_refl _, this.2⟩)) (by omega)
theorem Ok.syncNames {d : Dsk} {k : Nat} (h : d.Ok k) : d.syncNames.1.Ok (k + 2) := by
  unfold Dsk.syncNames
  split
  · exact Ok.more h (by omega)
  · refine Ok.more (Ok.done (d := d.syncN) (k := k) ⟨h.cap, h.nowS, h.nowS, h.nowF, h.nowF, (fun x hx => by cases hx), h.fil, h.filN, Nat.le_refl _, ?_, h.arm⟩) (by omega)
    have := h.nowN
    have := h.lenN
    show d.now.length + 0 ≤ k
    omega
theorem Ok.rename {d : Dsk} {k : Nat} (h : d.Ok k) (n t : ByteArray) : (d.rename n t).1.Ok (k + 2) := by
  refine on_ok h n _ fun j hj => ?_
  split
  · exact Ok.more h (by omega)
  · rename_i hn
    have hn' : isNm t = true := by simpa using hn
    have hf := Ok.file h hj
    exact Ok.more (Ok.nameD h (.inr ⟨hn', hf.1⟩) (.inr hf.2) (fun _ => isNm_ne' hn')) (by omega)
theorem Ok.cut {d : Dsk} {k : Nat} (h : d.Ok k) (n : ByteArray) (m : Int) : (d.cut n m).1.Ok (k + 2) := by
  refine on_ok h n _ fun j hj => ?_
  split
  · exact Ok.more h (by omega)
  · have := Ok.fat h (Ok.file h hj).1
    exact Ok.more (Ok.done (Ok.setF h ⟨by simp only [List.length_take]; omega, by simp only [List.length_take]; omega⟩)) (by omega)
theorem Ok.armed {d : Dsk} {k : Nat} (h : d.Ok k) (m : Int) (hm : m ≤ 9223372036854775807) : (d.arm m).1.Ok (k + 2) := by
  unfold Dsk.arm
  split
  · exact Ok.more h (by omega)
  split
  · exact Ok.more h (by omega)
  · exact Ok.more (d := { d with armed := some m.toNat }) (k := k) ⟨h.cap, h.nowS, h.lasS, h.nowF, h.lasF, h.deeF, h.fil, h.filN, h.nowN, h.lenN, fun n hn => by cases hn; omega⟩ (by omega)
end Go.Proofs.YtllbngopfganjaaGreatDoor
end

section
namespace Go.Proofs.YtllbngopfganjaaGreatDoor
open Go.RowKit Go.Cor

theorem find_nil (n : ByteArray) (w : World) : Calls Tryz.prog 82 #[.pointer none, .string n] w fun e w' => e = .returned (.tuple #[.pointer none, ercode 15]) ∧ w = w' := by
  go_enter Tryz.func82, Tryz.ntmps82
  go_wp2_with fail
  refine (up_nil _).mono ?_
  rintro e w' ⟨rfl, rfl⟩
  go_wp2
  go_ret2
  exact ⟨rfl, rfl⟩
theorem append_nil (n : ByteArray) (v : Value) (w : World) : Calls Tryz.prog 59 #[.pointer none, .string n, v] w fun e w' => e = .returned (ercode 15) ∧ w = w' := by
  go_enter Tryz.func59, Tryz.ntmps59
  go_wp2_with fail
  refine (find_nil n _).mono ?_
  rintro e w' ⟨rfl, rfl⟩
  go_wp2
  go_ret
  exact ⟨rfl, rfl⟩
end Go.Proofs.YtllbngopfganjaaGreatDoor
end

section
namespace Go.Proofs.YtllbngopfganjaaGreatDoor
open Go.RowKit Go.Cor

/-- A disk: its box, where it may lie, what it is; k: no more than so many calls. -/
structure Dk (w : World) (p : Nat) (S : Nat → Prop) (d : Dsk) (k : Nat) : Prop where
  is : IsD w p S d
  ok : d.Ok k
  small : k ≤ 90000
  lt : ∀ b, S b → b < w.heap.size
/-- What a call of a disk leaves. -/
def Dt (w w' : World) (p : Nat) (S : Nat → Prop) (d' : Dsk) (k' : Nat) : Prop := ∃ S' : Nat → Prop, Dk w' p S' d' k' ∧ Kept S w w' ∧ ∀ b, S' b → S b ∨ w.heap.size ≤ b
theorem Dk.kept {S T : Nat → Prop} {w w' : World} {p k : Nat} {d : Dsk} (h : Dk w p S d k) (hk : Kept T w w') (hT : ∀ b, S b → ¬ T b) : Dk w' p S d k := ⟨h.is.kept hk hT, h.ok, h.small, fun b hb => Nat.lt_of_lt_of_le (h.lt b hb) hk.size⟩
theorem Dk.below {S : Nat → Prop} {w w' : World} {p k B : Nat} {d : Dsk} (h : Dk w p S d k) (hb : Below B w w') (hB : w.heap.size ≤ B) : Dk w' p S d k := h.kept (Kept.of_below (S := fun _ => False) hb hB) (fun _ _ h => h)
theorem Dt.of {w w' : World} {L : Lay} {S : Nat → Prop} {d d' : Dsk} {k' : Nat} (hS : ∀ t b, L.own d.files.length t = some b → S b) (hf : Fin' w L d w' d') (ok : d'.Ok k') (hs : k' ≤ 90000) : Dt w w' L.p S d' k' := by
  obtain ⟨S', h1, h2, h3⟩ := Turned.of_fin hS hf
  exact ⟨S', ⟨h1, ok, hs, fun b hb => (h3 b hb).2⟩, h2, fun b hb => (h3 b hb).1⟩
theorem create_u (w : World) (p : Nat) (S : Nat → Prop) (d : Dsk) (k : Nat) (n : ByteArray) (h : Dk w p S d k) (hk : k + 2 ≤ 90000) (hn : n.size ≤ 281474976710656) :
    Calls Tryz.prog 58 #[.pointer (some ⟨p, 0, none⟩), .string n] w fun e w' => e = .returned (cerr (d.create n).2) ∧ Dt w w' p S (d.create n).1 (k + 2) := by
  have hok := h.ok
  obtain ⟨⟨L, rfl, hc, hA, hS⟩, _, hs, _⟩ := h
  refine (create_any w L d k n ⟨hA, hc, hok, by omega⟩ hn).mono ?_
  rintro e w' ⟨rfl, hf⟩
  exact ⟨rfl, Dt.of hS hf (Ok.create hok n) hk⟩
theorem append_u (w : World) (p : Nat) (S : Nat → Prop) (d : Dsk) (k : Nat) (n : ByteArray) (v : Value) (l : List UInt8) (h : Dk w p S d k) (hk : k + 2 ≤ 90000) (hv : IsB w v l) (hl : l.length ≤ 16777216) :
    Calls Tryz.prog 59 #[.pointer (some ⟨p, 0, none⟩), .string n, v] w fun e w' => e = .returned (cerr (d.append n l).2) ∧ Dt w w' p S (d.append n l).1 (k + 2) := by
  have hok := h.ok
  obtain ⟨⟨L, rfl, hc, hA, hS⟩, _, hs, _⟩ := h
  refine (append_any w L d k n v l ⟨hA, hc, hok, by omega⟩ hv hl).mono ?_
  rintro e w' ⟨rfl, hf⟩
  exact ⟨rfl, Dt.of hS hf (Ok.append hok n l) hk⟩
theorem sync_u (w : World) (p : Nat) (S : Nat → Prop) (d : Dsk) (k : Nat) (n : ByteArray) (h : Dk w p S d k) (hk : k + 2 ≤ 90000) :
    Calls Tryz.prog 60 #[.pointer (some ⟨p, 0, none⟩), .string n] w fun e w' => e = .returned (cerr (d.sync n).2) ∧ Dt w w' p S (d.sync n).1 (k + 2) := by
  have hok := h.ok
  obtain ⟨⟨L, rfl, hc, hA, hS⟩, _, hs, _⟩ := h
  refine (sync_any w L d k n ⟨hA, hc, hok, by omega⟩).mono ?_
  rintro e w' ⟨rfl, hf⟩
  exact ⟨rfl, Dt.of hS hf (Ok.sync hok n) hk⟩
theorem syncNames_u (w : World) (p : Nat) (S : Nat → Prop) (d : Dsk) (k : Nat) (h : Dk w p S d k) (hk : k + 2 ≤ 90000) :
    Calls Tryz.prog 64 #[.pointer (some ⟨p, 0, none⟩)] w fun e w' => e = .returned (cerr (d.syncNames).2) ∧ Dt w w' p S (d.syncNames).1 (k + 2) := by
  have hok := h.ok
  obtain ⟨⟨L, rfl, hc, hA, hS⟩, _, hs, _⟩ := h
  refine (syncNames_any w L d k  ⟨hA, hc, hok, by omega⟩).mono ?_
  rintro e w' ⟨rfl, hf⟩
  exact ⟨rfl, Dt.of hS hf (Ok.syncNames hok) hk⟩
theorem rename_u (w : World) (p : Nat) (S : Nat → Prop) (d : Dsk) (k : Nat) (n t : ByteArray) (h : Dk w p S d k) (hk : k + 2 ≤ 90000) (hn : n.size ≤ 281474976710656) (ht : t.size ≤ 281474976710656) :
    Calls Tryz.prog 63 #[.pointer (some ⟨p, 0, none⟩), .string n, .string t] w fun e w' => e = .returned (cerr (d.rename n t).2) ∧ Dt w w' p S (d.rename n t).1 (k + 2) := by
  have hok := h.ok
  obtain ⟨⟨L, rfl, hc, hA, hS⟩, _, hs, _⟩ := h
  refine (rename_any w L d k n t ⟨hA, hc, hok, by omega⟩ hn ht).mono ?_
  rintro e w' ⟨rfl, hf⟩
  exact ⟨rfl, Dt.of hS hf (Ok.rename hok n t) hk⟩
theorem read_u (w : World) (p : Nat) (S : Nat → Prop) (d : Dsk) (k : Nat) (n : ByteArray) (m z : Int) (h : Dk w p S d k) (hm1 : -9223372036854775808 ≤ m) (hm2 : m ≤ 9223372036854775807) (hz1 : -9223372036854775808 ≤ z) (hz2 : z ≤ 9223372036854775807) :
    Calls Tryz.prog 119 #[.pointer (some ⟨p, 0, none⟩), .string n, .int .i64 m, .int .i64 z] w fun e w' => ∃ v', e = .returned (.tuple #[v', cerr (d.read n m z).2]) ∧ w'.ownsRow w.heap.size 5 1 v' (d.read n m z).1.length (bvs (d.read n m z).1) ∧ Below w.heap.size w w' := by
  have hok := h.ok
  obtain ⟨⟨L, rfl, hc, hA, hS⟩, _, hs, _⟩ := h
  exact read_any w L d k n m z ⟨hA, hc, hok, by omega⟩ hm1 hm2 hz1 hz2
theorem names_u (w : World) (p : Nat) (S : Nat → Prop) (d : Dsk) (k : Nat) (h : Dk w p S d k) :
    Calls Tryz.prog 55 #[.pointer (some ⟨p, 0, none⟩)] w fun e w' => ∃ v', e = .returned v' ∧ w'.ownsRow w.heap.size 9 1 v' d.now.length (nms d.now) ∧ Below w.heap.size w w' := by
  have hok := h.ok
  obtain ⟨⟨L, rfl, hc, hA, hS⟩, _, hs, _⟩ := h
  exact names_any w L d k ⟨hA, hc, hok, by omega⟩
theorem down_u (w : World) (p : Nat) (S : Nat → Prop) (d : Dsk) (k : Nat) (h : Dk w p S d k) :
    Calls Tryz.prog 31 #[.pointer (some ⟨p, 0, none⟩)] w fun e w' => e = .returned (.bool (isDown d.armed)) ∧ w = w' := by
  obtain ⟨⟨L, rfl, hc, hA, hS⟩, _, hs, _⟩ := h
  exact down_any w L d hA.blk
theorem new_u (cap : Nat) (w : World) (hc : cap ≤ 1073741824) :
    Calls Tryz.prog 16 #[.int .i64 (cap : Int)] w fun e w' => ∃ p, e = .returned (.tuple #[.pointer (some ⟨p, 0, none⟩), .nilIface]) ∧ Dk w' p (fun b => b = p) (newD cap) 0 ∧ w.heap.size ≤ p ∧ Below w.heap.size w w' := by
  refine (new_ok cap w hc).mono ?_
  rintro e w' ⟨rfl, h1, h2, h3⟩
  exact ⟨_, rfl, ⟨h1, ⟨hc, List.Pairwise.nil, List.Pairwise.nil, (fun e he => by cases he), (fun e he => by cases he), (fun e he => by cases he), (fun e he => by cases he), Nat.le_refl _, Nat.le_refl _, Nat.le_refl _, (fun n hn => by cases hn)⟩, by decide, fun b hb => by rw [hb]; exact h3⟩, Nat.le_refl _, h2⟩
end Go.Proofs.YtllbngopfganjaaGreatDoor
end

section
namespace Go.Cor

/-- A position. -/
structure Pos where
  key : Nat
  off : Int
  len : Int
  cookie : Nat
  gone : Bool

theorem Pos.ext' {a b : Pos} (h1 : a.key = b.key) (h2 : a.off = b.off) (h3 : a.len = b.len) (h4 : a.cookie = b.cookie) (h5 : a.gone = b.gone) : a = b := by
  cases a
  cases b
  simp_all
instance instDecPos : DecidableEq Pos := fun a b => decidable_of_iff (a.key = b.key ∧ a.off = b.off ∧ a.len = b.len ∧ a.cookie = b.cookie ∧ a.gone = b.gone)
  ⟨fun h => Pos.ext' h.1 h.2.1 h.2.2.1 h.2.2.2.1 h.2.2.2.2, fun h => by subst h; exact ⟨rfl, rfl, rfl, rfl, rfl⟩⟩

/-- Its numbers fit. -/
def Pos.fits (p : Pos) : Prop := p.key < 18446744073709551616 ∧ p.cookie < 4294967296 ∧ (-9223372036854775808 ≤ p.off ∧ p.off ≤ 9223372036854775807) ∧ (-9223372036854775808 ≤ p.len ∧ p.len ≤ 9223372036854775807)
def pzero : Pos := ⟨0, 0, 0, 0, false⟩
/-- The position at a place. -/
abbrev pat (ps : List Pos) (i : Nat) : Pos := ps.getD i pzero
theorem pat_of {ps : List Pos} {i : Nat} {p : Pos} (h : ps[i]? = some p) : pat ps i = p := by simp [pat, List.getD_eq_getElem?_getD, h]
theorem get_pat {ps : List Pos} {i : Nat} (h : i < ps.length) : ps[i]? = some (pat ps i) := by simp [pat, List.getD_eq_getElem?_getD, List.getElem?_eq_getElem h]
theorem take_snoc {ps : List Pos} {i : Nat} (h : i < ps.length) : ps.take (i + 1) = ps.take i ++ [pat ps i] := by
  rw [List.take_add_one, get_pat h]
  rfl

/-- How many keys stand ahead of k. -/
def psn : List Pos → Nat → Nat
  | [], _ => 0
  | q :: r, k => if q.key < k then psn r k + 1 else 0
theorem psn_le (l : List Pos) (k : Nat) : psn l k ≤ l.length := by
  induction l with
  | nil => simp [psn]
  | cons q r ih =>
    simp only [psn]
    split <;> simp <;> omega
theorem psn_below {l : List Pos} {k i : Nat} {e : Pos} (h : l[i]? = some e) (hi : i < psn l k) : e.key < k := by
  induction l generalizing i with
  | nil => simp at h
  | cons q r ih =>
    simp only [psn] at hi
    split at hi
    · cases i with
      | zero =>
        simp at h
        subst h
        assumption
      | succ i => exact ih (by simpa using h) (by omega)
    · omega
/-- By rising keys, no key twice. -/
def Asc (l : List Pos) : Prop := l.Pairwise (fun p q => p.key < q.key)
theorem Asc.nil : Asc [] := List.Pairwise.nil
theorem psn_above {l : List Pos} {k i : Nat} {e : Pos} (hs : Asc l) (h : l[i]? = some e) (hi : psn l k ≤ i) : k ≤ e.key := by
  induction l generalizing i with
  | nil => simp at h
  | cons q r ih =>
    have hq := List.pairwise_cons.1 hs
    simp only [psn] at hi
    split at hi
    · cases i with
      | zero => omega
      | succ i => exact ih hq.2 (by simpa using h) (by omega)
    · cases i with
      | zero =>
        simp at h
        subst h
        omega
      | succ i =>
        have := hq.1 e (List.mem_of_getElem? (i := i) (by simpa using h))
        omega
theorem Asc.lt {l : List Pos} (hs : Asc l) {i j : Nat} {p q : Pos} (hi : l[i]? = some p) (hj : l[j]? = some q) (h : i < j) : p.key < q.key := by
  obtain ⟨hi1, rfl⟩ := List.getElem?_eq_some_iff.1 hi
  obtain ⟨hj1, rfl⟩ := List.getElem?_eq_some_iff.1 hj
  exact List.pairwise_iff_getElem.1 hs i j hi1 hj1 h
/-- The position of a key. -/
def fnd (l : List Pos) (k : Nat) : Option Pos := (l[psn l k]?).filter (fun q => q.key == k)
theorem fnd_iff {l : List Pos} (hs : Asc l) {k : Nat} {q : Pos} : fnd l k = some q ↔ q ∈ l ∧ q.key = k := by
  unfold fnd
  rw [Option.filter_eq_some_iff]
  constructor
  · rintro ⟨h1, h2⟩
    exact ⟨List.mem_of_getElem? h1, by simpa using h2⟩
  · rintro ⟨h1, h2⟩
    refine ⟨?_, by simpa using h2⟩
    obtain ⟨i, hi⟩ := List.getElem?_of_mem h1
    by_cases h3 : i < psn l k
    · have := psn_below hi h3
      omega
    by_cases h4 : i = psn l k
    · rw [← h4]
      exact hi
    · have hlt := (List.getElem?_eq_some_iff.1 hi).1
      have he : l[psn l k]? = some (pat l (psn l k)) := get_pat (by omega)
      have h5 := psn_above hs he (Nat.le_refl _)
      have h6 := hs.lt he hi (by omega)
      omega
theorem fnd_at {l : List Pos} {k : Nat} {q : Pos} (h : fnd l k = some q) : l[psn l k]? = some q ∧ q.key = k := by
  unfold fnd at h
  rw [Option.filter_eq_some_iff] at h
  exact ⟨h.1, by simpa using h.2⟩
theorem mem_fnd {l : List Pos} (hs : Asc l) {q : Pos} : q ∈ l ↔ fnd l q.key = some q := by
  rw [fnd_iff hs]
  exact ⟨fun h => ⟨h, rfl⟩, fun h => h.1⟩

/-- A position put. -/
def put : List Pos → Pos → List Pos
  | [], p => [p]
  | q :: r, p => if q.key < p.key then q :: put r p else if q.key = p.key then p :: r else p :: q :: r
theorem put_mem {l : List Pos} (hs : Asc l) (p q : Pos) : q ∈ put l p ↔ q = p ∨ q ∈ l ∧ q.key ≠ p.key := by
  induction l with
  | nil => simp [put]
  | cons a r ih =>
    obtain ⟨h1, h2⟩ := List.pairwise_cons.1 hs
    have ih := ih h2
    simp only [put]
    split
    · rw [List.mem_cons, ih, List.mem_cons]
      constructor
      · rintro (rfl | rfl | h)
        · exact .inr ⟨.inl rfl, by omega⟩
        · exact .inl rfl
        · exact .inr ⟨.inr h.1, h.2⟩
      · rintro (rfl | ⟨rfl | h, h'⟩)
        · exact .inr (.inl rfl)
        · exact .inl rfl
        · exact .inr (.inr ⟨h, h'⟩)
    · split
      · rw [List.mem_cons, List.mem_cons]
        constructor
        · rintro (rfl | h)
          · exact .inl rfl
          · have := h1 q h
            exact .inr ⟨.inr h, by omega⟩
        · rintro (rfl | ⟨rfl | h, h'⟩)
          · exact .inl rfl
          · omega
          · exact .inr h
      · rw [List.mem_cons]
        constructor
        · rintro (rfl | h)
          · exact .inl rfl
          · refine .inr ⟨h, ?_⟩
            rcases List.mem_cons.1 h with rfl | h
            · omega
            · have := h1 q h
              omega
        · rintro (rfl | h)
          · exact .inl rfl
          · exact .inr h.1
theorem put_asc {l : List Pos} (hs : Asc l) (p : Pos) : Asc (put l p) := by
  induction l with
  | nil => simp [put, Asc]
  | cons a r ih =>
    obtain ⟨h1, h2⟩ := List.pairwise_cons.1 hs
    simp only [put]
    split
    · refine List.pairwise_cons.2 ⟨fun q hq => ?_, ih h2⟩
      rcases (put_mem h2 p q).1 hq with rfl | h
      · assumption
      · exact h1 q h.1
    · split
      · refine List.pairwise_cons.2 ⟨fun q hq => ?_, h2⟩
        have := h1 q hq
        omega
      · refine List.pairwise_cons.2 ⟨fun q hq => ?_, hs⟩
        rcases List.mem_cons.1 hq with rfl | h
        · omega
        · have := h1 q h
          omega
theorem put_there {l : List Pos} {p q : Pos} (h : fnd l p.key = some q) : put l p = l.set (psn l p.key) p := by
  induction l with
  | nil => simp [fnd] at h
  | cons a r ih =>
    simp only [put, psn]
    split
    · rename_i hlt
      rw [List.set_cons_succ, ih]
      simpa [fnd, psn, hlt] using h
    · rename_i hlt
      have : a.key = p.key := by
        have := fnd_at h
        simp only [psn, if_neg hlt, List.getElem?_cons_zero, Option.some.injEq] at this
        rw [this.1]
        exact this.2
      rw [if_pos this, List.set_cons_zero]
theorem put_new {l : List Pos} {p : Pos} (h : fnd l p.key = none) : put l p = l.take (psn l p.key) ++ p :: l.drop (psn l p.key) := by
  induction l with
  | nil => rfl
  | cons a r ih =>
    simp only [put, psn]
    split
    · rename_i hlt
      rw [List.take_succ_cons, List.drop_succ_cons, List.cons_append, ih]
      simpa [fnd, psn, hlt] using h
    · rename_i hlt
      have : a.key ≠ p.key := by
        intro e
        simp [fnd, psn, hlt, e] at h
      rw [if_neg this]
      rfl
theorem length_put_new {l : List Pos} {p : Pos} (h : fnd l p.key = none) : (put l p).length = l.length + 1 := by
  rw [put_new h]
  have := psn_le l p.key
  simp
  omega
theorem length_put_there {l : List Pos} {p q : Pos} (h : fnd l p.key = some q) : (put l p).length = l.length := by
  rw [put_there h, List.length_set]
theorem length_put_le (l : List Pos) (p : Pos) : (put l p).length ≤ l.length + 1 := by
  cases h : fnd l p.key with
  | none => rw [length_put_new h]; exact Nat.le_refl _
  | some q => rw [length_put_there h]; omega
theorem fnd_put {l : List Pos} (hs : Asc l) (p : Pos) (k : Nat) : fnd (put l p) k = if k = p.key then some p else fnd l k := by
  apply Option.ext
  intro q
  rw [fnd_iff (put_asc hs p), put_mem hs]
  split
  · rename_i h
    rw [Option.some.injEq]
    constructor
    · rintro ⟨rfl | h2, h3⟩
      · rfl
      · omega
    · rintro rfl
      exact ⟨.inl rfl, h.symm⟩
  · rename_i h
    rw [fnd_iff hs]
    constructor
    · rintro ⟨rfl | h2, h3⟩
      · omega
      · exact ⟨h2.1, h3⟩
    · rintro ⟨h1, h2⟩
      exact ⟨.inr ⟨h1, by omega⟩, h2⟩
/-- Many positions put, one behind the other. -/
def puts (s l : List Pos) : List Pos := l.foldl put s
theorem puts_cons (s : List Pos) (p : Pos) (l : List Pos) : puts s (p :: l) = puts (put s p) l := rfl
theorem puts_append (s a b : List Pos) : puts s (a ++ b) = puts (puts s a) b := List.foldl_append
theorem puts_snoc (s l : List Pos) (p : Pos) : puts s (l ++ [p]) = put (puts s l) p := by rw [puts_append]; rfl
theorem puts_asc {s : List Pos} (hs : Asc s) (l : List Pos) : Asc (puts s l) := by
  induction l generalizing s with
  | nil => exact hs
  | cons p l ih => exact ih (put_asc hs p)
theorem length_puts (s l : List Pos) : (puts s l).length ≤ s.length + l.length := by
  induction l generalizing s with
  | nil => exact Nat.le_refl _
  | cons p l ih =>
    have h1 := ih (put s p)
    have h2 := length_put_le s p
    rw [puts_cons, List.length_cons]
    omega
/-- The last one of a key. -/
def lastOf (l : List Pos) (k : Nat) : Option Pos := l.reverse.find? (fun q => q.key == k)
theorem fnd_puts {s : List Pos} (hs : Asc s) (l : List Pos) (k : Nat) : fnd (puts s l) k = (lastOf l k).or (fnd s k) := by
  induction l generalizing s with
  | nil => rfl
  | cons p l ih =>
    rw [puts_cons, ih (put_asc hs p), fnd_put hs]
    unfold lastOf
    rw [List.reverse_cons, List.find?_append, Option.or_assoc]
    congr 1
    by_cases h : k = p.key
    · subst h
      simp
    · have : (p.key == k) = false := by simpa using fun e => h e.symm
      simp [this, h]
theorem fnd_nil (k : Nat) : fnd [] k = none := rfl
theorem fnd_puts0 (l : List Pos) (k : Nat) : fnd (puts [] l) k = lastOf l k := by rw [fnd_puts Asc.nil, fnd_nil, Option.or_none]
end Go.Cor
end

section
namespace Go.Cor

theorem snoc_ind {α : Type} {P : List α → Prop} (h0 : P []) (h1 : ∀ l a, P l → P (l ++ [a])) : ∀ l, P l := by
  intro l
  have h : P l.reverse.reverse := by
    generalize l.reverse = m
    induction m with
    | nil => exact h0
    | cons a m ih => rw [List.reverse_cons]; exact h1 _ _ ih
  rwa [List.reverse_reverse] at h

/-- How many bytes a needle has. -/
def nlen (n : Ndl) : Nat := 32 + n.data.length + padn n.data.length
theorem nlen_eq (n : Ndl) : (nbytes n).length = nlen n := length_nbytes n
def nsB : List Ndl → List UInt8
  | [] => []
  | n :: r => nbytes n ++ nsB r
def tot : List Ndl → Nat
  | [] => 0
  | n :: r => nlen n + tot r
theorem length_nsB (ns : List Ndl) : (nsB ns).length = tot ns := by
  induction ns with
  | nil => rfl
  | cons n r ih => simp only [nsB, tot, List.length_append, ih, nlen_eq]
theorem nsB_append (a b : List Ndl) : nsB (a ++ b) = nsB a ++ nsB b := by
  induction a with
  | nil => rfl
  | cons n r ih => simp only [List.cons_append, nsB, ih, List.append_assoc]
theorem tot_append (a b : List Ndl) : tot (a ++ b) = tot a + tot b := by
  induction a with
  | nil => simp [tot]
  | cons n r ih => simp only [List.cons_append, tot, ih]; omega
theorem nsB_snoc (a : List Ndl) (n : Ndl) : nsB (a ++ [n]) = nsB a ++ nbytes n := by rw [nsB_append]; simp [nsB]
theorem tot_snoc (a : List Ndl) (n : Ndl) : tot (a ++ [n]) = tot a + nlen n := by rw [tot_append]; simp [tot]
def posN (n : Ndl) (off : Nat) : Pos := ⟨n.key, (off : Int), (n.data.length : Int), n.cookie, n.gone⟩
/-- Where needles stand, one behind the other. -/
def poss : Nat → List Ndl → List Pos
  | _, [] => []
  | o, n :: r => posN n o :: poss (o + nlen n) r
theorem poss_append (o : Nat) (a b : List Ndl) : poss o (a ++ b) = poss o a ++ poss (o + tot a) b := by
  induction a generalizing o with
  | nil => simp [poss, tot]
  | cons n r ih => simp only [List.cons_append, poss, tot, ih, Nat.add_assoc]
theorem poss_snoc (o : Nat) (a : List Ndl) (n : Ndl) : poss o (a ++ [n]) = poss o a ++ [posN n (o + tot a)] := by rw [poss_append]; rfl
theorem length_poss (o : Nat) (ns : List Ndl) : (poss o ns).length = ns.length := by
  induction ns generalizing o with
  | nil => rfl
  | cons n r ih => simp only [poss, List.length_cons, ih]
/-- A key's newest needle. -/
def newest (ns : List Ndl) (k : Nat) : Option Ndl := ns.reverse.find? (fun n => n.key == k)
theorem newest_snoc (ns : List Ndl) (m : Ndl) (k : Nat) : newest (ns ++ [m]) k = if m.key = k then some m else newest ns k := by
  unfold newest
  rw [List.reverse_append, List.reverse_singleton, List.singleton_append, List.find?_cons]
  by_cases h : m.key = k
  · rw [if_pos h, beq_iff_eq.2 h]
  · rw [if_neg h, beq_eq_false_iff_ne.2 h]
theorem lastOf_snoc (l : List Pos) (p : Pos) (k : Nat) : lastOf (l ++ [p]) k = if p.key = k then some p else lastOf l k := by
  unfold lastOf
  rw [List.reverse_append, List.reverse_singleton, List.singleton_append, List.find?_cons]
  by_cases h : p.key = k
  · rw [if_pos h, beq_iff_eq.2 h]
  · rw [if_neg h, beq_eq_false_iff_ne.2 h]
theorem newest_mem {ns : List Ndl} {k : Nat} {n : Ndl} (h : newest ns k = some n) : n ∈ ns ∧ n.key = k := by
  unfold newest at h
  exact ⟨List.mem_reverse.1 (List.mem_of_find?_eq_some h), by simpa using List.find?_some h⟩
theorem last_none (o k : Nat) : ∀ ns : List Ndl, newest ns k = none → lastOf (poss o ns) k = none := by
  refine snoc_ind (fun _ => rfl) fun ns m ih h => ?_
  rw [newest_snoc] at h
  rw [poss_snoc, lastOf_snoc]
  by_cases e : m.key = k
  · rw [if_pos e] at h; cases h
  · rw [if_neg e] at h
    rw [if_neg (show ¬ (posN m (o + tot ns)).key = k from e)]
    exact ih h
theorem last_some (o k : Nat) : ∀ ns : List Ndl, ∀ n, newest ns k = some n → ∃ a b, ns = a ++ n :: b ∧ lastOf (poss o ns) k = some (posN n (o + tot a)) := by
  refine snoc_ind (fun n h => by cases h) fun ns m ih n h => ?_
  rw [newest_snoc] at h
  rw [poss_snoc, lastOf_snoc]
  by_cases e : m.key = k
  · rw [if_pos e] at h
    cases h
    rw [if_pos (show (posN m (o + tot ns)).key = k from e)]
    exact ⟨ns, [], rfl, rfl⟩
  · rw [if_neg e] at h
    rw [if_neg (show ¬ (posN m (o + tot ns)).key = k from e)]
    obtain ⟨a, b, rfl, h2⟩ := ih n h
    exact ⟨a, b ++ [m], by simp, h2⟩

/-- A volume: its numbers, and all needles of its file. -/
structure Vst where
  num : Nat
  gen : Nat
  most : Nat
  epoch : Nat
  shut : Bool
  ns : List Ndl
def Vst.size (s : Vst) : Nat := 16 + tot s.ns
def Vst.idx (s : Vst) : List Pos := puts [] (poss 16 s.ns)
def Vst.wrote (s : Vst) (n : Ndl) : Vst := { s with ns := s.ns ++ [n] }
theorem Vst.idx_asc (s : Vst) : Asc s.idx := puts_asc Asc.nil _
theorem Vst.idx_len (s : Vst) : s.idx.length ≤ s.ns.length := by
  have := length_puts [] (poss 16 s.ns)
  rw [length_poss] at this
  simpa [Vst.idx] using this
theorem Vst.idx_wrote (s : Vst) (n : Ndl) : (s.wrote n).idx = put s.idx (posN n s.size) := by
  unfold Vst.idx Vst.wrote Vst.size
  rw [poss_snoc, puts_snoc]
theorem Vst.size_wrote (s : Vst) (n : Ndl) : (s.wrote n).size = s.size + nlen n := by
  unfold Vst.size Vst.wrote
  rw [tot_snoc]
  omega
theorem Vst.fnd (s : Vst) (k : Nat) : Go.Cor.fnd s.idx k = lastOf (poss 16 s.ns) k := fnd_puts0 _ _
theorem Vst.fnd_none {s : Vst} {k : Nat} (h : newest s.ns k = none) : Go.Cor.fnd s.idx k = none := by rw [s.fnd, last_none _ _ _ h]
theorem Vst.fnd_some {s : Vst} {k : Nat} {n : Ndl} (h : newest s.ns k = some n) : ∃ a b, s.ns = a ++ n :: b ∧ Go.Cor.fnd s.idx k = some (posN n (16 + tot a)) := by
  rw [s.fnd]
  exact last_some 16 k s.ns n h
/-- The bytes at a needle's place. -/
theorem bytes_at {X : List UInt8} {a b : List Ndl} {n : Ndl} (hX : X.length = 16) : ((X ++ nsB (a ++ n :: b)).drop (16 + tot a)).take (nlen n) = nbytes n := by
  rw [nsB_append]
  show ((X ++ (nsB a ++ (nbytes n ++ nsB b))).drop (16 + tot a)).take (nlen n) = nbytes n
  rw [← List.append_assoc X, List.drop_left' (by rw [List.length_append, hX, length_nsB]), List.take_left' (nlen_eq n)]

/-- What holds of every volume. -/
structure Vst.Ok (s : Vst) : Prop where
  num1 : 1 ≤ s.num
  num9 : s.num < 10
  gen1 : 1 ≤ s.gen
  gen9 : s.gen < 10
  ep : s.epoch ≤ 2147483647
  most : s.most ≤ 16777216
  size : s.size ≤ s.most
  few : s.ns.length < 4096
  all : ∀ n ∈ s.ns, n.fits ∧ ncheck n = 0
theorem Vst.Ok.wrote {s : Vst} (h : s.Ok) {n : Ndl} (hn : n.fits ∧ ncheck n = 0) (hm : s.size + nlen n ≤ s.most) (hf : s.ns.length + 1 < 4096) : (s.wrote n).Ok :=
  ⟨h.num1, h.num9, h.gen1, h.gen9, h.ep, h.most, by rw [s.size_wrote]; exact hm, by simpa [Vst.wrote] using hf, fun m hm => by
    rcases List.mem_append.1 hm with hm | hm
    · exact h.all m hm
    · rw [List.mem_singleton.1 hm]; exact hn⟩
theorem Vst.Ok.set {s : Vst} (h : s.Ok) {e : Nat} (he : e ≤ 2147483647) (b : Bool) : ({ s with epoch := e, shut := b } : Vst).Ok :=
  ⟨h.num1, h.num9, h.gen1, h.gen9, he, h.most, h.size, h.few, h.all⟩

/-- What a call by a key and a cookie meets. -/
def Vst.look (s : Vst) (k c : Nat) : Nat := match newest s.ns k with
  | none => 6
  | some n => if n.gone = true then 7 else if n.cookie ≠ c then 9 else 0
def Vst.write (s : Vst) (n : Ndl) : Vst × Nat := if s.most < s.size + nlen n then (s, 11) else (s.wrote n, 0)
def Vst.put (s : Vst) (n : Ndl) : Vst × Nat :=
  if n.gone = true then (s, 1) else if ncheck n ≠ 0 then (s, ncheck n) else if s.shut = true then (s, 10) else match newest s.ns n.key with
  | some o => (s, if o.gone = true then 7 else 8)
  | none => s.write n
theorem Vst.put_gone {s : Vst} {n : Ndl} (h : n.gone = true) : s.put n = (s, 1) := by unfold Vst.put; rw [if_pos h]
theorem Vst.put_bad {s : Vst} {n : Ndl} (h : n.gone = false) (hc : ncheck n ≠ 0) : s.put n = (s, ncheck n) := by unfold Vst.put; rw [if_neg (by simp [h]), if_pos hc]
theorem Vst.put_shut {s : Vst} {n : Ndl} (h : n.gone = false) (hc : ncheck n = 0) (hs : s.shut = true) : s.put n = (s, 10) := by unfold Vst.put; rw [if_neg (by simp [h]), if_neg (by simp [hc]), if_pos hs]
theorem Vst.put_there {s : Vst} {n o : Ndl} (h : n.gone = false) (hc : ncheck n = 0) (hs : s.shut = false) (ho : newest s.ns n.key = some o) : s.put n = (s, if o.gone = true then 7 else 8) := by
  unfold Vst.put; rw [if_neg (by simp [h]), if_neg (by simp [hc]), if_neg (by simp [hs]), ho]
theorem Vst.put_new {s : Vst} {n : Ndl} (h : n.gone = false) (hc : ncheck n = 0) (hs : s.shut = false) (ho : newest s.ns n.key = none) (hm : s.size + nlen n ≤ s.most) : s.put n = (s.wrote n, 0) := by
  unfold Vst.put; rw [if_neg (by simp [h]), if_neg (by simp [hc]), if_neg (by simp [hs]), ho]
  unfold Vst.write; simp only; rw [if_neg (by omega)]
def grave (k c : Nat) : Ndl := ⟨k, c, true, []⟩
theorem grave_ok {k c : Nat} (hk : k < 18446744073709551616) (hc : c < 4294967296) : (grave k c).fits ∧ ncheck (grave k c) = 0 := ⟨⟨hk, hc⟩, rfl⟩
def Vst.del (s : Vst) (k c : Nat) : Vst × Nat := if s.look k c ≠ 0 then (s, s.look k c) else if s.shut = true then (s, 10) else s.write (grave k c)
def Vst.set (s : Vst) (e : Int) (b : Bool) : Vst × Nat := if e < 0 ∨ 2147483647 < e then (s, 1) else if e < (s.epoch : Int) then (s, 13) else ({ s with epoch := e.toNat, shut := b }, 0)

end Go.Cor
end

section
namespace Go.Proofs.YtllbngopfganjaaGreatDoor
open Go.RowKit Go.Cor

/-- The digit of a number below ten. -/
def dig (n : Nat) : UInt8 := UInt8.ofNat (48 + n)
def nmD (v g : Nat) : ByteArray := ⟨#[118, dig v, 46, dig g]⟩
def nmC (v g : Nat) : ByteArray := ⟨#[99, dig v, 46, dig g]⟩
def nmM (v : Nat) : ByteArray := ⟨#[109, dig v]⟩
def nmS (v : Nat) : ByteArray := ⟨#[109, dig v, 46, 116]⟩

set_option maxRecDepth 100000 in
theorem small_any (n : Nat) (w : World) (h : n < 10) :
    Calls Tryz.prog 128 #[.int .i64 (n : Int)] w fun e w' => e = .returned (.string ⟨#[dig n]⟩) ∧ w = w' := by
  match n, h with
  | 0, _ | 1, _ | 2, _ | 3, _ | 4, _ | 5, _ | 6, _ | 7, _ | 8, _ | 9, _ =>
    go_enter Tryz.func128, Tryz.ntmps128
    go_wp2
    go_ret
    exact ⟨rfl, rfl⟩
theorem formatInt_any (n : Nat) (w : World) (h : n < 10) :
    Calls Tryz.prog 103 #[.int .i64 (n : Int), .int .i64 10] w fun e w' => e = .returned (.string ⟨#[dig n]⟩) ∧ w = w' := by
  have h1 : (n : Int) < 100 := by omega
  go_enter Tryz.func103, Tryz.ntmps103
  go_wp2_with fail
  refine (small_any n _ h).mono ?_
  rintro e w' ⟨rfl, rfl⟩
  go_wp2
  go_ret
  exact ⟨rfl, rfl⟩
theorem itoa_in (n : Nat) (w : World) (h : n < 10) :
    Calls Tryz.prog 74 #[.int .i64 (n : Int)] w fun e w' => e = .returned (.string ⟨#[dig n]⟩) ∧ w = w' := by
  go_enter Tryz.func74, Tryz.ntmps74
  go_wp2_with fail
  refine (formatInt_any n _ h).mono ?_
  rintro e w' ⟨rfl, rfl⟩
  go_wp2
  go_ret
  exact ⟨rfl, rfl⟩
theorem itoa_any (n : Nat) (w : World) (h : n < 10) :
    Calls Tryz.prog 53 #[.int .i64 (n : Int)] w fun e w' => e = .returned (.string ⟨#[dig n]⟩) ∧ w = w' := by
  go_enter Tryz.func53, Tryz.ntmps53
  go_wp2_with fail
  refine (itoa_in n _ h).mono ?_
  rintro e w' ⟨rfl, rfl⟩
  go_wp2
  go_ret
  exact ⟨rfl, rfl⟩
theorem names_h (v g : Nat) (w : World) (hv : v < 10) (hg : g < 10) :
    Calls Tryz.prog 35 #[.int .i64 (v : Int), .int .i64 (g : Int)] w fun e w' => e = .returned (.tuple #[.string (nmD v g), .string (nmC v g), .string (nmM v), .string (nmS v)]) ∧ w = w' := by
  go_enter Tryz.func35, Tryz.ntmps35
  go_wp2_with fail
  refine (itoa_any v _ hv).mono ?_
  rintro e w' ⟨rfl, rfl⟩
  go_wp2_with fail
  refine (itoa_any g _ hg).mono ?_
  rintro e w' ⟨rfl, rfl⟩
  go_wp2
  exact bodyPost_ret (v := .tuple #[.string (nmD v g), .string (nmC v g), .string (nmM v), .string (nmS v)]) (by simp [results, Tryz.results35, go_sem]; exact ⟨rfl, rfl, rfl, rfl⟩) rfl ⟨rfl, rfl⟩

end Go.Proofs.YtllbngopfganjaaGreatDoor
end

section
namespace Go.Proofs.YtllbngopfganjaaGreatDoor
open Go.RowKit Go.Cor

theorem Tryz.sizeInt : (Tryz.prog.info? 3).map (·.size) = some 1 := by kernel_rfl
/-- Numbers of four bytes, one behind the other. -/
def lef : List Nat → List UInt8
  | [] => []
  | n :: r => le n 4 ++ lef r
theorem lef_snoc (l : List Nat) (n : Nat) : lef (l ++ [n]) = lef l ++ le n 4 := by
  induction l with
  | nil => simp [lef]
  | cons m r ih => simp only [List.cons_append, lef, ih, List.append_assoc]
theorem length_lef (l : List Nat) : (lef l).length = 4 * l.length := by
  induction l with
  | nil => rfl
  | cons m r ih => simp only [lef, List.length_append, length_le, ih, List.length_cons]; omega
def nums (l : List Nat) : List Value := l.map fun (n : Nat) => Value.int .i64 (n : Int)
theorem nums_get {l : List Nat} {i : Nat} (h : i < l.length) : (nums l)[i]? = some (.int .i64 ((l.getD i 0 : Nat) : Int)) := by
  simp [nums, List.getElem?_eq_getElem h, List.getD_eq_getElem?_getD]
theorem lef_take {l : List Nat} {i : Nat} (h : i < l.length) : lef (l.take (i + 1)) = lef (l.take i) ++ le (l.getD i 0) 4 := by
  rw [List.take_succ_eq_append_getElem h, lef_snoc]
  simp [List.getD_eq_getElem?_getD, List.getElem?_eq_getElem h]

set_option maxHeartbeats 1000000 in
theorem laid_h (v : Value) (xs : List Nat) (w : World) (hv : IsX w 1 v xs.length (nums xs)) (hx : ∀ i, xs.getD i 0 ≤ 4294967295) (hl : xs.length ≤ 8) :
    Calls Tryz.prog 57 #[v] w fun e w' =>
      ∃ g cap, e = .returned (.slice (some ⟨g, 0, none⟩) (4 * xs.length + 4) cap) ∧ w'.ownsRow w.heap.size 5 1 (.slice (some ⟨g, 0, none⟩) (4 * xs.length + 4) cap) (4 * xs.length + 4) (bvs (Nd.sealed (lef xs))) ∧ Below w.heap.size w w' := by
  have HV := Lib.hid hv
  obtain ⟨N, hN⟩ : ∃ N, xs.length = N := ⟨_, rfl⟩
  have hlen := fun W => len_X (P := Tryz.prog) hv 165 3 _ Tryz.underlying165 W
  rw [hN] at hlen hl ⊢
  have HN := Lib.hid hN
  have HXX := Lib.hid hx
  have hgr : ∀ i, xs.getD i 0 ≤ great ((4 : Nat) : Int) := fun i => by rw [show ((4 : Nat) : Int) = 4 from rfl, Nd.great_4]; exact hx i
  have HG := Lib.hid hgr
  clear hv hN hx hgr
  go_enter Tryz.func57, Tryz.ntmps57
  go_wp2_with fail
  go_loopw [3, 8] (fun b c wr => ∃ i : Nat, i ≤ N ∧ c = .int .i64 i ∧ Hid (IsB wr b (lef (xs.take i))) ∧ Hid (Below w.heap.size w wr)) (fun _ c _ => N - (intOf c).toNat)
  case atStart => exact ⟨0, Nat.zero_le _, rfl, Lib.hid (IsB.nil _), Lib.hid (Below.refl _ _)⟩
  case round =>
    obtain ⟨i, hiN, rfl, HB, HW⟩ := hrel
    by_cases hlt : i < N
    · obtain ⟨b, o, hidx, _, hcell⟩ := indexAt_X (HV.out.mono HW.out (Nat.le_refl _)) 165 3 Tryz.underlying165 Tryz.sizeInt i (by rw [HN.out]; exact hlt)
      have hc : wr.cell? ⟨b, o, none⟩ = some (.int .i64 ((xs.getD i 0 : Nat) : Int)) := by
        have h0 := hcell 0 (by omega)
        rw [Nat.mul_one, Nat.add_zero, Nat.add_zero, nums_get (by rw [HN.out]; exact hlt)] at h0
        exact h0
      have hb := HXX.out i
      have HT := Lib.hid (lef_take (l := xs) (i := i) (by rw [HN.out]; exact hlt))
      obtain ⟨x, hxi⟩ : ∃ x, xs.getD i 0 = x := ⟨_, rfl⟩
      have HGx := Lib.hid (HG.out i)
      rw [hxi] at hc hb HT HGx
      have HL := Lib.hid (show (lef (xs.take i)).length ≤ 1099511627776 by rw [length_lef]; simp; have := HN.out; omega)
      have hsz := HW.out.size
      clear hcell hxi
      go_wp2_with fail
      refine (Nd.put_okO _ _ x 4 _ (.inr (.inr (.inl rfl))) HGx.out HB.out HL.out).mono ?_
      rintro e w1 ⟨g, cap, rfl, hown, hg1, hg2, hb1⟩
      have HB1 := Lib.hid (show IsB w1 _ (lef (xs.take (i + 1))) by rw [HT.out]; exact IsB.own hown (by rw [List.length_append, length_le]))
      have HW1 := Lib.hid (HW.out.trans (hb1.mono hsz))
      clear hown hg1 hg2 hb1
      go_wp2
      go_roundw
      case rel => exact ⟨i + 1, by omega, by go_num, HB1, HW1⟩
      case measure => simp [intOf]; omega
    · obtain rfl : i = N := by omega
      have hb := HB.out
      rw [List.take_of_length_le (by rw [HN.out]; omega)] at hb
      have HBF := Lib.hid hb
      have hsz := HW.out.size
      clear hb
      go_wp2_with fail
      refine (Nd.seal_any _ _ _ HBF.out (by rw [length_lef, HN.out]; omega)).mono ?_
      rintro e w1 ⟨g, cap, rfl, hown, hg1, hg2, hb1⟩
      rw [length_lef, HN.out] at hown ⊢
      have HO := Lib.hid (ownsRow_base hown hsz)
      have HW1 := Lib.hid (HW.out.trans (hb1.mono hsz))
      clear hown hg1 hg2 hb1
      go_wp2
      go_ret
      exact ⟨g, cap, rfl, HO.out, HW1.out⟩

theorem superCan_yes (v g : Nat) (w : World) (h1 : 1 ≤ v) (h2 : v < 10) (h3 : 1 ≤ g) (h4 : g < 10) :
    Calls Tryz.prog 56 #[.agg #[.int .i64 (v : Int), .int .i64 (g : Int)]] w fun e w' => e = .returned (.bool true) ∧ Below w.heap.size w w' := by
  have a1 : (1 : Int) ≤ (v : Int) := by omega
  have a2 : (v : Int) ≤ 65535 := by omega
  have a3 : (1 : Int) ≤ (g : Int) := by omega
  have a4 : (g : Int) ≤ 2147483647 := by omega
  clear h1 h2 h3 h4
  go_enter Tryz.func56, Tryz.ntmps56
  go_wp2
  go_ret
  exact ⟨rfl, (Below.refl _ w).alloc (Nat.le_refl _) _⟩
theorem manifestCan_yes (v g e : Nat) (b : Bool) (w : World) (h1 : 1 ≤ v) (h2 : v < 10) (h3 : 1 ≤ g) (h4 : g < 10) (h5 : e ≤ 2147483647) :
    Calls Tryz.prog 85 #[.agg #[.int .i64 (v : Int), .int .i64 (g : Int), .int .i64 (e : Int), .bool b]] w fun e w' => e = .returned (.bool true) ∧ Below w.heap.size w w' := by
  have a1 : (0 : Int) ≤ (e : Int) := by omega
  have a2 : (e : Int) ≤ 2147483647 := by omega
  go_enter Tryz.func85, Tryz.ntmps85
  go_wp2_with fail
  refine (superCan_yes v g _ h1 h2 h3 h4).mono ?_
  rintro e w1 ⟨rfl, hb⟩
  have HK := ((Blk.new w #[.int .i64 (v : Int), .int .i64 (g : Int), .int .i64 (e : Int), .bool b] 83).below hb (by simp)).cell 2 rfl
  have HB := Lib.hid (((Below.refl w.heap.size w).alloc (Nat.le_refl _) _).trans (hb.mono (by simp)))
  clear hb
  go_wp2
  go_ret
  exact ⟨rfl, HB.out⟩
theorem epochCan_any (e : Int) (w : World) :
    Calls Tryz.prog 34 #[.int .i64 e] w fun r w' => r = .returned (.bool (decide (0 ≤ e ∧ e ≤ 2147483647))) ∧ w = w' := by
  by_cases h1 : 0 ≤ e
  · by_cases h2 : e ≤ 2147483647
    · rw [decide_eq_true ⟨h1, h2⟩]
      go_enter Tryz.func34, Tryz.ntmps34
      go_wp2
      go_ret
      exact ⟨rfl, rfl⟩
    · rw [decide_eq_false (fun h => h2 h.2)]
      go_enter Tryz.func34, Tryz.ntmps34
      go_wp2
      go_ret
      exact ⟨rfl, rfl⟩
  · rw [decide_eq_false (fun h => h1 h.1)]
    go_enter Tryz.func34, Tryz.ntmps34
    go_wp2
    go_ret
    exact ⟨rfl, rfl⟩
theorem can_yes (v m : Nat) (w : World) (h1 : 1 ≤ v) (h2 : v < 10) (h3 : 16 ≤ m) (h4 : m ≤ 16777216) :
    Calls Tryz.prog 33 #[.int .i64 (v : Int), .int .i64 (m : Int)] w fun r w' => r = .returned (.bool true) ∧ w = w' := by
  have a1 : (1 : Int) ≤ (v : Int) := by omega
  have a2 : (v : Int) ≤ 65535 := by omega
  have a3 : (16 : Int) ≤ (m : Int) := by omega
  have a4 : (m : Int) ≤ 16777216 := by omega
  clear h1 h2 h3 h4
  go_enter Tryz.func33, Tryz.ntmps33
  go_wp2
  go_ret
  exact ⟨rfl, rfl⟩

/-- Bytes of a size, whatever they are. -/
def OwnB (w w' : World) (v : Value) (n : Nat) : Prop := ∃ X : List UInt8, X.length = n ∧ w'.ownsRow w.heap.size 5 1 v n (bvs X)
theorem length_sealed (l : List UInt8) : (Nd.sealed l).length = l.length + 4 := by simp [Nd.sealed, length_le]
theorem putSuper_ok (v g : Nat) (w : World) (h1 : 1 ≤ v) (h2 : v < 10) (h3 : 1 ≤ g) (h4 : g < 10) :
    Calls Tryz.prog 37 #[.agg #[.int .i64 (v : Int), .int .i64 (g : Int)]] w fun e w' =>
      ∃ q cap, e = .returned (.tuple #[.slice (some ⟨q, 0, none⟩) 16 cap, .nilIface]) ∧ OwnB w w' (.slice (some ⟨q, 0, none⟩) 16 cap) 16 ∧ Below w.heap.size w w' := by
  go_enter Tryz.func37, Tryz.ntmps37
  go_wp2_with fail
  refine (superCan_yes v g _ h1 h2 h3 h4).mono ?_
  rintro e w1 ⟨rfl, hb⟩
  have HK := (Blk.new w #[.int .i64 (v : Int), .int .i64 (g : Int)] 106).below hb (by simp)
  have c0 := HK.cell 0 rfl
  have c1 := HK.cell 1 rfl
  have HB := Lib.hid (((Below.refl w.heap.size w).alloc (Nat.le_refl _) _).trans (hb.mono (by simp)))
  clear hb HK
  go_wp2_with fail
  have HI := IsX.lit w1 #[.int .i64 1129466178, .int .i64 (v : Int), .int .i64 (g : Int)] 3 1 3 rfl (by unfold maxLen; omega)
  refine (laid_h _ [1129466178, v, g] _ HI (fun i => by
    rcases i with _ | _ | _ | i <;> simp <;> omega) (by simp)).mono ?_
  rintro e w2 ⟨q, cap, rfl, hown, hb2⟩
  have HO := Lib.hid (show OwnB w w2 (.slice (some ⟨q, 0, none⟩) 16 cap) 16 from ⟨_, by rw [length_sealed, length_lef]; rfl, ownsRow_base hown (by have := HB.out.size; simp; omega)⟩)
  have HB2 := Lib.hid ((HB.out.alloc HB.out.size _).trans (hb2.mono (by have := HB.out.size; simp; omega)))
  clear hown hb2 HI
  go_wp2
  go_ret2
  exact ⟨q, cap, rfl, HO.out, HB2.out⟩
theorem putManifest_ok (v g e : Nat) (b : Bool) (w : World) (h1 : 1 ≤ v) (h2 : v < 10) (h3 : 1 ≤ g) (h4 : g < 10) (h5 : e ≤ 2147483647) :
    Calls Tryz.prog 61 #[.agg #[.int .i64 (v : Int), .int .i64 (g : Int), .int .i64 (e : Int), .bool b]] w fun r w' =>
      ∃ q cap, r = .returned (.tuple #[.slice (some ⟨q, 0, none⟩) 24 cap, .nilIface]) ∧ OwnB w w' (.slice (some ⟨q, 0, none⟩) 24 cap) 24 ∧ Below w.heap.size w w' := by
  cases b with
  | false =>
    go_enter Tryz.func61, Tryz.ntmps61
    go_wp2_with fail
    refine (manifestCan_yes v g e false _ h1 h2 h3 h4 h5).mono ?_
    rintro r w1 ⟨rfl, hb⟩
    have HK := (Blk.new w #[.int .i64 (v : Int), .int .i64 (g : Int), .int .i64 (e : Int), .bool false] 83).below hb (by simp)
    have c0 := HK.cell 0 rfl
    have c1 := HK.cell 1 rfl
    have c2 := HK.cell 2 rfl
    have c3 := HK.cell 3 rfl
    have HB := Lib.hid (((Below.refl w.heap.size w).alloc (Nat.le_refl _) _).trans (hb.mono (by simp)))
    clear hb HK
    go_wp2_with fail
    have HI := IsX.lit w1 #[.int .i64 1296125513, .int .i64 (v : Int), .int .i64 (g : Int), .int .i64 (e : Int), .int .i64 0] 3 1 5 rfl (by unfold maxLen; omega)
    refine (laid_h _ [1296125513, v, g, e, 0] _ HI (fun i => by
      rcases i with _ | _ | _ | _ | _ | i <;> simp <;> omega) (by simp)).mono ?_
    rintro e w2 ⟨q, cap, rfl, hown, hb2⟩
    have HO := Lib.hid (show OwnB w w2 (.slice (some ⟨q, 0, none⟩) 24 cap) 24 from ⟨_, by rw [length_sealed, length_lef]; rfl, ownsRow_base hown (by have := HB.out.size; simp; omega)⟩)
    have HB2 := Lib.hid ((HB.out.alloc HB.out.size _).trans (hb2.mono (by have := HB.out.size; simp; omega)))
    clear hown hb2 HI
    go_wp2
    go_ret2
    exact ⟨q, cap, rfl, HO.out, HB2.out⟩
  | true =>
    go_enter Tryz.func61, Tryz.ntmps61
    go_wp2_with fail
    refine (manifestCan_yes v g e true _ h1 h2 h3 h4 h5).mono ?_
    rintro r w1 ⟨rfl, hb⟩
    have HK := (Blk.new w #[.int .i64 (v : Int), .int .i64 (g : Int), .int .i64 (e : Int), .bool true] 83).below hb (by simp)
    have c0 := HK.cell 0 rfl
    have c1 := HK.cell 1 rfl
    have c2 := HK.cell 2 rfl
    have c3 := HK.cell 3 rfl
    have HB := Lib.hid (((Below.refl w.heap.size w).alloc (Nat.le_refl _) _).trans (hb.mono (by simp)))
    clear hb HK
    go_wp2_with fail
    have HI := IsX.lit w1 #[.int .i64 1296125513, .int .i64 (v : Int), .int .i64 (g : Int), .int .i64 (e : Int), .int .i64 1] 3 1 5 rfl (by unfold maxLen; omega)
    refine (laid_h _ [1296125513, v, g, e, 1] _ HI (fun i => by
      rcases i with _ | _ | _ | _ | _ | i <;> simp <;> omega) (by simp)).mono ?_
    rintro e w2 ⟨q, cap, rfl, hown, hb2⟩
    have HO := Lib.hid (show OwnB w w2 (.slice (some ⟨q, 0, none⟩) 24 cap) 24 from ⟨_, by rw [length_sealed, length_lef]; rfl, ownsRow_base hown (by have := HB.out.size; simp; omega)⟩)
    have HB2 := Lib.hid ((HB.out.alloc HB.out.size _).trans (hb2.mono (by have := HB.out.size; simp; omega)))
    clear hown hb2 HI
    go_wp2
    go_ret2
    exact ⟨q, cap, rfl, HO.out, HB2.out⟩

end Go.Proofs.YtllbngopfganjaaGreatDoor
end

section
namespace Go.Proofs.YtllbngopfganjaaGreatDoor
open Go.RowKit Go.Cor

/-- The bytes that a name has. -/
def view (d : Dsk) (n : ByteArray) : Option (List UInt8) := (tfind d.now n).map fun k => (fat d.files k).b
/-- A disk that is up, and in order. -/
structure Fs (d : Dsk) (k : Nat) : Prop where
  up : d.armed = none
  ok : d.Ok k
  inj : d.now.Pairwise (fun a b => a.2 ≠ b.2)

theorem tfind_append (a b : Tbl) (m : ByteArray) : tfind (a ++ b) m = (tfind a m).or (tfind b m) := by
  induction a with
  | nil => simp [tfind]
  | cons e r ih =>
    rw [List.cons_append, tfind.eq_2, tfind.eq_2 m e r]
    split
    · simp
    · exact ih
theorem tfind_wout (l : Tbl) (n m : ByteArray) : tfind (wout l n) m = if m = n then none else tfind l m := by
  split
  · rename_i h; subst h; exact wout_find l m
  · rename_i h
    induction l with
    | nil => rfl
    | cons e r ih =>
      by_cases he : e.1 = n
      · have h1 : wout (e :: r) n = wout r n := by simp [wout, he]
        rw [h1, ih, tfind.eq_2, if_neg (fun h2 => h (h2.symm.trans he))]
      · have h1 : wout (e :: r) n = e :: wout r n := by simp [wout, he]
        rw [h1, tfind.eq_2, tfind.eq_2 m e r, ih]
theorem tfind_wth (l : Tbl) (n m : ByteArray) (f : Nat) : tfind (wth l n f) m = if m = n then some f else tfind l m := by
  unfold wth
  rw [tfind_append, tfind.eq_2]
  by_cases h : m = n
  · subst h
    have h1 : tfind ((wout l m).take (pos (wout l m) m)) m = none := by
      rw [tfind_none]
      intro e he
      exact tfind_none.1 (wout_find l m) e (List.mem_of_mem_take he)
    rw [h1, if_pos rfl, if_pos rfl]
    rfl
  · rw [if_neg h, if_neg (fun e : n = m => h e.symm), ← tfind_append, List.take_append_drop, tfind_wout, if_neg h]
theorem wth_perm (l : Tbl) (n : ByteArray) (f : Nat) : (wth l n f).Perm ((n, f) :: wout l n) := by
  unfold wth
  refine List.perm_middle.trans ?_
  rw [List.take_append_drop]
theorem wout_parts {l : Tbl} (hs : Sorted l) {n : ByteArray} {f : Nat} (h : tfind l n = some f) : l = l.take (pos l n) ++ (n, f) :: l.drop (pos l n + 1) ∧ wout l n = l.take (pos l n) ++ l.drop (pos l n + 1) := by
  have h1 := tfind_at hs h
  obtain ⟨hlt, he⟩ := List.getElem?_eq_some_iff.1 h1
  refine ⟨?_, by rw [← erase_pos hs h, erase_take_drop]⟩
  conv => lhs; rw [← List.take_append_drop (pos l n) l]
  rw [List.drop_eq_getElem_cons hlt, he]
theorem length_wout {l : Tbl} (hs : Sorted l) {n : ByteArray} {f : Nat} (h : tfind l n = some f) : (wout l n).length + 1 = l.length := by
  obtain ⟨h1, h2⟩ := wout_parts hs h
  rw [h2]
  conv => rhs; rw [h1]
  simp only [List.length_append, List.length_cons]
  omega
theorem usedT_wout {l : Tbl} (hs : Sorted l) {n : ByteArray} {f : Nat} (h : tfind l n = some f) (fs : List Fil) : usedT fs (wout l n) + (fat fs f).b.length = usedT fs l := by
  obtain ⟨h1, h2⟩ := wout_parts hs h
  rw [h2]
  conv => rhs; rw [h1]
  simp only [usedT_append, usedT]
  omega
theorem usedT_wth (fs : List Fil) (l : Tbl) (n : ByteArray) (f : Nat) : usedT fs (wth l n f) = usedT fs (wout l n) + (fat fs f).b.length := by
  unfold wth
  simp only [usedT_append, usedT]
  conv => rhs; rw [← List.take_append_drop (pos (wout l n) n) (wout l n), usedT_append]
  omega
theorem usedT_congr {fs gs : List Fil} {l : Tbl} (h : ∀ e ∈ l, (fat fs e.2).b.length = (fat gs e.2).b.length) : usedT fs l = usedT gs l := by
  induction l with
  | nil => rfl
  | cons e r ih =>
    simp only [usedT]
    rw [h e (List.mem_cons_self ..), ih fun x hx => h x (List.mem_cons_of_mem _ hx)]
theorem usedT_set {fs : List Fil} {l : Tbl} (hi : l.Pairwise (fun a b => a.2 ≠ b.2)) {n : ByteArray} {k : Nat} (hm : (n, k) ∈ l) (hk : k < fs.length) (f : Fil) : usedT (fs.set k f) l + (fat fs k).b.length = usedT fs l + f.b.length := by
  induction l with
  | nil => cases hm
  | cons e r ih =>
    have hi' := List.pairwise_cons.1 hi
    simp only [usedT]
    by_cases he : e.2 = k
    · have h1 : usedT (fs.set k f) r = usedT fs r := by
        refine usedT_congr fun x hx => ?_
        rw [fat_set fs k x.2 f hk, if_neg (fun h => hi'.1 x hx (he.trans h.symm))]
      rw [h1, he, fat_set fs k k f hk, if_pos rfl]
      omega
    · have hm' : (n, k) ∈ r := by
        rcases List.mem_cons.1 hm with h | h
        · rw [← h] at he; exact absurd rfl he
        · exact h
      rw [fat_set fs k e.2 f hk, if_neg he]
      have := ih hi'.2 hm'
      omega
theorem inj_of {l : Tbl} (hi : l.Pairwise (fun a b => a.2 ≠ b.2)) {a b : ByteArray × Nat} (ha : a ∈ l) (hb : b ∈ l) (h : a.2 = b.2) : a = b := by
  induction l with
  | nil => cases ha
  | cons e r ih =>
    have hi' := List.pairwise_cons.1 hi
    rcases List.mem_cons.1 ha with rfl | ha'
    · rcases List.mem_cons.1 hb with rfl | hb'
      · rfl
      · exact absurd h (hi'.1 b hb')
    · rcases List.mem_cons.1 hb with rfl | hb'
      · exact absurd h.symm (hi'.1 a ha')
      · exact ih hi'.2 ha' hb'
theorem inj_wout {l : Tbl} (hi : l.Pairwise (fun a b => a.2 ≠ b.2)) (n : ByteArray) : (wout l n).Pairwise (fun a b => a.2 ≠ b.2) := hi.sublist (wout_sublist l n)
theorem inj_wth {l : Tbl} (hi : l.Pairwise (fun a b => a.2 ≠ b.2)) {n : ByteArray} {f : Nat} (hf : ∀ e ∈ wout l n, e.2 ≠ f) : (wth l n f).Pairwise (fun a b => a.2 ≠ b.2) := by
  refine ((wth_perm l n f).pairwise_iff (fun h => h.symm)).2 ?_
  rw [List.pairwise_cons]
  exact ⟨fun e he => (hf e he).symm, inj_wout hi n⟩

theorem view_none {d : Dsk} {n : ByteArray} : view d n = none ↔ tfind d.now n = none := by simp [view]
theorem view_some {d : Dsk} {n : ByteArray} {b : List UInt8} (h : view d n = some b) : ∃ k, tfind d.now n = some k ∧ (fat d.files k).b = b := by
  simpa [view] using h
theorem Fs.file {d : Dsk} {k : Nat} (h : Fs d k) {n : ByteArray} {j : Nat} (hf : tfind d.now n = some j) : j < d.files.length ∧ isNm n = true := h.ok.nowF _ (tfind_mem hf)
theorem Fs.named {d : Dsk} {k : Nat} (h : Fs d k) {n : ByteArray} {b : List UInt8} (hv : view d n = some b) : isNm n = true := by
  obtain ⟨j, hj, _⟩ := view_some hv
  exact (h.file hj).2
theorem Fs.noName {d : Dsk} {k : Nat} (h : Fs d k) : tfind d.now Go.Cor.noName = none := by
  cases hf : tfind d.now Go.Cor.noName with
  | none => rfl
  | some j => have := (h.file hf).2; cases this
theorem Fs.more {d : Dsk} {k m : Nat} (h : Fs d k) (hm : k ≤ m) : Fs d m := ⟨h.up, Ok.more h.ok hm, h.inj⟩
theorem fat_more {fs : List Fil} {x : Fil} {j : Nat} (h : j < fs.length) : fat (fs ++ [x]) j = fat fs j := by
  rw [fat_add, if_pos h]
theorem on_up {α : Type} {d : Dsk} {n : ByteArray} {no f : Nat → α} {j : Nat} (h : d.armed = none) (hf : tfind d.now n = some j) : d.on n no f = f j := by
  unfold Dsk.on; rw [h, hf]; simp
/-- What has become of a disk: the call went well; what the names have now; the bytes on it, and the names. -/
structure Went (d d' : Dsk) (k' : Nat) (used len : Nat) (v : ByteArray → Option (List UInt8)) : Prop where
  fs : Fs d' k'
  cap : d'.cap = d.cap
  used : d'.used = used
  len : d'.now.length = len
  view : ∀ m, view d' m = v m

theorem Went.trans {d d1 d2 : Dsk} {k1 k2 u1 u2 l1 l2 : Nat} {v1 v2 : ByteArray → Option (List UInt8)} (h : Went d d1 k1 u1 l1 v1) (h2 : Went d1 d2 k2 u2 l2 v2) : Went d d2 k2 u2 l2 v2 := ⟨h2.fs, h2.cap.trans h.cap, h2.used, h2.len, h2.view⟩
theorem Went.of {d d' : Dsk} {k' u u' l l' : Nat} {v v' : ByteArray → Option (List UInt8)} (h : Went d d' k' u l v) (hu : u = u') (hl : l = l') (hv : ∀ m, v m = v' m) : Went d d' k' u' l' v' := ⟨h.fs, h.cap, h.used.trans hu, h.len.trans hl, fun m => (h.view m).trans (hv m)⟩
theorem Went.refl {d : Dsk} {k : Nat} (h : Fs d k) : Went d d k d.used d.now.length (Go.Proofs.YtllbngopfganjaaGreatDoor.view d) := ⟨h, rfl, rfl, rfl, fun _ => rfl⟩
theorem Fs.create {d : Dsk} {k : Nat} (h : Fs d k) {n : ByteArray} (hn : isNm n = true) (hv : view d n = none) (hc : d.now.length < 64) :
    (d.create n).2 = 0 ∧ Went d (d.create n).1 (k + 2) d.used (d.now.length + 1) (fun m => if m = n then some [] else view d m) := by
  have hok := Ok.create h.ok n
  have hf := view_none.1 hv
  have hno := wout_none h.noName
  have hnn : n ≠ Go.Cor.noName := isNm_ne' hn
  have e : d.create n = (({ d with files := d.files ++ [⟨[], 0⟩] } : Dsk).nameD ⟨Go.Cor.noName, n, d.files.length⟩, 0) := by
    unfold Dsk.create
    rw [if_neg (by rw [h.up]; simp), if_neg (by rw [hn]; simp), if_neg (by rw [hf]; simp), if_neg (by omega)]
  rw [e] at hok ⊢
  have hnow : ((({ d with files := d.files ++ [⟨[], 0⟩] } : Dsk).nameD ⟨Go.Cor.noName, n, d.files.length⟩)).now = wth d.now n d.files.length := by
    show turnT d.now ⟨Go.Cor.noName, n, d.files.length⟩ = _
    unfold turnT
    rw [if_neg hnn]
    show wth (wout d.now Go.Cor.noName) n d.files.length = _
    rw [hno]
  have hw : wout d.now n = d.now := wout_none hf
  have hlt : ∀ e ∈ d.now, e.2 < d.files.length := fun e he => (h.ok.nowF e he).1
  refine ⟨rfl, ⟨?_, hok, ?_⟩, rfl, ?_, ?_, ?_⟩
  · show d.armed.map _ = none
    rw [h.up]; rfl
  · rw [hnow]
    refine inj_wth h.inj fun e he => ?_
    rw [hw] at he
    have := hlt e he
    omega
  · unfold Dsk.used
    rw [hnow, usedT_wth, hw]
    show usedT (d.files ++ [⟨[], 0⟩]) d.now + (fat (d.files ++ [⟨[], 0⟩]) d.files.length).b.length = _
    rw [fat_add, if_neg (by omega), if_pos rfl, usedT_congr (gs := d.files) (fun e he => by rw [fat_more (hlt e he)])]
    rfl
  · rw [hnow, wth_length, hw]
  · intro m
    unfold Go.Proofs.YtllbngopfganjaaGreatDoor.view
    rw [hnow, tfind_wth]
    show Option.map (fun k => (fat (d.files ++ [⟨[], 0⟩]) k).b) _ = _
    by_cases hm : m = n
    · rw [if_pos hm, if_pos hm, Option.map_some, fat_add, if_neg (by omega), if_pos rfl]
    · rw [if_neg hm, if_neg hm]
      cases hj : tfind d.now m with
      | none => rfl
      | some j => rw [Option.map_some, Option.map_some, fat_more (h.file hj).1]

/-- A file's bytes turn. -/
theorem Fs.turn {d : Dsk} {k : Nat} (h : Fs d k) {n : ByteArray} {j : Nat} (hj : tfind d.now n = some j) (f : Fil) (hf : f.lasts ≤ f.b.length ∧ f.b.length ≤ 16777216) :
    Went d (d.setF j f).done (k + 2) (d.used + f.b.length - (fat d.files j).b.length) d.now.length (fun m => if m = n then some f.b else view d m) := by
  have hlt := (h.file hj).1
  have hu := usedT_set h.inj (tfind_mem hj) hlt f
  refine ⟨⟨?_, Ok.more (Ok.done (Ok.setF h.ok hf)) (by omega), h.inj⟩, rfl, ?_, rfl, ?_⟩
  · show d.armed.map _ = none
    rw [h.up]; rfl
  · show usedT (d.files.set j f) d.now = _
    unfold Dsk.used
    omega
  · intro m
    show Option.map (fun k => (fat (d.files.set j f) k).b) (tfind d.now m) = _
    by_cases hm : m = n
    · subst hm
      rw [hj, if_pos rfl, Option.map_some, fat_set _ _ _ _ hlt, if_pos rfl]
    · rw [if_neg hm]
      unfold Go.Proofs.YtllbngopfganjaaGreatDoor.view
      cases hi : tfind d.now m with
      | none => rfl
      | some i =>
        rw [Option.map_some, Option.map_some, fat_set _ _ _ _ hlt, if_neg]
        intro hij
        have := inj_of h.inj (tfind_mem hi) (tfind_mem hj) hij
        exact hm (congrArg Prod.fst this)
theorem used_ge {d : Dsk} {k : Nat} (h : Fs d k) {n : ByteArray} {b : List UInt8} (hv : view d n = some b) : b.length ≤ d.used := by
  obtain ⟨j, hj, rfl⟩ := view_some hv
  have := usedT_wout h.ok.nowS hj d.files
  unfold Dsk.used
  omega
theorem Fs.append {d : Dsk} {k : Nat} (h : Fs d k) {n : ByteArray} {b l : List UInt8} (hv : view d n = some b) (hl : b.length + l.length ≤ 16777216) (hu : d.used + l.length ≤ d.cap) :
    (d.append n l).2 = 0 ∧ Went d (d.append n l).1 (k + 2) (d.used + l.length) d.now.length (fun m => if m = n then some (b ++ l) else view d m) := by
  have hge := used_ge h hv
  obtain ⟨j, hj, rfl⟩ := view_some hv
  have e : d.append n l = ((d.setF j ⟨(fat d.files j).b ++ l, (fat d.files j).lasts⟩).done, 0) := by
    unfold Dsk.append
    rw [on_up h.up hj, if_neg (by omega), if_neg (by omega)]
  rw [e]
  have hfat := Ok.fat h.ok (h.file hj).1
  have ht := h.turn hj ⟨(fat d.files j).b ++ l, (fat d.files j).lasts⟩ ⟨by simp only [List.length_append]; omega, by simp only [List.length_append]; omega⟩
  refine ⟨rfl, ⟨ht.fs, ht.cap, ?_, ht.len, ht.view⟩⟩
  rw [ht.used]
  simp only [List.length_append]
  omega
theorem Fs.sync {d : Dsk} {k : Nat} (h : Fs d k) {n : ByteArray} {b : List UInt8} (hv : view d n = some b) :
    (d.sync n).2 = 0 ∧ Went d (d.sync n).1 (k + 2) d.used d.now.length (view d) := by
  have hge := used_ge h hv
  have hv0 := hv
  obtain ⟨j, hj, rfl⟩ := view_some hv
  have e : d.sync n = ((d.setF j ⟨(fat d.files j).b, (fat d.files j).b.length⟩).done, 0) := by
    unfold Dsk.sync
    rw [on_up h.up hj]
  rw [e]
  have hfat := Ok.fat h.ok (h.file hj).1
  have ht := h.turn hj ⟨(fat d.files j).b, (fat d.files j).b.length⟩ ⟨Nat.le_refl _, hfat.2⟩
  refine ⟨rfl, ⟨ht.fs, ht.cap, ?_, ht.len, fun m => ?_⟩⟩
  · rw [ht.used]
    show d.used + (fat d.files j).b.length - (fat d.files j).b.length = _
    omega
  · rw [ht.view]
    show (if m = n then some (fat d.files j).b else Go.Proofs.YtllbngopfganjaaGreatDoor.view d m) = _
    by_cases hm : m = n
    · rw [if_pos hm, hm, hv0]
    · rw [if_neg hm]
theorem Fs.syncNames {d : Dsk} {k : Nat} (h : Fs d k) : d.syncNames.2 = 0 ∧ Went d d.syncNames.1 (k + 2) d.used d.now.length (view d) := by
  have hok := Ok.syncNames h.ok
  have e : d.syncNames = (d.syncN.done, 0) := by
    unfold Dsk.syncNames
    rw [if_neg (by rw [h.up]; simp)]
  rw [e] at hok ⊢
  exact ⟨rfl, ⟨by show d.armed.map _ = none; rw [h.up]; rfl, hok, h.inj⟩, rfl, rfl, rfl, fun _ => rfl⟩
theorem Fs.size {d : Dsk} {k : Nat} (h : Fs d k) {n : ByteArray} {b : List UInt8} (hv : view d n = some b) : d.size n = (b.length, 0) := by
  obtain ⟨j, hj, rfl⟩ := view_some hv
  unfold Dsk.size
  rw [on_up h.up hj]
theorem Fs.read {d : Dsk} {k : Nat} (h : Fs d k) {n : ByteArray} {b : List UInt8} (hv : view d n = some b) {off m : Nat} (hb : off + m ≤ b.length) : d.read n (off : Int) (m : Int) = ((b.drop off).take m, 0) := by
  obtain ⟨j, hj, rfl⟩ := view_some hv
  unfold Dsk.read
  rw [on_up h.up hj, if_neg (by omega), if_neg (by omega)]
  simp
def olen (o : Option (List UInt8)) : Nat := match o with | some b => b.length | none => 0
theorem Fs.rename {d : Dsk} {k : Nat} (h : Fs d k) {n t : ByteArray} {b : List UInt8} (hv : view d n = some b) (ht : isNm t = true) (hnt : n ≠ t) :
    (d.rename n t).2 = 0 ∧ Went d (d.rename n t).1 (k + 2) (d.used - olen (view d t)) (d.now.length - if (view d t).isSome then 1 else 0) (fun m => if m = t then some b else if m = n then none else view d m) := by
  have hok := Ok.rename h.ok n t
  obtain ⟨j, hj, rfl⟩ := view_some hv
  have htn : t ≠ Go.Cor.noName := isNm_ne' ht
  have e : d.rename n t = (d.nameD ⟨n, t, j⟩, 0) := by
    unfold Dsk.rename
    rw [on_up h.up hj, if_neg (by rw [ht]; simp)]
  rw [e] at hok ⊢
  have hnow : (d.nameD ⟨n, t, j⟩).now = wth (wout d.now n) t j := by
    show turnT d.now ⟨n, t, j⟩ = _
    unfold turnT
    rw [if_neg htn]
  have hu := usedT_wout h.ok.nowS hj d.files
  have hl := length_wout h.ok.nowS hj
  have hs2 := wout_sorted h.ok.nowS n
  have ht2 : tfind (wout d.now n) t = tfind d.now t := by rw [tfind_wout, if_neg (fun e => hnt e.symm)]
  refine ⟨rfl, ⟨by show d.armed.map _ = none; rw [h.up]; rfl, hok, ?_⟩, rfl, ?_, ?_, ?_⟩
  · rw [hnow]
    refine inj_wth (inj_wout h.inj n) fun e he hej => ?_
    have he2 := (wout_sublist _ _).mem he
    have he1 := (wout_sublist _ _).mem he2
    have h1 := inj_of h.inj he1 (tfind_mem hj) hej
    exact tfind_none.1 (wout_find d.now n) e he2 (congrArg Prod.fst h1)
  · unfold Dsk.used
    rw [hnow]
    show usedT d.files (wth (wout d.now n) t j) = _
    rw [usedT_wth]
    unfold Go.Proofs.YtllbngopfganjaaGreatDoor.view
    cases hi : tfind d.now t with
    | none =>
      rw [wout_none (ht2.trans hi)]
      simp only [Option.map_none, olen]
      omega
    | some i =>
      have := usedT_wout hs2 (ht2.trans hi) d.files
      simp only [Option.map_some, olen]
      omega
  · rw [hnow, wth_length]
    unfold Go.Proofs.YtllbngopfganjaaGreatDoor.view
    cases hi : tfind d.now t with
    | none =>
      rw [wout_none (ht2.trans hi)]
      simp
      omega
    | some i =>
      have := length_wout hs2 (ht2.trans hi)
      simp
      omega
  · intro m
    unfold Go.Proofs.YtllbngopfganjaaGreatDoor.view
    rw [hnow, tfind_wth]
    show Option.map (fun k => (fat d.files k).b) _ = _
    by_cases hm : m = t
    · rw [if_pos hm, if_pos hm]; rfl
    · rw [if_neg hm, if_neg hm, tfind_wout]
      by_cases hmn : m = n
      · rw [if_pos hmn, if_pos hmn]; rfl
      · rw [if_neg hmn, if_neg hmn]

end Go.Proofs.YtllbngopfganjaaGreatDoor
end
