/- Create, Nms, Cr, Dok, Nil, Errs, St, Ixp, Crc, Ndl, Vst, Nam. -/
import Derived.Test.YtoblbipkkdiddaaGreatDoorM3
import Derived.Test.YtoblbipkkdiddaaGreatDoorChecked
import Derived.WalkKit
import Derived.LaidEql
import Derived.Stop.Asserts
import Derived.RowKitTokens
import Derived.Lib.Hide
import Derived.Test.YtoblbipkkdiddaaGreatDoorM1
set_option linter.unusedVariables false
set_option linter.unusedSimpArgs false

section
namespace Go.Proofs.YtoblbipkkdiddaaGreatDoor
open Go.RowKit Go.Cor

theorem row_congr {α : Type} {f g : α → List Value} {l : List α} (h : ∀ x ∈ l, f x = g x) : row f l = row g l := by
  induction l with
  | nil => rfl
  | cons x r ih => rw [row_cons, row_cons, h x (List.mem_cons_self ..), ih (fun y hy => h y (List.mem_cons_of_mem _ hy))]
/-- One file more. -/
def Lay.addF (L : Lay) (n g : Nat) : Lay := { L with fb := fun j => if j = n then g else L.fb j, fv := fun j => if j = n then .slice none 0 0 else L.fv j }
theorem addF_ne {L : Lay} {n g j : Nat} (h : j ≠ n) : (L.addF n g).fb j = L.fb j := if_neg h
theorem addF_eq {L : Lay} {n g j : Nat} (h : j = n) : (L.addF n g).fb j = g := if_pos h
theorem fat_add (fs : List Fil) (f : Fil) (j : Nat) : fat (fs ++ [f]) j = if j < fs.length then fat fs j else if j = fs.length then f else ⟨[], 0⟩ := by
  unfold fat
  rw [List.getD_eq_getElem?_getD, List.getD_eq_getElem?_getD]
  by_cases h : j < fs.length
  · rw [if_pos h, List.getElem?_append_left h]
  · rw [if_neg h, List.getElem?_append_right (by omega)]
    by_cases h2 : j = fs.length
    · rw [if_pos h2, h2]
      simp
    · rw [if_neg h2, List.getElem?_eq_none (by simp; omega)]
      rfl
theorem addF_own {w : World} {L : Lay} {d : Dsk} (h : Rest w L d) (g : Nat) : ∀ t b, (L.addF d.files.length g).own (d.files.length + 1) t = some b → L.own d.files.length t = some b ∨ (t = .box d.files.length ∧ b = g) := by
  intro t b hb
  cases t with
  | dsk => exact .inl hb
  | now => exact .inl hb
  | las => exact .inl hb
  | dee => exact .inl hb
  | box j =>
    simp only [Lay.own, Lay.addF] at hb ⊢
    by_cases e : j = d.files.length
    · subst e
      rw [if_pos (Nat.lt_succ_self _), if_pos rfl] at hb
      cases hb
      exact .inr ⟨rfl, rfl⟩
    · by_cases hj : j < d.files.length
      · rw [if_pos (by omega), if_neg e] at hb
        rw [if_pos hj]
        exact .inl hb
      · rw [if_neg (by omega)] at hb
        cases hb
  | byt j =>
    simp only [Lay.own, Lay.addF] at hb ⊢
    by_cases e : j = d.files.length
    · subst e
      rw [if_pos (Nat.lt_succ_self _), if_pos rfl] at hb
      cases hb
    · by_cases hj : j < d.files.length
      · rw [if_pos (by omega), if_neg e] at hb
        rw [if_pos hj]
        exact .inl hb
      · rw [if_neg (by omega)] at hb
        cases hb
theorem addF_same {L : Lay} {n g : Nat} : ∀ t, t ≠ .box n → (L.addF n g).own (n + 1) t = L.own n t := by
  intro t ht
  cases t with
  | box j =>
    have e : j ≠ n := fun e => ht (by rw [e])
    simp only [Lay.own, Lay.addF, if_neg e]
    by_cases hj : j < n
    · rw [if_pos hj, if_pos (by omega)]
    · rw [if_neg hj, if_neg (by omega)]
  | byt j =>
    simp only [Lay.own, Lay.addF]
    by_cases e : j = n
    · subst e
      rw [if_pos (Nat.lt_succ_self _), if_pos rfl, if_neg (Nat.lt_irrefl _)]
      rfl
    · rw [if_neg e]
      by_cases hj : j < n
      · rw [if_pos hj, if_pos (by omega)]
      · rw [if_neg hj, if_neg (by omega)]
  | _ => rfl
theorem Rest.addFil {w w' : World} {L : Lay} {d : Dsk} {k g : Nat} (h : Rest w L d) (ok : d.Ok k) (hg : w.heap.size ≤ g) (hb : Blk w' g #[.int .i64 (d.files.length : Int), .slice none 0 0, .int .i64 0] 142) (hbel : Below w.heap.size w w') :
    Rest w' (L.addF d.files.length g) { d with files := d.files ++ [⟨[], 0⟩] } where
  now := by
    have := ownsRow_below h.now hbel (Nat.le_refl _)
    rw [row_congr (g := ent (L.addF d.files.length g).fb) (fun e he => by unfold ent; rw [addF_ne (by have := (ok.nowF e he).1; omega)])] at this
    exact this
  las := by
    have := ownsRow_below h.las hbel (Nat.le_refl _)
    rw [row_congr (g := ent (L.addF d.files.length g).fb) (fun e he => by unfold ent; rw [addF_ne (by have := (ok.lasF e he).1; omega)])] at this
    exact this
  dee := by
    have := ownsRow_below h.dee hbel (Nat.le_refl _)
    rw [row_congr (g := ddc (L.addF d.files.length g).fb) (fun x hx => by
      unfold ddc dptr
      by_cases hd : x.dst = noName
      · rw [if_pos hd, if_pos hd]
      · rw [if_neg hd, if_neg hd]
        rcases (ok.deeF x hx).1 with h1 | h1
        · exact absurd h1 hd
        · rw [addF_ne (by have := h1.2; omega)])] at this
    exact this
  box j hj := by
    have hf := fat_add d.files ⟨[], 0⟩ j
    rw [List.length_append] at hj
    simp only [List.length_cons, List.length_nil] at hj
    show Blk w' ((L.addF d.files.length g).fb j) #[_, (L.addF d.files.length g).fv j, .int .i64 ((fat (d.files ++ [⟨[], 0⟩]) j).lasts : Int)] _
    rw [hf]
    by_cases e : j = d.files.length
    · subst e
      rw [if_neg (Nat.lt_irrefl _), if_pos rfl]
      simp only [Lay.addF, if_true]
      exact hb
    · rw [if_pos (by omega)]
      simp only [Lay.addF, if_neg e]
      exact (h.box j (by omega)).below hbel (h.box j (by omega)).lt
  byt j hj := by
    have hf := fat_add d.files ⟨[], 0⟩ j
    rw [List.length_append] at hj
    simp only [List.length_cons, List.length_nil] at hj
    show w'.ownsRow 0 _ 1 ((L.addF d.files.length g).fv j) (fat (d.files ++ [⟨[], 0⟩]) j).b.length (bvs (fat (d.files ++ [⟨[], 0⟩]) j).b)
    rw [hf]
    by_cases e : j = d.files.length
    · subst e
      rw [if_neg (Nat.lt_irrefl _), if_pos rfl]
      simp only [Lay.addF, if_true]
      exact World.ownsRow_nil _ _ _ _
    · rw [if_pos (by omega)]
      simp only [Lay.addF, if_neg e]
      exact ownsRow_below (h.byt j (by omega)) hbel (Nat.le_refl _)
  apt := by
    have hl : (d.files ++ [(⟨[], 0⟩ : Fil)]).length = d.files.length + 1 := by simp
    show Apt ((L.addF d.files.length g).own (d.files ++ [(⟨[], 0⟩ : Fil)]).length)
    rw [hl]
    refine h.apt.upd (.box d.files.length) w.heap.size h.lt (fun b hb' => ?_) addF_same
    rcases addF_own h g _ b hb' with h1 | h1
    · exact .inl h1
    · rw [h1.2]; exact .inr hg
  plt := Nat.lt_of_lt_of_le h.plt hbel.size

theorem fin_create {w w3 w4 : World} {L L' : Lay} {d d' : Dsk} {g : Nat} (hb : Below w.heap.size w w3) (hr : Rest w L d) (hg : w.heap.size ≤ g) (hl : d'.files.length = d.files.length + 1) (hp : L'.p = L.p) (hcr : L'.cr = d.files.length) (hA : At w4 L' d')
    (hK : Kept (fun k => ∃ t, (L.addF d.files.length g).own (d.files.length + 1) t = some k) w3 w4) (hO : ∀ t b, L'.own d'.files.length t = some b → (L.addF d.files.length g).own (d.files.length + 1) t = some b ∨ w3.heap.size ≤ b) :
    Fin' w L d (w4.setCell ⟨L.p, 1, none⟩ (.int .i64 ((d.files.length : Int) + 1))) d' := by
  have hb' : Blk (w4.setCell ⟨L.p, 1, none⟩ (.int .i64 ((d.files.length : Int) + 1))) L'.p (dcells { L' with cr := d.files.length + 1 } d') 126 := by
    have := hA.blk.set 1 (.int .i64 ((d.files.length : Int) + 1))
    rw [hp] at this
    rw [hp]
    exact this
  have hr' : Rest (w4.setCell ⟨L.p, 1, none⟩ (.int .i64 ((d.files.length : Int) + 1))) L' d' := by
    have := hA.rest.setDsk 1 (.int .i64 ((d.files.length : Int) + 1))
    rw [hp] at this
    exact this
  refine ⟨{ L' with cr := d.files.length + 1 }, hp, hl.symm, ⟨hb', ⟨hr'.now, hr'.las, hr'.dee, hr'.box, hr'.byt, hr'.apt, hr'.plt⟩⟩, ?_, fun t b ht => ?_⟩
  · refine ((Kept.of_below (S := fun k => ∃ t, L.own d.files.length t = some k) hb (Nat.le_refl _)).trans hK (fun j hj hlt => ?_)).setCell (p := ⟨L.p, 1, none⟩) (.inl ⟨.dsk, rfl⟩) _
    obtain ⟨t, ht⟩ := hj
    rcases addF_own hr g t j ht with h1 | h1
    · exact ⟨t, h1⟩
    · omega
  · rcases hO t b ht with h1 | h1
    · rcases addF_own hr g t b h1 with h2 | h2
      · exact .inl ⟨t, h2⟩
      · rw [h2.2]; exact .inr hg
    · exact .inr (Nat.le_trans hb.size h1)

set_option maxRecDepth 100000 in
set_option maxHeartbeats 2000000 in
theorem create_any (w : World) (L : Lay) (d : Dsk) (k : Nat) (n : ByteArray) (h : Ready w L d k) (hsz : n.size ≤ 281474976710656) :
    Calls Tryz.prog 91 #[.pointer (some ⟨L.p, 0, none⟩), .string n] w fun e w' => e = .returned (cerr (d.create n).2) ∧ Fin' w L d w' (d.create n).1 := by
  have H := Lib.hid h
  have hln := h.now_len
  cases hd : isDown d.armed with
  | true =>
    rw [show d.create n = (d, 12) from by unfold Dsk.create; rw [if_pos (isDown_true hd)]]
    have HD := Lib.hid hd
    clear h hd
    go_enter Tryz.func91, Tryz.ntmps91
    go_wp2_with fail
    refine (up_any _ L d H.out.at'.blk).mono ?_
    rintro e w' ⟨rfl, rfl⟩
    rw [HD.out, if_pos rfl]
    go_wp2
    go_ret
    exact ⟨rfl, Fin'.same H.out.at' H.out.cr (Below.refl _ _)⟩
  | false =>
    have hst : d.create n = if isNm n = false then (d, 1) else if (tfind d.now n).isSome = true then (d, 8) else if 64 ≤ d.now.length then (d, 11)
      else (({ d with files := d.files ++ [⟨[], 0⟩] } : Dsk).nameD ⟨noName, n, d.files.length⟩, 0) := by unfold Dsk.create; rw [if_neg (isDown_false hd)]
    rw [hst]
    have HD := Lib.hid hd
    clear h hd hst
    cases hn : isNm n with
    | false =>
      rw [if_pos rfl]
      have HNM := Lib.hid hn
      clear hn
      go_enter Tryz.func91, Tryz.ntmps91
      go_wp2_with fail
      refine (up_any _ L d H.out.at'.blk).mono ?_
      rintro e w' ⟨rfl, rfl⟩
      rw [HD.out, if_neg (by decide)]
      go_wp2_with fail
      refine (isName_any n _ (by omega)).mono ?_
      rintro e w' ⟨rfl, rfl⟩
      rw [HNM.out]
      go_wp2
      go_ret
      exact ⟨rfl, Fin'.same H.out.at' H.out.cr (Below.refl _ _)⟩
    | true =>
      rw [if_neg (by decide)]
      have HNM := Lib.hid hn
      clear hn
      cases hf : (tfind d.now n).isSome with
      | true =>
        rw [if_pos rfl]
        have HF := Lib.hid hf
        clear hf
        obtain ⟨_, _, c2, _, _, _, _⟩ := box_facts H.out.at'.blk
        go_enter Tryz.func91, Tryz.ntmps91
        go_wp2_with fail
        refine (up_any _ L d H.out.at'.blk).mono ?_
        rintro e w' ⟨rfl, rfl⟩
        rw [HD.out, if_neg (by decide)]
        go_wp2_with fail
        refine (isName_any n _ (by omega)).mono ?_
        rintro e w' ⟨rfl, rfl⟩
        rw [HNM.out]
        go_wp2_with fail
        refine (place_any L.fb L.now d.now n _ (IsX.own H.out.at'.rest.now) H.out.ok.nowS (by omega)).mono ?_
        rintro e w1 ⟨rfl, hb⟩
        rw [HF.out]
        have HB := Lib.hid hb
        clear hb c2
        go_wp2
        go_ret
        exact ⟨rfl, Fin'.same H.out.at' H.out.cr HB.out⟩
      | false =>
        rw [if_neg (by decide)]
        have HF := Lib.hid hf
        clear hf
        obtain ⟨N, hN⟩ : ∃ N, d.now.length = N := ⟨_, rfl⟩
        have HN := Lib.hid hN
        rw [hN] at hln ⊢
        clear hN
        by_cases h64 : 64 ≤ N
        · rw [if_pos h64]
          have h64' : (64 : Int) ≤ (N : Int) := by omega
          obtain ⟨_, _, c2, _, _, _, _⟩ := box_facts H.out.at'.blk
          go_enter Tryz.func91, Tryz.ntmps91
          go_wp2_with fail
          refine (up_any _ L d H.out.at'.blk).mono ?_
          rintro e w' ⟨rfl, rfl⟩
          rw [HD.out, if_neg (by decide)]
          go_wp2_with fail
          refine (isName_any n _ (by omega)).mono ?_
          rintro e w' ⟨rfl, rfl⟩
          rw [HNM.out]
          go_wp2_with fail
          refine (place_any L.fb L.now d.now n _ (IsX.own H.out.at'.rest.now) H.out.ok.nowS (by rw [HN.out]; omega)).mono ?_
          rintro e w1 ⟨rfl, hb⟩
          rw [HF.out]
          have HB := Lib.hid hb
          clear hb c2
          obtain ⟨_, _, c2, _, _, _, _⟩ := box_facts (H.out.at'.below HB.out (Nat.le_refl _)).blk
          have hlen := fun W => len_X (P := Tryz.prog) (IsX.own H.out.at'.rest.now) 123 3 _ Tryz.underlying123 W
          rw [HN.out] at hlen
          go_wp2
          go_ret
          exact ⟨rfl, Fin'.same H.out.at' H.out.cr HB.out⟩
        · rw [if_neg h64]
          have h64' : ¬ (64 : Int) ≤ (N : Int) := by omega
          obtain ⟨_, _, c2, _, _, _, _⟩ := box_facts H.out.at'.blk
          have hfk : d.files.length ≤ 100000 := Nat.le_trans H.out.ok.filN H.out.small
          have hdk := H.out.dee_len
          obtain ⟨F, hF⟩ : ∃ F, d.files.length = F := ⟨_, rfl⟩
          have HFL := Lib.hid hF
          have HCR := Lib.hid (H.out.cr.trans hF)
          rw [hF] at hfk ⊢
          clear hF
          go_enter Tryz.func91, Tryz.ntmps91
          go_wp2_with fail
          refine (up_any _ L d H.out.at'.blk).mono ?_
          rintro e w' ⟨rfl, rfl⟩
          rw [HD.out, if_neg (by decide)]
          go_wp2_with fail
          refine (isName_any n _ (by omega)).mono ?_
          rintro e w' ⟨rfl, rfl⟩
          rw [HNM.out]
          go_wp2_with fail
          refine (place_any L.fb L.now d.now n _ (IsX.own H.out.at'.rest.now) H.out.ok.nowS (by rw [HN.out]; omega)).mono ?_
          rintro e w1 ⟨rfl, hb⟩
          rw [HF.out]
          have HB := Lib.hid hb
          have HA1 := Lib.hid (H.out.at'.below hb (Nat.le_refl _))
          clear hb c2
          obtain ⟨_, c1, c2, _, _, _, _⟩ := box_facts HA1.out.blk
          rw [HCR.out] at c1
          have hlen := fun W => len_X (P := Tryz.prog) (IsX.own H.out.at'.rest.now) 123 3 _ Tryz.underlying123 W
          rw [HN.out] at hlen
          have HB3 := Lib.hid (HB.out.alloc HB.out.size (.cells #[.int .i64 (F : Int), .slice none 0 0, .int .i64 0] 142))
          have hb1 : Below w1.heap.size w1 (w1.alloc (.cells #[.int .i64 (F : Int), .slice none 0 0, .int .i64 0] 142)) := (Below.refl _ w1).alloc (Nat.le_refl _) _
          have HR3 := Lib.hid (HA1.out.rest.addFil H.out.ok (Nat.le_refl _) (by rw [HFL.out]; exact Blk.new w1 _ _) hb1)
          have HA3 := Lib.hid (show At (w1.alloc (.cells #[.int .i64 (F : Int), .slice none 0 0, .int .i64 0] 142)) (L.addF d.files.length w1.heap.size) { d with files := d.files ++ [⟨[], 0⟩] } from ⟨(HA1.out.blk.below hb1 HA1.out.blk.lt), HR3.out⟩)
          have HQ := Lib.hid (show some (⟨w1.heap.size, 0, none⟩ : Addr) = dptr (L.addF d.files.length w1.heap.size).fb ⟨noName, n, F⟩ from by unfold dptr; rw [if_neg (isNm_ne HNM.out), addF_eq HFL.out.symm])
          clear hb1
          go_wp2_with fail
          refine (name_any _ (L.addF d.files.length w1.heap.size) _ noName n F (some ⟨w1.heap.size, 0, none⟩) HA3.out (by decide) hsz HQ.out HD.out H.out.ok.arm H.out.ok.nowS (by show d.now.length ≤ _; rw [HN.out]; omega) (by show d.deeds.length ≤ _; omega)).mono ?_
          rintro e w4 ⟨rfl, L', e1, e2, e3, e4, hA, hK, hO⟩
          have e1' : L'.p = L.p := e1
          have e4' : L'.cr = F := e4.trans HCR.out
          have hl' : (({ d with files := d.files ++ [⟨[], 0⟩] } : Dsk).nameD ⟨noName, n, F⟩).files.length = d.files.length + 1 := by show (d.files ++ [_]).length = _; simp
          have hl2 : (d.files ++ [(⟨[], 0⟩ : Fil)]).length = d.files.length + 1 := by simp
          rw [show ({ d with files := d.files ++ [⟨[], 0⟩] } : Dsk).files.length = d.files.length + 1 from hl2] at hK hO
          have HE := Lib.hid (fin_create HB3.out H.out.at'.rest HB.out.size hl' e1' (e4'.trans HFL.out.symm) hA hK hO)
          rw [HFL.out] at HE
          have c1' : w4.cell? ⟨L.p, 1, none⟩ = some (.int .i64 (F : Int)) := by
            have := (box_facts hA.blk).2.1
            rw [e1', e4'] at this
            exact this
          have g1' : w4.frozen? ⟨L.p, 1, none⟩ = false := by
            have := hA.blk.free 1
            rw [e1'] at this
            exact this
          clear hA hK hO e1 e2 e3 e4 e1' e4' hl' hl2 c1 c2
          go_wp2
          go_ret
          exact ⟨rfl, HE.out⟩

end Go.Proofs.YtoblbipkkdiddaaGreatDoor
end

section
namespace Go.Proofs.YtoblbipkkdiddaaGreatDoor
open Go.RowKit Go.Cor

theorem Tryz.infoStr : (Tryz.prog.info? 9).map (fun i => (i.zero, i.size, i.bytes)) = some (some (.string ⟨#[]⟩), 1, 16) := by kernel_rfl
theorem Tryz.sizeStr : (Tryz.prog.info? 9).map (·.size) = some 1 := by kernel_rfl
theorem index_lit {P : Program} (g n c : Nat) (T U : TypeId) (size : Nat) (ht : P.underlying T = some (.slice U)) (hs : (P.info? U).map (·.size) = some size) (i : Nat) (hi : i < n) (W : World) :
    (Instr.indexAt T (.slice (some ⟨g, 0, none⟩) n c) (.int .i64 (i : Int))).run P W = .ok (.pointer (some ⟨g, i * size, none⟩)) W := by
  obtain ⟨j, hj1, hj2⟩ := Option.map_eq_some_iff.1 hs
  have ht' : P.underlying T = some (.slice (P.elem T)) := by simp [Program.elem, ht]
  have he : P.elem T = U := by simp [Program.elem, ht]
  have hsz : ∀ W, (sizeOf U).run P W = .ok size W := fun W => by simp [sizeOf, typeInfo, hj1, hj2]
  have h0 : (0 : Int) ≤ (i : Int) := by omega
  have h1 : (i : Int) < (n : Int) := by omega
  go_simp
/-- The names as cells. -/
def nms (l : Tbl) : List Value := l.map fun e => .string e.1
def nmsTo (l : Tbl) (i : Nat) : List Value := nms (l.take i) ++ List.replicate (l.length - i) (.string ⟨#[]⟩)
theorem nmsTo_get (l : Tbl) (i : Nat) (h : i < l.length) : (nmsTo l i)[i]? = some (.string ⟨#[]⟩) := by
  unfold nmsTo nms
  rw [List.getElem?_append_right (by simp; omega), List.getElem?_replicate, if_pos (by simp; omega)]
theorem nmsTo_set (l : Tbl) (i : Nat) {e : ByteArray × Nat} (h : l[i]? = some e) : (nmsTo l i).set i (.string e.1) = nmsTo l (i + 1) := by
  obtain ⟨hi, he⟩ := List.getElem?_eq_some_iff.1 h
  unfold nmsTo nms
  have hl : (List.map (fun e : ByteArray × Nat => Value.string e.1) (l.take i)).length = i := by simp; omega
  rw [List.set_append_right _ _ (by omega), hl, Nat.sub_self, List.take_succ_eq_append_getElem hi, he, List.map_append, show l.length - i = (l.length - (i + 1)) + 1 from by omega, List.replicate_succ, List.set_cons_zero]
  simp
theorem nmsTo_all (l : Tbl) : nmsTo l l.length = nms l := by simp [nmsTo]

set_option maxRecDepth 100000 in
set_option maxHeartbeats 1000000 in
theorem names_any (w : World) (L : Lay) (d : Dsk) (k : Nat) (h : Ready w L d k) :
    Calls Tryz.prog 88 #[.pointer (some ⟨L.p, 0, none⟩)] w fun e w' => ∃ v', e = .returned v' ∧ w'.ownsRow w.heap.size 9 1 v' d.now.length (nms d.now) ∧ Below w.heap.size w w' := by
  have H := Lib.hid h
  obtain ⟨N, hN⟩ : ∃ N, d.now.length = N := ⟨_, rfl⟩
  have hNl := h.now_len
  obtain ⟨_, _, c2, _, _, _, _⟩ := box_facts h.at'.blk
  have hpl := h.at'.blk.lt
  have hlen := fun W => len_X (P := Tryz.prog) (IsX.own h.at'.rest.now) 123 3 _ Tryz.underlying123 W
  rw [hN] at hNl hlen ⊢
  obtain ⟨i0, hi, hz0, hz1, hz2⟩ := info_parts Tryz.infoStr
  obtain ⟨M, hM⟩ : ∃ M, M = madeCells (Value.string ⟨#[]⟩).cells (((N : Nat) : Int).toNat * i0.size) := ⟨_, rfl⟩
  have hMl : M.toList = nmsTo d.now 0 := by
    rw [hM, hz1]
    have : (Value.string ⟨#[]⟩).cells = #[.string ⟨#[]⟩] := rfl
    rw [this, toList_madeCells_one]
    unfold nmsTo nms
    rw [hN]
    simp
  have hmk : ∀ W : World, (Instr.makeSlice 170 (.int .i64 (N : Int)) (.int .i64 (N : Int))).run Tryz.prog W = .ok (.slice (some ⟨W.heap.size, 0, none⟩) N N) (W.alloc (.cells M 9)) := fun W => by
    have h := run_make (P := Tryz.prog) W 170 9 i0 (.string ⟨#[]⟩) Tryz.underlying170 hi hz0 .i64 .i64 (N : Int) (N : Int) (by omega) (by omega) (by rw [hz2]; omega) (by omega)
    rw [← hM] at h
    simpa using h
  have HB0 := Lib.hid (show Blk (w.alloc (.cells M 9)) w.heap.size (nmsTo d.now 0).toArray 9 from by rw [← hMl, Array.toArray_toList]; exact Blk.new w M _)
  have hix := fun (i : Nat) (hi : i < N) (W : World) => index_lit (P := Tryz.prog) w.heap.size N N 170 _ 1 Tryz.underlying170 Tryz.sizeStr i hi W
  have HIX := Lib.hid hix
  have HN := Lib.hid hN
  clear h hN hM hMl hi hz0 hz1 hz2 hix
  go_enter Tryz.func88, Tryz.ntmps88
  go_wp2
  go_loopw [19] (fun c wr => ∃ i : Nat, i ≤ N ∧ c = .int .i64 i ∧ Hid (Blk wr w.heap.size (nmsTo d.now i).toArray 9) ∧ Hid (Below w.heap.size w wr)) (fun c _ => N - (intOf c).toNat)
  case atStart => exact ⟨0, Nat.zero_le _, rfl, HB0, Lib.hid ((Below.refl _ _).alloc (Nat.le_refl _) _)⟩
  case round =>
    obtain ⟨i, hiN, rfl, hX, hB⟩ := hrel
    by_cases hlt : i < N
    · obtain ⟨e, he⟩ : ∃ e, d.now[i]? = some e := ⟨_, List.getElem?_eq_getElem (by rw [HN.out]; omega)⟩
      obtain ⟨b, o, hidx, hob, k0, k1⟩ := indexAt_T (IsX.own (ownsRow_below H.out.at'.rest.now hB.out (Nat.le_refl _))) 123 Tryz.underlying123 he
      have hbl : b < wr.heap.size := cell_lt k0
      have hgl := hX.out.lt
      have k5 := hX.out.cell i (v := .string ⟨#[]⟩) (by rw [List.getElem?_toArray]; exact nmsTo_get d.now i (by rw [HN.out]; exact hlt))
      have g5 := hX.out.free i
      have hidx2 := HIX.out i hlt
      rw [Nat.mul_one] at hidx2
      have HS := Lib.hid (nmsTo_set d.now i he)
      clear he
      go_wp2
      go_roundw
      case rel => exact ⟨i + 1, by omega, by go_num, Lib.hid (by rw [← HS.out]; have := ((hX.out.set i (.string e.1)).alloc (.cells #[.string e.1, .pointer (some ⟨L.fb e.2, 0, none⟩)] 185)); rw [List.setIfInBounds_toArray] at this; exact this), Lib.hid ((hB.out.setCell (p := ⟨w.heap.size, i, none⟩) (Nat.le_refl _) _).alloc (by simp; exact hB.out.size) _)⟩
      case measure => simp [intOf]; omega
    · obtain rfl : i = N := by omega
      go_wp2
      go_ret
      have hX' := hX.out
      rw [show nmsTo d.now i = nms d.now from by rw [← HN.out]; exact nmsTo_all _] at hX'
      exact ⟨_, rfl, ⟨by rw [Nat.mul_one, ← HN.out]; simp [nms], .inr ⟨w.heap.size, i, _, rfl, Nat.le_refl _, hX', Nat.le_refl _, by unfold maxLen; omega, by rw [List.size_toArray, Nat.mul_one, ← HN.out]; simp [nms], by rw [List.toList_toArray, Nat.mul_one]; exact List.take_of_length_le (by rw [← HN.out]; simp [nms])⟩⟩, hB.out⟩

end Go.Proofs.YtoblbipkkdiddaaGreatDoor
end

section
namespace Go.Proofs.YtoblbipkkdiddaaGreatDoor
open Go.RowKit Go.Cor

theorem turnT_sorted {l : Tbl} (h : Sorted l) (x : Dd) : Sorted (turnT l x) := by
  unfold turnT
  split
  · exact wout_sorted h _
  · exact wth_sorted (wout_sorted h _) _ _
theorem turnT_len (l : Tbl) (x : Dd) : (turnT l x).length ≤ l.length + 1 := by
  unfold turnT
  split
  · have := wout_length l x.src; omega
  · rw [wth_length]
    have h1 := wout_length (wout l x.src) x.dst
    have h2 := wout_length l x.src
    omega
theorem turnT_mem {l : Tbl} {x : Dd} {e : ByteArray × Nat} (h : e ∈ turnT l x) : e ∈ l ∨ (x.dst ≠ noName ∧ e = (x.dst, x.file)) := by
  unfold turnT at h
  split at h
  · exact .inl ((wout_sublist l x.src).mem h)
  · rename_i hd
    rcases wth_mem h with h1 | h1
    · exact .inr ⟨hd, h1⟩
    · exact .inl ((wout_sublist l x.src).mem h1)
theorem mem_set_or {α : Type} {l : List α} {i : Nat} {a x : α} (h : x ∈ l.set i a) : x ∈ l ∨ x = a := List.mem_or_eq_of_mem_set h
end Go.Proofs.YtoblbipkkdiddaaGreatDoor
end

section
namespace Go.Proofs.YtoblbipkkdiddaaGreatDoor
open Go.Cor

theorem isNm_ne' {t : ByteArray} (h : isNm t = true) : t ≠ noName := by rintro rfl; cases h
theorem Ok.more {d : Dsk} {k m : Nat} (h : d.Ok k) (hm : k ≤ m) : d.Ok m := ⟨h.cap, h.nowS, h.lasS, h.nowF, h.lasF, h.deeF, h.fil, Nat.le_trans h.filN hm, h.nowN, Nat.le_trans h.lenN hm, h.arm⟩
theorem Ok.done {d : Dsk} {k : Nat} (h : d.Ok k) : d.done.Ok k := ⟨h.cap, h.nowS, h.lasS, h.nowF, h.lasF, h.deeF, h.fil, h.filN, h.nowN, h.lenN, fun n hn => by
  unfold Dsk.done at hn
  simp only [Option.map_eq_some_iff] at hn
  obtain ⟨a, ha, rfl⟩ := hn
  have := h.arm a ha
  omega⟩
theorem Ok.nameD {d : Dsk} {k : Nat} (h : d.Ok k) {x : Dd} (h1 : x.dst = noName ∨ isNm x.dst = true ∧ x.file < d.files.length) (h2 : x.src = noName ∨ isNm x.src = true) (h3 : x.src = noName → x.dst ≠ noName) : (d.nameD x).Ok (k + 1) := by
  refine Ok.done (d := { d with now := turnT d.now x, deeds := d.deeds ++ [x] }) ⟨h.cap, turnT_sorted h.nowS x, h.lasS, fun e he => ?_, h.lasF, fun y hy => ?_, h.fil, Nat.le_succ_of_le h.filN, ?_, ?_, h.arm⟩
  · rcases turnT_mem he with h4 | ⟨h4, rfl⟩
    · exact h.nowF e h4
    · rcases h1 with h5 | h5
      · exact absurd h5 h4
      · exact ⟨h5.2, h5.1⟩
  · rcases List.mem_append.1 hy with h4 | h4
    · exact h.deeF y h4
    · have e : y = x := by simpa using h4
      subst e
      exact ⟨h1, h2, h3⟩
  · have := turnT_len d.now x
    have := h.nowN
    simp only [List.length_append, List.length_cons, List.length_nil]
    omega
  · have := h.lenN
    simp only [List.length_append, List.length_cons, List.length_nil]
    omega
theorem Ok.setF {d : Dsk} {k j : Nat} {f : Fil} (h : d.Ok k) (hf : f.lasts ≤ f.b.length ∧ f.b.length ≤ 16777216) : (d.setF j f).Ok k := by
  have hl : (d.files.set j f).length = d.files.length := by simp
  refine ⟨h.cap, h.nowS, h.lasS, fun e he => ?_, fun e he => ?_, fun y hy => ?_, fun g hg => ?_, ?_, h.nowN, h.lenN, h.arm⟩
  · have := h.nowF e he; exact ⟨by show _ < (d.files.set j f).length; rw [hl]; exact this.1, this.2⟩
  · have := h.lasF e he; exact ⟨by show _ < (d.files.set j f).length; rw [hl]; exact this.1, this.2⟩
  · have := h.deeF y hy
    refine ⟨this.1.imp id (fun h => ⟨h.1, by show _ < (d.files.set j f).length; rw [hl]; exact h.2⟩), this.2⟩
  · rcases mem_set_or hg with h1 | h1
    · exact h.fil g h1
    · subst h1; exact hf
  · show (d.files.set j f).length ≤ k
    rw [hl]
    exact h.filN
theorem Ok.file {d : Dsk} {k : Nat} (h : d.Ok k) {n : ByteArray} {j : Nat} (hf : tfind d.now n = some j) : j < d.files.length ∧ isNm n = true := h.nowF _ (tfind_mem hf)
theorem Ok.fat {d : Dsk} {k : Nat} (h : d.Ok k) {j : Nat} (hj : j < d.files.length) : (fat d.files j).lasts ≤ (fat d.files j).b.length ∧ (fat d.files j).b.length ≤ 16777216 := h.fil _ (fat_mem hj)
theorem Ok.addF {d : Dsk} {k : Nat} (h : d.Ok k) : ({ d with files := d.files ++ [⟨[], 0⟩] } : Dsk).Ok (k + 1) := by
  have hl : (d.files ++ [(⟨[], 0⟩ : Fil)]).length = d.files.length + 1 := by simp
  refine ⟨h.cap, h.nowS, h.lasS, fun e he => ?_, fun e he => ?_, fun y hy => ?_, fun g hg => ?_, ?_, h.nowN, Nat.le_succ_of_le h.lenN, h.arm⟩
  · have := h.nowF e he; exact ⟨by show _ < (d.files ++ [_]).length; rw [hl]; omega, this.2⟩
  · have := h.lasF e he; exact ⟨by show _ < (d.files ++ [_]).length; rw [hl]; omega, this.2⟩
  · have := h.deeF y hy
    refine ⟨this.1.imp id (fun h => ⟨h.1, by show _ < (d.files ++ [_]).length; rw [hl]; omega⟩), this.2⟩
  · rcases List.mem_append.1 hg with h1 | h1
    · exact h.fil g h1
    · have : g = ⟨[], 0⟩ := by simpa using h1
      subst this
      exact ⟨Nat.le_refl _, Nat.zero_le _⟩
  · show (d.files ++ [_]).length ≤ k + 1
    rw [hl]
    have := h.filN
    omega
theorem Ok.create {d : Dsk} {k : Nat} (h : d.Ok k) (n : ByteArray) : (d.create n).1.Ok (k + 2) := by
  unfold Dsk.create
  split
  · exact Ok.more h (by omega)
  split
  · exact Ok.more h (by omega)
  split
  · exact Ok.more h (by omega)
  split
  · exact Ok.more h (by omega)
  · rename_i hn _ _
    have hn' : isNm n = true := by simpa using hn
    exact Ok.nameD (Ok.addF h) (.inr ⟨hn', by show d.files.length < (d.files ++ [_]).length; simp⟩) (.inl rfl) (fun _ => isNm_ne' hn')
theorem on_ok {d : Dsk} {k : Nat} (h : d.Ok k) (n : ByteArray) (f : Nat → Dsk × Nat) (hf : ∀ j, tfind d.now n = some j → (f j).1.Ok (k + 2)) : (d.on n (fun c => (d, c)) f).1.Ok (k + 2) := by
  unfold Dsk.on
  split
  · exact Ok.more h (by omega)
  · cases he : tfind d.now n with
    | none => exact Ok.more h (by omega)
    | some j => exact hf j he
theorem Ok.append {d : Dsk} {k : Nat} (h : d.Ok k) (n : ByteArray) (b : List UInt8) : (d.append n b).1.Ok (k + 2) := by
  refine on_ok h n _ fun j hj => ?_
  split
  · exact Ok.more h (by omega)
  split
  · exact Ok.more h (by omega)
  · have := Ok.fat h (Ok.file h hj).1
    exact Ok.more (Ok.done (Ok.setF h ⟨by simp only [List.length_append]; omega, by simp only [List.length_append]; omega⟩)) (by omega)
theorem Ok.sync {d : Dsk} {k : Nat} (h : d.Ok k) (n : ByteArray) : (d.sync n).1.Ok (k + 2) := by
  refine on_ok h n _ fun j hj => ?_
  have := Ok.fat h (Ok.file h hj).1
  exact Ok.more (Ok.done (Ok.setF h ⟨Nat.le_refl _, this.2⟩)) (by omega)
theorem Ok.syncNames {d : Dsk} {k : Nat} (h : d.Ok k) : d.syncNames.1.Ok (k + 2) := by
  unfold Dsk.syncNames
  split
  · exact Ok.more h (by omega)
  · refine Ok.more (Ok.done (d := d.syncN) (k := k) ⟨h.cap, h.nowS, h.nowS, h.nowF, h.nowF, (fun x hx => by cases hx), h.fil, h.filN, Nat.le_refl _, ?_, h.arm⟩) (by omega)
    have := h.nowN
    have := h.lenN
    show d.now.length + 0 ≤ k
    omega
theorem Ok.rename {d : Dsk} {k : Nat} (h : d.Ok k) (n t : ByteArray) : (d.rename n t).1.Ok (k + 2) := by
  refine on_ok h n _ fun j hj => ?_
  split
  · exact Ok.more h (by omega)
  · rename_i hn
    have hn' : isNm t = true := by simpa using hn
    have hf := Ok.file h hj
    exact Ok.more (Ok.nameD h (.inr ⟨hn', hf.1⟩) (.inr hf.2) (fun _ => isNm_ne' hn')) (by omega)
theorem Ok.armed {d : Dsk} {k : Nat} (h : d.Ok k) (m : Int) (hm : m ≤ 9223372036854775807) : (d.arm m).1.Ok (k + 2) := by
  unfold Dsk.arm
  split
  · exact Ok.more h (by omega)
  split
  · exact Ok.more h (by omega)
  · exact Ok.more (d := { d with armed := some m.toNat }) (k := k) ⟨h.cap, h.nowS, h.lasS, h.nowF, h.lasF, h.deeF, h.fil, h.filN, h.nowN, h.lenN, fun n hn => by cases hn; omega⟩ (by omega)
theorem Ok.spoil {d : Dsk} {k : Nat} (h : d.Ok k) (n : ByteArray) (m : Int) (x : UInt8) : (d.spoil n m x).1.Ok (k + 2) := by
  refine on_ok h n _ fun j hj => ?_
  split
  · exact Ok.more h (by omega)
  · have := Ok.fat h (Ok.file h hj).1
    exact Ok.more (Ok.setF h ⟨by simp only [List.length_set]; exact this.1, by simp only [List.length_set]; exact this.2⟩) (by omega)
end Go.Proofs.YtoblbipkkdiddaaGreatDoor
end

section
namespace Go.Proofs.YtoblbipkkdiddaaGreatDoor
open Go.RowKit Go.Cor

theorem find_nil (n : ByteArray) (w : World) : Calls Tryz.prog 60 #[.pointer none, .string n] w fun e w' => e = .returned (.tuple #[.pointer none, ercode 15]) ∧ w = w' := by
  go_enter Tryz.func60, Tryz.ntmps60
  go_wp2_with fail
  refine (up_nil _).mono ?_
  rintro e w' ⟨rfl, rfl⟩
  go_wp2
  go_ret2
  exact ⟨rfl, rfl⟩
theorem append_nil (n : ByteArray) (v : Value) (w : World) : Calls Tryz.prog 83 #[.pointer none, .string n, v] w fun e w' => e = .returned (ercode 15) ∧ w = w' := by
  go_enter Tryz.func83, Tryz.ntmps83
  go_wp2_with fail
  refine (find_nil n _).mono ?_
  rintro e w' ⟨rfl, rfl⟩
  go_wp2
  go_ret
  exact ⟨rfl, rfl⟩
end Go.Proofs.YtoblbipkkdiddaaGreatDoor
end

section
namespace Go.Proofs.YtoblbipkkdiddaaGreatDoor
open Go.RowKit Go.Extern.Stop Go.Stop Go.Extern

/-- Are two codes, as errors, one and the same? As their numbers are. -/
theorem eql_codes {P : Program} {E C : TypeId} {ms : Array (String × TypeId)} {inf : TypeInfo} (x y : Int) (w : World)
    (h1 : P.underlying E = some (.interface ms)) (h2 : P.underlying C = some (.int .i64)) (h3 : P.info? C = some inf) (h4 : inf.comparable = true) :
    (binOp .eql E (.iface C (.int .i64 x)) (.iface C (.int .i64 y))).run P w = .ok (.bool (x == y)) w := by
  have depth : ∀ d, (Op.equalIn (d + 2) E (.iface C (.int .i64 x)) (.iface C (.int .i64 y))).run P w = .ok (x == y) w := fun d => by
    simp [Op.equalIn, typeInfo, run_underlying h1, run_underlying h2, h3, h4]
  have d := depth 9998
  simp only [binOp]
  simp [Op.equal, Op.maxDepth, d]

theorem Tryz.isTypeOf (v : Value) (w : World) : (Extern.ReflectliteType.typeOf #[.iface 92 v]).run Tryz.prog w = .ok (.iface 187 (.agg #[.pointer (some ⟨4, 92, none⟩)])) w := by kernel_rfl
theorem Tryz.isComparable (w : World) : ((Extern.ReflectliteType.method fun t => do Rtype.noPackHeld "Comparable" t; (fun a => Value.bool a.comparable) <$> typeInfo t) #[.agg #[.pointer (some ⟨4, 92, none⟩)]]).run Tryz.prog w = .ok (.bool true) w := by kernel_rfl
theorem Tryz.isComp : (Tryz.prog.info? 92).map (·.comparable) = some true := by kernel_rfl
theorem Tryz.noIs (v : Value) (xT : TypeId) (w : World) : (Instr.typeAssert (.iface 92 v) xT 189 true).run Tryz.prog w = .ok (.tuple #[.nilIface, .bool false]) w := run_typeAssert_lacksB Tryz.underlying189 (by kernel_rfl) (by kernel_rfl) v xT w
theorem Tryz.noUnwrap (v : Value) (xT : TypeId) (w : World) : (Instr.typeAssert (.iface 92 v) xT 192 true).run Tryz.prog w = .ok (.tuple #[.nilIface, .bool false]) w := run_typeAssert_lacksB Tryz.underlying192 (by kernel_rfl) (by kernel_rfl) v xT w
theorem Tryz.noUnwraps (v : Value) (xT : TypeId) (w : World) : (Instr.typeAssert (.iface 92 v) xT 193 true).run Tryz.prog w = .ok (.tuple #[.nilIface, .bool false]) w := run_typeAssert_lacksB Tryz.underlying193 (by kernel_rfl) (by kernel_rfl) v xT w

/-- errors.Is of a code and itself. -/
theorem is_same (a : Int) (w : World) :
    Calls Tryz.prog 33 #[.iface 92 (.int .i64 a), .iface 92 (.int .i64 a)] w fun e w' => e = .returned (.bool true) ∧ w = w' := by
  obtain ⟨i, hi, hcmp⟩ := Option.map_eq_some_iff.1 Tryz.isComp
  have h8 := @run_callFunc_extern Tryz.prog 67 _ Extern.ReflectliteType.typeOf Tryz.func67 (by kernel_rfl) (by kernel_rfl) (by kernel_rfl) (by kernel_rfl)
  have h32 := @run_callFunc_extern Tryz.prog 179 _ (Extern.ReflectliteType.method fun t => do Rtype.noPackHeld "Comparable" t; pure (.bool (← typeInfo t).comparable)) Tryz.func179 (by kernel_rfl) (by kernel_rfl) (by kernel_rfl) (by kernel_rfl)
  have tT := Tryz.isTypeOf
  have cT := Tryz.isComparable
  have mR : ∀ (v : Value) (w : World), (Go.method 378 187 v "Comparable").run Tryz.prog w = .ok (179, v) w := fun v w => by kernel_rfl
  have heq := eql_codes (P := Tryz.prog) a a w Tryz.underlying37 Tryz.underlying92 hi hcmp
  have hb : (a == a) = true := by simp
  go_enter Tryz.func33, Tryz.ntmps33
  go_wp2
  refine wp_loop_rounds 1 ?_
  rw [rounds_succ]
  go_wp2
  go_ret
  exact ⟨rfl, rfl⟩

/-- errors.Is of two unlike codes. -/
theorem is_other (a b : Int) (w : World) (hne : a ≠ b) :
    Calls Tryz.prog 33 #[.iface 92 (.int .i64 a), .iface 92 (.int .i64 b)] w fun e w' => e = .returned (.bool false) ∧ w = w' := by
  obtain ⟨i, hi, hcmp⟩ := Option.map_eq_some_iff.1 Tryz.isComp
  have h8 := @run_callFunc_extern Tryz.prog 67 _ Extern.ReflectliteType.typeOf Tryz.func67 (by kernel_rfl) (by kernel_rfl) (by kernel_rfl) (by kernel_rfl)
  have h32 := @run_callFunc_extern Tryz.prog 179 _ (Extern.ReflectliteType.method fun t => do Rtype.noPackHeld "Comparable" t; pure (.bool (← typeInfo t).comparable)) Tryz.func179 (by kernel_rfl) (by kernel_rfl) (by kernel_rfl) (by kernel_rfl)
  have tT := Tryz.isTypeOf
  have cT := Tryz.isComparable
  have mR : ∀ (v : Value) (w : World), (Go.method 378 187 v "Comparable").run Tryz.prog w = .ok (179, v) w := fun v w => by kernel_rfl
  have nI := Tryz.noIs
  have nU := Tryz.noUnwrap
  have nV := Tryz.noUnwraps
  have heq := eql_codes (P := Tryz.prog) a b w Tryz.underlying37 Tryz.underlying92 hi hcmp
  have hb : (a == b) = false := by simpa using hne
  go_enter Tryz.func33, Tryz.ntmps33
  go_wp2
  refine wp_loop_rounds 1 ?_
  rw [rounds_succ]
  go_wp2
  go_ret
  exact ⟨rfl, rfl⟩

/-- Code of no error. -/
theorem code_nil (w : World) :
    Calls Tryz.prog 13 #[.nilIface] w fun e w' => e = .returned (.int .i64 0) ∧ w = w' := by
  go_enter Tryz.func13, Tryz.ntmps13
  go_wp2
  go_ret
  exact ⟨rfl, rfl⟩

/-- Code of a code. -/
theorem code_code (k : Int) (w : World) (h1 : 1 ≤ k) (h2 : k ≤ 17) :
    Calls Tryz.prog 13 #[.iface 92 (.int .i64 k)] w fun e w' => e = .returned (.int .i64 k) ∧ w = w' := by
  go_enter Tryz.func13, Tryz.ntmps13
  go_wp2
  go_loop [3] (fun c => ∃ j : Int, 1 ≤ j ∧ j ≤ k ∧ c = .int .i64 j) (fun c => 18 - (intOf c).toNat)
  case atStart => exact ⟨1, by omega, by omega, rfl⟩
  case round =>
    obtain ⟨j, hj1, hj2, rfl⟩ := hrel
    have hj17 : j ≤ 17 := by omega
    by_cases hkj : k = j
    · subst hkj
      go_wp2_with (go_at_call 33; refine (is_same _ _).mono ?_; rintro e w' ⟨rfl, rfl⟩)
      go_ret
      exact ⟨rfl, rfl⟩
    · have hlt : j + 1 ≤ k := by omega
      go_wp2_with (go_at_call 33; refine (is_other _ _ _ hkj).mono ?_; rintro e w' ⟨rfl, rfl⟩)
      go_round
      case rel => exact ⟨j + 1, by omega, by omega, rfl⟩
      case measure => simp [intOf]; omega

end Go.Proofs.YtoblbipkkdiddaaGreatDoor
end

section
namespace Go.Proofs.YtoblbipkkdiddaaGreatDoor
open Go.RowKit Go.Cor

/-- A disk: its box, where it may lie, what it is; k: no more than so many calls. -/
structure Dk (w : World) (p : Nat) (S : Nat → Prop) (d : Dsk) (k : Nat) : Prop where
  is : IsD w p S d
  ok : d.Ok k
  small : k ≤ 90000
  lt : ∀ b, S b → b < w.heap.size
/-- What a call of a disk leaves. -/
def Dt (w w' : World) (p : Nat) (S : Nat → Prop) (d' : Dsk) (k' : Nat) : Prop := ∃ S' : Nat → Prop, Dk w' p S' d' k' ∧ Kept S w w' ∧ ∀ b, S' b → S b ∨ w.heap.size ≤ b
theorem Dk.kept {S T : Nat → Prop} {w w' : World} {p k : Nat} {d : Dsk} (h : Dk w p S d k) (hk : Kept T w w') (hT : ∀ b, S b → ¬ T b) : Dk w' p S d k := ⟨h.is.kept hk hT, h.ok, h.small, fun b hb => Nat.lt_of_lt_of_le (h.lt b hb) hk.size⟩
theorem Dk.below {S : Nat → Prop} {w w' : World} {p k B : Nat} {d : Dsk} (h : Dk w p S d k) (hb : Below B w w') (hB : w.heap.size ≤ B) : Dk w' p S d k := h.kept (Kept.of_below (S := fun _ => False) hb hB) (fun _ _ h => h)
theorem Dt.of {w w' : World} {L : Lay} {S : Nat → Prop} {d d' : Dsk} {k' : Nat} (hS : ∀ t b, L.own d.files.length t = some b → S b) (hf : Fin' w L d w' d') (ok : d'.Ok k') (hs : k' ≤ 90000) : Dt w w' L.p S d' k' := by
  obtain ⟨S', h1, h2, h3⟩ := Turned.of_fin hS hf
  exact ⟨S', ⟨h1, ok, hs, fun b hb => (h3 b hb).2⟩, h2, fun b hb => (h3 b hb).1⟩
theorem create_u (w : World) (p : Nat) (S : Nat → Prop) (d : Dsk) (k : Nat) (n : ByteArray) (h : Dk w p S d k) (hk : k + 2 ≤ 90000) (hn : n.size ≤ 281474976710656) :
    Calls Tryz.prog 91 #[.pointer (some ⟨p, 0, none⟩), .string n] w fun e w' => e = .returned (cerr (d.create n).2) ∧ Dt w w' p S (d.create n).1 (k + 2) := by
  have hok := h.ok
  obtain ⟨⟨L, rfl, hc, hA, hS⟩, _, hs, _⟩ := h
  refine (create_any w L d k n ⟨hA, hc, hok, by omega⟩ hn).mono ?_
  rintro e w' ⟨rfl, hf⟩
  exact ⟨rfl, Dt.of hS hf (Ok.create hok n) hk⟩
theorem append_u (w : World) (p : Nat) (S : Nat → Prop) (d : Dsk) (k : Nat) (n : ByteArray) (v : Value) (l : List UInt8) (h : Dk w p S d k) (hk : k + 2 ≤ 90000) (hv : IsB w v l) (hl : l.length ≤ 16777216) :
    Calls Tryz.prog 83 #[.pointer (some ⟨p, 0, none⟩), .string n, v] w fun e w' => e = .returned (cerr (d.append n l).2) ∧ Dt w w' p S (d.append n l).1 (k + 2) := by
  have hok := h.ok
  obtain ⟨⟨L, rfl, hc, hA, hS⟩, _, hs, _⟩ := h
  refine (append_any w L d k n v l ⟨hA, hc, hok, by omega⟩ hv hl).mono ?_
  rintro e w' ⟨rfl, hf⟩
  exact ⟨rfl, Dt.of hS hf (Ok.append hok n l) hk⟩
theorem sync_u (w : World) (p : Nat) (S : Nat → Prop) (d : Dsk) (k : Nat) (n : ByteArray) (h : Dk w p S d k) (hk : k + 2 ≤ 90000) :
    Calls Tryz.prog 85 #[.pointer (some ⟨p, 0, none⟩), .string n] w fun e w' => e = .returned (cerr (d.sync n).2) ∧ Dt w w' p S (d.sync n).1 (k + 2) := by
  have hok := h.ok
  obtain ⟨⟨L, rfl, hc, hA, hS⟩, _, hs, _⟩ := h
  refine (sync_any w L d k n ⟨hA, hc, hok, by omega⟩).mono ?_
  rintro e w' ⟨rfl, hf⟩
  exact ⟨rfl, Dt.of hS hf (Ok.sync hok n) hk⟩
theorem syncNames_u (w : World) (p : Nat) (S : Nat → Prop) (d : Dsk) (k : Nat) (h : Dk w p S d k) (hk : k + 2 ≤ 90000) :
    Calls Tryz.prog 95 #[.pointer (some ⟨p, 0, none⟩)] w fun e w' => e = .returned (cerr (d.syncNames).2) ∧ Dt w w' p S (d.syncNames).1 (k + 2) := by
  have hok := h.ok
  obtain ⟨⟨L, rfl, hc, hA, hS⟩, _, hs, _⟩ := h
  refine (syncNames_any w L d k  ⟨hA, hc, hok, by omega⟩).mono ?_
  rintro e w' ⟨rfl, hf⟩
  exact ⟨rfl, Dt.of hS hf (Ok.syncNames hok) hk⟩
theorem rename_u (w : World) (p : Nat) (S : Nat → Prop) (d : Dsk) (k : Nat) (n t : ByteArray) (h : Dk w p S d k) (hk : k + 2 ≤ 90000) (hn : n.size ≤ 281474976710656) (ht : t.size ≤ 281474976710656) :
    Calls Tryz.prog 94 #[.pointer (some ⟨p, 0, none⟩), .string n, .string t] w fun e w' => e = .returned (cerr (d.rename n t).2) ∧ Dt w w' p S (d.rename n t).1 (k + 2) := by
  have hok := h.ok
  obtain ⟨⟨L, rfl, hc, hA, hS⟩, _, hs, _⟩ := h
  refine (rename_any w L d k n t ⟨hA, hc, hok, by omega⟩ hn ht).mono ?_
  rintro e w' ⟨rfl, hf⟩
  exact ⟨rfl, Dt.of hS hf (Ok.rename hok n t) hk⟩
theorem spoil_u (w : World) (p : Nat) (S : Nat → Prop) (d : Dsk) (k : Nat) (n : ByteArray) (z : Int) (x : UInt8) (h : Dk w p S d k) (hk : k + 2 ≤ 90000) (hm1 : -9223372036854775808 ≤ z) (hm2 : z ≤ 9223372036854775807) :
    Calls Tryz.prog 28 #[.pointer (some ⟨p, 0, none⟩), .string n, .int .i64 z, .int .u8 (x.toNat : Int)] w fun e w' => e = .returned (cerr (d.spoil n z x).2) ∧ Dt w w' p S (d.spoil n z x).1 (k + 2) := by
  have hok := h.ok
  obtain ⟨⟨L, rfl, hc, hA, hS⟩, _, hs, _⟩ := h
  refine (spoil_any w L d k n z x ⟨hA, hc, hok, by omega⟩ hm1 hm2).mono ?_
  rintro e w' ⟨rfl, hf⟩
  exact ⟨rfl, Dt.of hS hf (Ok.spoil hok n z x) hk⟩
theorem read_u (w : World) (p : Nat) (S : Nat → Prop) (d : Dsk) (k : Nat) (n : ByteArray) (m z : Int) (h : Dk w p S d k) (hm1 : -9223372036854775808 ≤ m) (hm2 : m ≤ 9223372036854775807) (hz1 : -9223372036854775808 ≤ z) (hz2 : z ≤ 9223372036854775807) :
    Calls Tryz.prog 73 #[.pointer (some ⟨p, 0, none⟩), .string n, .int .i64 m, .int .i64 z] w fun e w' => ∃ v', e = .returned (.tuple #[v', cerr (d.read n m z).2]) ∧ w'.ownsRow w.heap.size 5 1 v' (d.read n m z).1.length (bvs (d.read n m z).1) ∧ Below w.heap.size w w' := by
  have hok := h.ok
  obtain ⟨⟨L, rfl, hc, hA, hS⟩, _, hs, _⟩ := h
  exact read_any w L d k n m z ⟨hA, hc, hok, by omega⟩ hm1 hm2 hz1 hz2
theorem names_u (w : World) (p : Nat) (S : Nat → Prop) (d : Dsk) (k : Nat) (h : Dk w p S d k) :
    Calls Tryz.prog 88 #[.pointer (some ⟨p, 0, none⟩)] w fun e w' => ∃ v', e = .returned v' ∧ w'.ownsRow w.heap.size 9 1 v' d.now.length (nms d.now) ∧ Below w.heap.size w w' := by
  have hok := h.ok
  obtain ⟨⟨L, rfl, hc, hA, hS⟩, _, hs, _⟩ := h
  exact names_any w L d k ⟨hA, hc, hok, by omega⟩
theorem new_u (cap : Nat) (w : World) (hc : cap ≤ 1073741824) :
    Calls Tryz.prog 24 #[.int .i64 (cap : Int)] w fun e w' => ∃ p, e = .returned (.tuple #[.pointer (some ⟨p, 0, none⟩), .nilIface]) ∧ Dk w' p (fun b => b = p) (newD cap) 0 ∧ w.heap.size ≤ p ∧ Below w.heap.size w w' := by
  refine (new_ok cap w hc).mono ?_
  rintro e w' ⟨rfl, h1, h2, h3⟩
  exact ⟨_, rfl, ⟨h1, ⟨hc, List.Pairwise.nil, List.Pairwise.nil, (fun e he => by cases he), (fun e he => by cases he), (fun e he => by cases he), (fun e he => by cases he), Nat.le_refl _, Nat.le_refl _, Nat.le_refl _, (fun n hn => by cases hn)⟩, by decide, fun b hb => by rw [hb]; exact h3⟩, Nat.le_refl _, h2⟩
theorem code_any (k : Nat) (w : World) (hk : k ≤ 17) :
    Calls Tryz.prog 13 #[cerr k] w fun e w' => e = .returned (.int .i64 (k : Int)) ∧ w = w' := by
  by_cases h : k = 0
  · subst h
    exact code_nil w
  · rw [cerr_pos h]
    exact code_code k w (by omega) (by omega)

end Go.Proofs.YtoblbipkkdiddaaGreatDoor
end

section
namespace Go.Cor

/-- A position. -/
structure Pos where
  key : Nat
  off : Int
  len : Int
  cookie : Nat
  gone : Bool

theorem Pos.ext' {a b : Pos} (h1 : a.key = b.key) (h2 : a.off = b.off) (h3 : a.len = b.len) (h4 : a.cookie = b.cookie) (h5 : a.gone = b.gone) : a = b := by
  cases a
  cases b
  simp_all
instance instDecPos : DecidableEq Pos := fun a b => decidable_of_iff (a.key = b.key ∧ a.off = b.off ∧ a.len = b.len ∧ a.cookie = b.cookie ∧ a.gone = b.gone)
  ⟨fun h => Pos.ext' h.1 h.2.1 h.2.2.1 h.2.2.2.1 h.2.2.2.2, fun h => by subst h; exact ⟨rfl, rfl, rfl, rfl, rfl⟩⟩

/-- Its numbers fit. -/
def Pos.fits (p : Pos) : Prop := p.key < 18446744073709551616 ∧ p.cookie < 4294967296 ∧ (-9223372036854775808 ≤ p.off ∧ p.off ≤ 9223372036854775807) ∧ (-9223372036854775808 ≤ p.len ∧ p.len ≤ 9223372036854775807)
def pzero : Pos := ⟨0, 0, 0, 0, false⟩
/-- The position at a place. -/
abbrev pat (ps : List Pos) (i : Nat) : Pos := ps.getD i pzero
theorem pat_of {ps : List Pos} {i : Nat} {p : Pos} (h : ps[i]? = some p) : pat ps i = p := by simp [pat, List.getD_eq_getElem?_getD, h]
theorem get_pat {ps : List Pos} {i : Nat} (h : i < ps.length) : ps[i]? = some (pat ps i) := by simp [pat, List.getD_eq_getElem?_getD, List.getElem?_eq_getElem h]
theorem pat_mem {ps : List Pos} {i : Nat} (h : i < ps.length) : pat ps i ∈ ps := List.mem_of_getElem? (get_pat h)
theorem take_snoc {ps : List Pos} {i : Nat} (h : i < ps.length) : ps.take (i + 1) = ps.take i ++ [pat ps i] := by
  rw [List.take_add_one, get_pat h]
  rfl

/-- How many keys stand ahead of k. -/
def psn : List Pos → Nat → Nat
  | [], _ => 0
  | q :: r, k => if q.key < k then psn r k + 1 else 0
theorem psn_le (l : List Pos) (k : Nat) : psn l k ≤ l.length := by
  induction l with
  | nil => simp [psn]
  | cons q r ih =>
    simp only [psn]
    split <;> simp <;> omega
theorem psn_below {l : List Pos} {k i : Nat} {e : Pos} (h : l[i]? = some e) (hi : i < psn l k) : e.key < k := by
  induction l generalizing i with
  | nil => simp at h
  | cons q r ih =>
    simp only [psn] at hi
    split at hi
    · cases i with
      | zero =>
        simp at h
        subst h
        assumption
      | succ i => exact ih (by simpa using h) (by omega)
    · omega
/-- By rising keys, no key twice. -/
def Asc (l : List Pos) : Prop := l.Pairwise (fun p q => p.key < q.key)
theorem Asc.nil : Asc [] := List.Pairwise.nil
theorem psn_above {l : List Pos} {k i : Nat} {e : Pos} (hs : Asc l) (h : l[i]? = some e) (hi : psn l k ≤ i) : k ≤ e.key := by
  induction l generalizing i with
  | nil => simp at h
  | cons q r ih =>
    have hq := List.pairwise_cons.1 hs
    simp only [psn] at hi
    split at hi
    · cases i with
      | zero => omega
      | succ i => exact ih hq.2 (by simpa using h) (by omega)
    · cases i with
      | zero =>
        simp at h
        subst h
        omega
      | succ i =>
        have := hq.1 e (List.mem_of_getElem? (i := i) (by simpa using h))
        omega
theorem Asc.lt {l : List Pos} (hs : Asc l) {i j : Nat} {p q : Pos} (hi : l[i]? = some p) (hj : l[j]? = some q) (h : i < j) : p.key < q.key := by
  obtain ⟨hi1, rfl⟩ := List.getElem?_eq_some_iff.1 hi
  obtain ⟨hj1, rfl⟩ := List.getElem?_eq_some_iff.1 hj
  exact List.pairwise_iff_getElem.1 hs i j hi1 hj1 h
/-- The position of a key. -/
def fnd (l : List Pos) (k : Nat) : Option Pos := (l[psn l k]?).filter (fun q => q.key == k)
theorem fnd_iff {l : List Pos} (hs : Asc l) {k : Nat} {q : Pos} : fnd l k = some q ↔ q ∈ l ∧ q.key = k := by
  unfold fnd
  rw [Option.filter_eq_some_iff]
  constructor
  · rintro ⟨h1, h2⟩
    exact ⟨List.mem_of_getElem? h1, by simpa using h2⟩
  · rintro ⟨h1, h2⟩
    refine ⟨?_, by simpa using h2⟩
    obtain ⟨i, hi⟩ := List.getElem?_of_mem h1
    by_cases h3 : i < psn l k
    · have := psn_below hi h3
      omega
    by_cases h4 : i = psn l k
    · rw [← h4]
      exact hi
    · have hlt := (List.getElem?_eq_some_iff.1 hi).1
      have he : l[psn l k]? = some (pat l (psn l k)) := get_pat (by omega)
      have h5 := psn_above hs he (Nat.le_refl _)
      have h6 := hs.lt he hi (by omega)
      omega
theorem fnd_at {l : List Pos} {k : Nat} {q : Pos} (h : fnd l k = some q) : l[psn l k]? = some q ∧ q.key = k := by
  unfold fnd at h
  rw [Option.filter_eq_some_iff] at h
  exact ⟨h.1, by simpa using h.2⟩
theorem mem_fnd {l : List Pos} (hs : Asc l) {q : Pos} : q ∈ l ↔ fnd l q.key = some q := by
  rw [fnd_iff hs]
  exact ⟨fun h => ⟨h, rfl⟩, fun h => h.1⟩

/-- A position put. -/
def put : List Pos → Pos → List Pos
  | [], p => [p]
  | q :: r, p => if q.key < p.key then q :: put r p else if q.key = p.key then p :: r else p :: q :: r
theorem put_mem {l : List Pos} (hs : Asc l) (p q : Pos) : q ∈ put l p ↔ q = p ∨ q ∈ l ∧ q.key ≠ p.key := by
  induction l with
  | nil => simp [put]
  | cons a r ih =>
    obtain ⟨h1, h2⟩ := List.pairwise_cons.1 hs
    have ih := ih h2
    simp only [put]
    split
    · rw [List.mem_cons, ih, List.mem_cons]
      constructor
      · rintro (rfl | rfl | h)
        · exact .inr ⟨.inl rfl, by omega⟩
        · exact .inl rfl
        · exact .inr ⟨.inr h.1, h.2⟩
      · rintro (rfl | ⟨rfl | h, h'⟩)
        · exact .inr (.inl rfl)
        · exact .inl rfl
        · exact .inr (.inr ⟨h, h'⟩)
    · split
      · rw [List.mem_cons, List.mem_cons]
        constructor
        · rintro (rfl | h)
          · exact .inl rfl
          · have := h1 q h
            exact .inr ⟨.inr h, by omega⟩
        · rintro (rfl | ⟨rfl | h, h'⟩)
          · exact .inl rfl
          · omega
          · exact .inr h
      · rw [List.mem_cons]
        constructor
        · rintro (rfl | h)
          · exact .inl rfl
          · refine .inr ⟨h, ?_⟩
            rcases List.mem_cons.1 h with rfl | h
            · omega
            · have := h1 q h
              omega
        · rintro (rfl | h)
          · exact .inl rfl
          · exact .inr h.1
theorem put_asc {l : List Pos} (hs : Asc l) (p : Pos) : Asc (put l p) := by
  induction l with
  | nil => simp [put, Asc]
  | cons a r ih =>
    obtain ⟨h1, h2⟩ := List.pairwise_cons.1 hs
    simp only [put]
    split
    · refine List.pairwise_cons.2 ⟨fun q hq => ?_, ih h2⟩
      rcases (put_mem h2 p q).1 hq with rfl | h
      · assumption
      · exact h1 q h.1
    · split
      · refine List.pairwise_cons.2 ⟨fun q hq => ?_, h2⟩
        have := h1 q hq
        omega
      · refine List.pairwise_cons.2 ⟨fun q hq => ?_, hs⟩
        rcases List.mem_cons.1 hq with rfl | h
        · omega
        · have := h1 q h
          omega
theorem put_there {l : List Pos} {p q : Pos} (h : fnd l p.key = some q) : put l p = l.set (psn l p.key) p := by
  induction l with
  | nil => simp [fnd] at h
  | cons a r ih =>
    simp only [put, psn]
    split
    · rename_i hlt
      rw [List.set_cons_succ, ih]
      simpa [fnd, psn, hlt] using h
    · rename_i hlt
      have : a.key = p.key := by
        have := fnd_at h
        simp only [psn, if_neg hlt, List.getElem?_cons_zero, Option.some.injEq] at this
        rw [this.1]
        exact this.2
      rw [if_pos this, List.set_cons_zero]
theorem put_new {l : List Pos} {p : Pos} (h : fnd l p.key = none) : put l p = l.take (psn l p.key) ++ p :: l.drop (psn l p.key) := by
  induction l with
  | nil => rfl
  | cons a r ih =>
    simp only [put, psn]
    split
    · rename_i hlt
      rw [List.take_succ_cons, List.drop_succ_cons, List.cons_append, ih]
      simpa [fnd, psn, hlt] using h
    · rename_i hlt
      have : a.key ≠ p.key := by
        intro e
        simp [fnd, psn, hlt, e] at h
      rw [if_neg this]
      rfl
theorem length_put_new {l : List Pos} {p : Pos} (h : fnd l p.key = none) : (put l p).length = l.length + 1 := by
  rw [put_new h]
  have := psn_le l p.key
  simp
  omega
theorem length_put_there {l : List Pos} {p q : Pos} (h : fnd l p.key = some q) : (put l p).length = l.length := by
  rw [put_there h, List.length_set]
theorem length_put_le (l : List Pos) (p : Pos) : (put l p).length ≤ l.length + 1 := by
  cases h : fnd l p.key with
  | none => rw [length_put_new h]; exact Nat.le_refl _
  | some q => rw [length_put_there h]; omega
theorem fnd_put {l : List Pos} (hs : Asc l) (p : Pos) (k : Nat) : fnd (put l p) k = if k = p.key then some p else fnd l k := by
  apply Option.ext
  intro q
  rw [fnd_iff (put_asc hs p), put_mem hs]
  split
  · rename_i h
    rw [Option.some.injEq]
    constructor
    · rintro ⟨rfl | h2, h3⟩
      · rfl
      · omega
    · rintro rfl
      exact ⟨.inl rfl, h.symm⟩
  · rename_i h
    rw [fnd_iff hs]
    constructor
    · rintro ⟨rfl | h2, h3⟩
      · omega
      · exact ⟨h2.1, h3⟩
    · rintro ⟨h1, h2⟩
      exact ⟨.inr ⟨h1, by omega⟩, h2⟩
/-- Many positions put, one behind the other. -/
def puts (s l : List Pos) : List Pos := l.foldl put s
theorem puts_cons (s : List Pos) (p : Pos) (l : List Pos) : puts s (p :: l) = puts (put s p) l := rfl
theorem puts_append (s a b : List Pos) : puts s (a ++ b) = puts (puts s a) b := List.foldl_append
theorem puts_snoc (s l : List Pos) (p : Pos) : puts s (l ++ [p]) = put (puts s l) p := by rw [puts_append]; rfl
theorem puts_asc {s : List Pos} (hs : Asc s) (l : List Pos) : Asc (puts s l) := by
  induction l generalizing s with
  | nil => exact hs
  | cons p l ih => exact ih (put_asc hs p)
theorem length_puts (s l : List Pos) : (puts s l).length ≤ s.length + l.length := by
  induction l generalizing s with
  | nil => exact Nat.le_refl _
  | cons p l ih =>
    have h1 := ih (put s p)
    have h2 := length_put_le s p
    rw [puts_cons, List.length_cons]
    omega
/-- The last one of a key. -/
def lastOf (l : List Pos) (k : Nat) : Option Pos := l.reverse.find? (fun q => q.key == k)
theorem fnd_puts {s : List Pos} (hs : Asc s) (l : List Pos) (k : Nat) : fnd (puts s l) k = (lastOf l k).or (fnd s k) := by
  induction l generalizing s with
  | nil => rfl
  | cons p l ih =>
    rw [puts_cons, ih (put_asc hs p), fnd_put hs]
    unfold lastOf
    rw [List.reverse_cons, List.find?_append, Option.or_assoc]
    congr 1
    by_cases h : k = p.key
    · subst h
      simp
    · have : (p.key == k) = false := by simpa using fun e => h e.symm
      simp [this, h]
theorem fnd_nil (k : Nat) : fnd [] k = none := rfl
theorem fnd_puts0 (l : List Pos) (k : Nat) : fnd (puts [] l) k = lastOf l k := by rw [fnd_puts Asc.nil, fnd_nil, Option.or_none]
theorem asc_ext {l m : List Pos} (hl : Asc l) (hm : Asc m) (h : ∀ q, q ∈ l ↔ q ∈ m) : l = m := by
  induction l generalizing m with
  | nil =>
    cases m with
    | nil => rfl
    | cons b s => exact absurd ((h b).2 (List.mem_cons_self ..)) (by simp)
  | cons a r ih =>
    cases m with
    | nil => exact absurd ((h a).1 (List.mem_cons_self ..)) (by simp)
    | cons b s =>
      obtain ⟨h1, h2⟩ := List.pairwise_cons.1 hl
      obtain ⟨h3, h4⟩ := List.pairwise_cons.1 hm
      have hab : a = b := by
        rcases List.mem_cons.1 ((h a).1 (List.mem_cons_self ..)) with e | e
        · exact e
        · rcases List.mem_cons.1 ((h b).2 (List.mem_cons_self ..)) with e' | e'
          · exact e'.symm
          · have := h3 a e
            have := h1 b e'
            omega
      subst hab
      congr 1
      refine ih h2 h4 fun q => ⟨fun hq => ?_, fun hq => ?_⟩
      · rcases List.mem_cons.1 ((h q).1 (List.mem_cons_of_mem _ hq)) with rfl | e
        · have := h1 q hq
          omega
        · exact e
      · rcases List.mem_cons.1 ((h q).2 (List.mem_cons_of_mem _ hq)) with rfl | e
        · have := h3 q hq
          omega
        · exact e
theorem psn_zero {l : List Pos} : psn l 0 = 0 := by
  cases l with
  | nil => rfl
  | cons q r => simp [psn]
end Go.Cor
end

section
namespace Go.Cor

/-- A step with a bit. -/
def cstep (r b : Nat) : Nat := if r % 2 = b then r / 2 else (r / 2) ^^^ 2197175160
/-- n steps with the lowest n bits of x. -/
def csteps : Nat → Nat → Nat → Nat
  | 0, r, _ => r
  | n + 1, r, x => csteps n (cstep r (x % 2)) (x / 2)
/-- All bytes. -/
def creg (r : Nat) (l : List UInt8) : Nat := l.foldl (fun r x => csteps 8 r x.toNat) r
/-- More of a sum. -/
def cmore (s : Nat) (l : List UInt8) : Nat := 4294967295 - creg (4294967295 - s) l
/-- The sum. -/
def crc (l : List UInt8) : Nat := cmore 0 l

theorem creg_append (r : Nat) (l m : List UInt8) : creg r (l ++ m) = creg (creg r l) m := by simp [creg]

theorem cstep_lt {r : Nat} (b : Nat) (h : r < 4294967296) : cstep r b < 4294967296 := by
  unfold cstep
  split
  · omega
  · exact Nat.xor_lt_two_pow (n := 32) (by omega) (by decide)
theorem csteps_lt (n : Nat) {r : Nat} (x : Nat) (h : r < 4294967296) : csteps n r x < 4294967296 := by
  induction n generalizing r x with
  | zero => exact h
  | succ n ih => exact ih _ (cstep_lt _ h)
theorem creg_lt {r : Nat} (l : List UInt8) (h : r < 4294967296) : creg r l < 4294967296 := by
  induction l generalizing r with
  | nil => exact h
  | cons x l ih => exact ih (csteps_lt _ _ h)
theorem cmore_lt (s : Nat) (l : List UInt8) : cmore s l < 4294967296 := by unfold cmore; omega
theorem crc_lt (l : List UInt8) : crc l < 4294967296 := cmore_lt 0 l

theorem cmore_more (s : Nat) (l m : List UInt8) : cmore (cmore s l) m = cmore s (l ++ m) := by
  have h := creg_lt (r := 4294967295 - s) l (by omega)
  unfold cmore
  rw [creg_append, show 4294967295 - (4294967295 - creg (4294967295 - s) l) = creg (4294967295 - s) l from by omega]
theorem crc_append (l m : List UInt8) : crc (l ++ m) = cmore (crc l) m := (cmore_more 0 l m).symm

theorem csteps_succ (n r x : Nat) : csteps (n + 1) r x = cstep (csteps n r x) (x / 2 ^ n % 2) := by
  induction n generalizing r x with
  | zero => simp [csteps]
  | succ n ih =>
    rw [csteps, ih, csteps, Nat.div_div_eq_div_mul, Nat.pow_succ, Nat.mul_comm 2]

/-- A step loses nothing. -/
theorem xor_mod2 (a b : Nat) : (a ^^^ b) % 2 = (a + b) % 2 := by
  have h := Nat.xor_mod_two_pow (a := a) (b := b) (n := 1)
  rw [show (2 : Nat) ^ 1 = 2 from rfl] at h
  rw [h]
  rcases Nat.mod_two_eq_zero_or_one a with ha | ha <;> rcases Nat.mod_two_eq_zero_or_one b with hb | hb <;> rw [ha, hb]
  all_goals
    simp
    omega
end Go.Cor
end

section
namespace Go.Cor

/-- A needle. -/
structure Ndl where
  key : Nat
  cookie : Nat
  gone : Bool
  data : List UInt8

theorem Ndl.ext' {a b : Ndl} (h1 : a.key = b.key) (h2 : a.cookie = b.cookie) (h3 : a.gone = b.gone) (h4 : a.data = b.data) : a = b := by
  cases a
  cases b
  simp_all

/-- Its numbers fit. -/
def Ndl.fits (n : Ndl) : Prop := n.key < 18446744073709551616 ∧ n.cookie < 4294967296
def flagN (g : Bool) : Nat := if g = true then 1 else 0
def zerosN (k : Nat) : List UInt8 := List.replicate k 0
def padn (n : Nat) : Nat := (8 - n % 8) % 8
/-- What its sum is of, but the data. -/
def front (n : Ndl) : List UInt8 := le 1313162572 4 ++ le (flagN n.gone) 4 ++ le n.key 8 ++ le n.cookie 4 ++ le n.data.length 4
def nsum (n : Ndl) : Nat := crc (front n ++ n.data)
/-- Its head. -/
def nhead (n : Ndl) : List UInt8 := front n ++ le (nsum n) 4 ++ zerosN 4
/-- Its bytes. -/
def nbytes (n : Ndl) : List UInt8 := nhead n ++ n.data ++ zerosN (padn n.data.length)
/-- Why it may not be. -/
def ncheck (n : Ndl) : Nat := if 4096 < n.data.length then 2 else if n.gone = true ∧ 0 < n.data.length then 1 else 0

theorem ncheck_le (n : Ndl) : ncheck n ≤ 2 := by
  unfold ncheck
  split
  · omega
  · split <;> omega
theorem ncheck_ok {n : Ndl} (h : ncheck n = 0) : n.data.length ≤ 4096 ∧ (n.gone = true → n.data.length = 0) := by
  unfold ncheck at h
  split at h
  · omega
  · split at h
    · omega
    · rename_i h1 h2
      exact ⟨by omega, fun hg => by
        have : ¬ 0 < n.data.length := fun hl => h2 ⟨hg, hl⟩
        omega⟩

theorem padn_lt (n : Nat) : padn n < 8 := by unfold padn; omega
theorem length_front (n : Ndl) : (front n).length = 24 := by simp [front, length_le]
theorem length_zerosN (k : Nat) : (zerosN k).length = k := by simp [zerosN]
theorem length_nhead (n : Ndl) : (nhead n).length = 32 := by simp [nhead, length_front, length_le, length_zerosN]
theorem length_nbytes (n : Ndl) : (nbytes n).length = 32 + n.data.length + padn n.data.length := by simp [nbytes, length_nhead, length_zerosN]; omega

/-- A number that stands in bytes. -/
def fld (l : List UInt8) (a k : Nat) : Nat := num ((l.drop a).take k)
theorem fld_lt (l : List UInt8) (a k : Nat) : fld l a k < 256 ^ k := by
  have h := num_lt ((l.drop a).take k)
  have h2 : ((l.drop a).take k).length ≤ k := by simp; omega
  exact Nat.lt_of_lt_of_le h (Nat.pow_le_pow_right (by decide) h2)
theorem fld4_lt (l : List UInt8) (a : Nat) : fld l a 4 < 4294967296 := fld_lt l a 4
theorem fld_take (l : List UInt8) {a k j : Nat} (h : a + k ≤ j) : fld (l.take j) a k = fld l a k := by
  unfold fld
  rw [List.drop_take, List.take_take, Nat.min_eq_left (by omega)]
theorem fld_append (p l q : List UInt8) {a k : Nat} (hp : p.length = a) (hl : l.length = k) : fld (p ++ l ++ q) a k = num l := by
  unfold fld
  rw [List.append_assoc, List.drop_left' hp, List.take_left' hl]

/-- Is the head one that may be? -/
def formedB (l : List UInt8) : Bool := decide (fld l 0 4 = 1313162572 ∧ fld l 4 4 ≤ 1 ∧ fld l 28 4 = 0 ∧ fld l 20 4 ≤ 4096 ∧ (fld l 4 4 = 1 → fld l 20 4 = 0))
/-- How many bytes of data. -/
def dlen (l : List UInt8) : Nat := fld l 20 4
def total (l : List UInt8) : Nat := 32 + dlen l + padn (dlen l)
def dataOf (l : List UInt8) : List UInt8 := (l.drop 32).take (dlen l)
def padOf (l : List UInt8) : List UInt8 := (l.drop (32 + dlen l)).take (padn (dlen l))
def sumOkN (l : List UInt8) : Bool := decide (crc (l.take 24 ++ dataOf l) = fld l 24 4)
def zeroB (l : List UInt8) : Bool := decide (∀ x ∈ l, x = 0)
/-- Why bytes begin with no needle. -/
def getCode (l : List UInt8) : Nat :=
  if l.length < 32 then 3 else if formedB l = false then 4 else if l.length < total l then 3 else if sumOkN l = false then 5 else if zeroB (padOf l) = false then 4 else 0
/-- The needle with which they begin. -/
def getN (l : List UInt8) : Ndl := ⟨fld l 8 8, fld l 16 4, decide (fld l 4 4 = 1), dataOf l⟩

theorem formed_len {l : List UInt8} (h : formedB l = true) : dlen l ≤ 4096 := (of_decide_eq_true h).2.2.2.1
theorem zero_num (l : List UInt8) : num l = 0 ↔ ∀ x ∈ l, x = 0 := by
  induction l with
  | nil => simp [num]
  | cons x l ih =>
    simp only [num, List.mem_cons, forall_eq_or_imp, ← ih]
    constructor
    · intro h
      exact ⟨UInt8.toNat_inj.1 (by simp; omega), by omega⟩
    · rintro ⟨rfl, h⟩
      simp [h]
theorem zeroB_zeros (k : Nat) : zeroB (zerosN k) = true := decide_eq_true fun x hx => by
  have := List.mem_replicate.1 hx
  exact this.2
theorem zeroB_num (l : List UInt8) : zeroB l = decide (num l = 0) := by
  unfold zeroB
  exact decide_eq_decide.2 (zero_num l).symm
theorem getN_gone (l : List UInt8) : (getN l).gone = decide (fld l 4 4 = 1) := rfl
/-- What the head of a needle tells, wherever it stands ahead. -/
theorem head_flds {n : Ndl} {l : List UInt8} (hn : n.fits) (hd : n.data.length ≤ 4096) (h : l.take 32 = nhead n) :
    fld l 0 4 = 1313162572 ∧ fld l 4 4 = flagN n.gone ∧ fld l 8 8 = n.key ∧ fld l 16 4 = n.cookie ∧ fld l 20 4 = n.data.length ∧ fld l 24 4 = nsum n ∧ fld l 28 4 = 0 ∧ l.take 24 = front n := by
  have hf : flagN n.gone < 256 ^ 4 := by unfold flagN; split <;> decide
  have hc : nsum n < 256 ^ 4 := crc_lt (front n ++ n.data)
  have L : (le 1313162572 4).length = 4 ∧ (le (flagN n.gone) 4).length = 4 ∧ (le n.key 8).length = 8 ∧ (le n.cookie 4).length = 4 ∧ (le n.data.length 4).length = 4 := by simp [length_le]
  obtain ⟨L0, L1, L2, L3, L4⟩ := L
  have N0 : num (le 1313162572 4) = 1313162572 := by rw [num_le]
  have N1 : num (le (flagN n.gone) 4) = flagN n.gone := by rw [num_le, Nat.mod_eq_of_lt hf]
  have N2 : num (le n.key 8) = n.key := by rw [num_le, Nat.mod_eq_of_lt hn.1]
  have N3 : num (le n.cookie 4) = n.cookie := by rw [num_le, Nat.mod_eq_of_lt hn.2]
  have N4 : num (le n.data.length 4) = n.data.length := by rw [num_le, Nat.mod_eq_of_lt (by omega)]
  have N5 : num (le (nsum n) 4) = nsum n := by rw [num_le, Nat.mod_eq_of_lt hc]
  have N6 : num (zerosN 4) = 0 := (zero_num _).2 (of_decide_eq_true (zeroB_zeros 4))
  have F : ∀ a k, a + k ≤ 32 → fld l a k = fld (nhead n) a k := fun a k ha => by rw [← h, fld_take l ha]
  rw [F 0 4 (by omega), F 4 4 (by omega), F 8 8 (by omega), F 16 4 (by omega), F 20 4 (by omega), F 24 4 (by omega), F 28 4 (by omega)]
  have e24 : l.take 24 = (l.take 32).take 24 := by rw [List.take_take, Nat.min_eq_left (by omega)]
  rw [e24, h]
  refine ⟨?_, ?_, ?_, ?_, ?_, ?_, ?_, ?_⟩
  · rw [← N0]
    have := fld_append [] (le 1313162572 4) (le (flagN n.gone) 4 ++ le n.key 8 ++ le n.cookie 4 ++ le n.data.length 4 ++ le (nsum n) 4 ++ zerosN 4) (a := 0) rfl L0
    simpa [nhead, front, List.append_assoc, N0] using this
  · have := fld_append (le 1313162572 4) (le (flagN n.gone) 4) (le n.key 8 ++ le n.cookie 4 ++ le n.data.length 4 ++ le (nsum n) 4 ++ zerosN 4) L0 L1
    simpa [nhead, front, List.append_assoc, N1] using this
  · have := fld_append (le 1313162572 4 ++ le (flagN n.gone) 4) (le n.key 8) (le n.cookie 4 ++ le n.data.length 4 ++ le (nsum n) 4 ++ zerosN 4) (a := 8) (by simp [length_le]) L2
    simpa [nhead, front, List.append_assoc, N2] using this
  · have := fld_append (le 1313162572 4 ++ le (flagN n.gone) 4 ++ le n.key 8) (le n.cookie 4) (le n.data.length 4 ++ le (nsum n) 4 ++ zerosN 4) (a := 16) (by simp [length_le]) L3
    simpa [nhead, front, List.append_assoc, N3] using this
  · have := fld_append (le 1313162572 4 ++ le (flagN n.gone) 4 ++ le n.key 8 ++ le n.cookie 4) (le n.data.length 4) (le (nsum n) 4 ++ zerosN 4) (a := 20) (by simp [length_le]) L4
    simpa [nhead, front, List.append_assoc, N4] using this
  · have := fld_append (front n) (le (nsum n) 4) (zerosN 4) (a := 24) (length_front n) (length_le _ _)
    simpa [nhead, List.append_assoc, N5] using this
  · have := fld_append (front n ++ le (nsum n) 4) (zerosN 4) [] (a := 28) (by simp [length_front, length_le]) (length_zerosN 4)
    simpa [nhead, List.append_assoc, N6] using this
  · rw [nhead, List.append_assoc]
    exact List.take_left' (length_front n)

theorem head_formed {n : Ndl} {l : List UInt8} (hn : n.fits) (hc : ncheck n = 0) (h : l.take 32 = nhead n) : formedB l = true ∧ dlen l = n.data.length := by
  obtain ⟨hd, hg⟩ := ncheck_ok hc
  obtain ⟨f0, f1, f2, f3, f4, f5, f6, f7⟩ := head_flds hn hd h
  refine ⟨decide_eq_true ?_, f4⟩
  rw [f0, f1, f4, f6]
  refine ⟨rfl, ?_, rfl, hd, fun hf => ?_⟩
  · unfold flagN
    split <;> omega
  · apply hg
    unfold flagN at hf
    split at hf
    · assumption
    · omega

theorem take32 (n : Ndl) (rest : List UInt8) : (nbytes n ++ rest).take 32 = nhead n := by
  rw [nbytes, List.append_assoc, List.append_assoc]
  exact List.take_left' (length_nhead n)

/-- What is put is got, whatever stands behind. -/
theorem get_put {n : Ndl} (hn : n.fits) (hc : ncheck n = 0) (rest : List UInt8) :
    getCode (nbytes n ++ rest) = 0 ∧ getN (nbytes n ++ rest) = n ∧ total (nbytes n ++ rest) = (nbytes n).length := by
  obtain ⟨hd, hg⟩ := ncheck_ok hc
  have h := take32 n rest
  obtain ⟨f0, f1, f2, f3, f4, f5, f6, f7⟩ := head_flds hn hd h
  obtain ⟨hform, hdl⟩ := head_formed hn hc h
  have ht : total (nbytes n ++ rest) = (nbytes n).length := by unfold total; rw [hdl, length_nbytes]
  have e1 : nbytes n ++ rest = nhead n ++ (n.data ++ (zerosN (padn n.data.length) ++ rest)) := by simp [nbytes, List.append_assoc]
  have hda : dataOf (nbytes n ++ rest) = n.data := by
    unfold dataOf
    rw [hdl, e1, List.drop_left' (length_nhead n), List.take_left' rfl]
  have hpa : padOf (nbytes n ++ rest) = zerosN (padn n.data.length) := by
    unfold padOf
    rw [hdl, e1, ← List.append_assoc, List.drop_left' (by rw [List.length_append, length_nhead]), List.take_left' (length_zerosN _)]
  have hs : sumOkN (nbytes n ++ rest) = true := decide_eq_true (by rw [f7, hda, f5]; rfl)
  have hz : zeroB (padOf (nbytes n ++ rest)) = true := by rw [hpa]; exact zeroB_zeros _
  have hl := length_nbytes n
  have hll : (nbytes n ++ rest).length = (nbytes n).length + rest.length := List.length_append
  have hgone : (getN (nbytes n ++ rest)).gone = n.gone := by
    rw [getN_gone, f1]
    unfold flagN
    cases n.gone <;> simp
  refine ⟨?_, Ndl.ext' f2 f3 hgone hda, ht⟩
  · unfold getCode
    rw [if_neg (by omega), if_neg (by rw [hform]; simp), if_neg (by omega), if_neg (by rw [hs]; simp), if_neg (by rw [hz]; simp)]

/-- Are they alike? -/
def sameN (a b : Ndl) : Bool := decide (a.key = b.key ∧ a.cookie = b.cookie ∧ a.gone = b.gone ∧ a.data = b.data)
theorem sameN_eq (a b : Ndl) : sameN a b = true ↔ a = b := by
  unfold sameN
  rw [decide_eq_true_iff]
  exact ⟨fun h => Ndl.ext' h.1 h.2.1 h.2.2.1 h.2.2.2, fun h => by subst h; exact ⟨rfl, rfl, rfl, rfl⟩⟩
theorem sameN_self (a : Ndl) : sameN a a = true := (sameN_eq a a).2 rfl
end Go.Cor
end

section
namespace Go.Cor

theorem snoc_ind {α : Type} {P : List α → Prop} (h0 : P []) (h1 : ∀ l a, P l → P (l ++ [a])) : ∀ l, P l := by
  intro l
  have h : P l.reverse.reverse := by
    generalize l.reverse = m
    induction m with
    | nil => exact h0
    | cons a m ih => rw [List.reverse_cons]; exact h1 _ _ ih
  rwa [List.reverse_reverse] at h

/-- How many bytes a needle has. -/
def nlen (n : Ndl) : Nat := 32 + n.data.length + padn n.data.length
theorem nlen_eq (n : Ndl) : (nbytes n).length = nlen n := length_nbytes n
def nsB : List Ndl → List UInt8
  | [] => []
  | n :: r => nbytes n ++ nsB r
def tot : List Ndl → Nat
  | [] => 0
  | n :: r => nlen n + tot r
theorem length_nsB (ns : List Ndl) : (nsB ns).length = tot ns := by
  induction ns with
  | nil => rfl
  | cons n r ih => simp only [nsB, tot, List.length_append, ih, nlen_eq]
theorem nsB_append (a b : List Ndl) : nsB (a ++ b) = nsB a ++ nsB b := by
  induction a with
  | nil => rfl
  | cons n r ih => simp only [List.cons_append, nsB, ih, List.append_assoc]
theorem tot_append (a b : List Ndl) : tot (a ++ b) = tot a + tot b := by
  induction a with
  | nil => simp [tot]
  | cons n r ih => simp only [List.cons_append, tot, ih]; omega
theorem nsB_snoc (a : List Ndl) (n : Ndl) : nsB (a ++ [n]) = nsB a ++ nbytes n := by rw [nsB_append]; simp [nsB]
theorem tot_snoc (a : List Ndl) (n : Ndl) : tot (a ++ [n]) = tot a + nlen n := by rw [tot_append]; simp [tot]
def posN (n : Ndl) (off : Nat) : Pos := ⟨n.key, (off : Int), (n.data.length : Int), n.cookie, n.gone⟩
/-- Where needles stand, one behind the other. -/
def poss : Nat → List Ndl → List Pos
  | _, [] => []
  | o, n :: r => posN n o :: poss (o + nlen n) r
theorem poss_append (o : Nat) (a b : List Ndl) : poss o (a ++ b) = poss o a ++ poss (o + tot a) b := by
  induction a generalizing o with
  | nil => simp [poss, tot]
  | cons n r ih => simp only [List.cons_append, poss, tot, ih, Nat.add_assoc]
theorem poss_snoc (o : Nat) (a : List Ndl) (n : Ndl) : poss o (a ++ [n]) = poss o a ++ [posN n (o + tot a)] := by rw [poss_append]; rfl
theorem length_poss (o : Nat) (ns : List Ndl) : (poss o ns).length = ns.length := by
  induction ns generalizing o with
  | nil => rfl
  | cons n r ih => simp only [poss, List.length_cons, ih]
/-- A key's newest needle. -/
def newest (ns : List Ndl) (k : Nat) : Option Ndl := ns.reverse.find? (fun n => n.key == k)
theorem newest_snoc (ns : List Ndl) (m : Ndl) (k : Nat) : newest (ns ++ [m]) k = if m.key = k then some m else newest ns k := by
  unfold newest
  rw [List.reverse_append, List.reverse_singleton, List.singleton_append, List.find?_cons]
  by_cases h : m.key = k
  · rw [if_pos h, beq_iff_eq.2 h]
  · rw [if_neg h, beq_eq_false_iff_ne.2 h]
theorem lastOf_snoc (l : List Pos) (p : Pos) (k : Nat) : lastOf (l ++ [p]) k = if p.key = k then some p else lastOf l k := by
  unfold lastOf
  rw [List.reverse_append, List.reverse_singleton, List.singleton_append, List.find?_cons]
  by_cases h : p.key = k
  · rw [if_pos h, beq_iff_eq.2 h]
  · rw [if_neg h, beq_eq_false_iff_ne.2 h]
theorem newest_mem {ns : List Ndl} {k : Nat} {n : Ndl} (h : newest ns k = some n) : n ∈ ns ∧ n.key = k := by
  unfold newest at h
  exact ⟨List.mem_reverse.1 (List.mem_of_find?_eq_some h), by simpa using List.find?_some h⟩
theorem last_none (o k : Nat) : ∀ ns : List Ndl, newest ns k = none → lastOf (poss o ns) k = none := by
  refine snoc_ind (fun _ => rfl) fun ns m ih h => ?_
  rw [newest_snoc] at h
  rw [poss_snoc, lastOf_snoc]
  by_cases e : m.key = k
  · rw [if_pos e] at h; cases h
  · rw [if_neg e] at h
    rw [if_neg (show ¬ (posN m (o + tot ns)).key = k from e)]
    exact ih h
theorem last_some (o k : Nat) : ∀ ns : List Ndl, ∀ n, newest ns k = some n → ∃ a b, ns = a ++ n :: b ∧ lastOf (poss o ns) k = some (posN n (o + tot a)) := by
  refine snoc_ind (fun n h => by cases h) fun ns m ih n h => ?_
  rw [newest_snoc] at h
  rw [poss_snoc, lastOf_snoc]
  by_cases e : m.key = k
  · rw [if_pos e] at h
    cases h
    rw [if_pos (show (posN m (o + tot ns)).key = k from e)]
    exact ⟨ns, [], rfl, rfl⟩
  · rw [if_neg e] at h
    rw [if_neg (show ¬ (posN m (o + tot ns)).key = k from e)]
    obtain ⟨a, b, rfl, h2⟩ := ih n h
    exact ⟨a, b ++ [m], by simp, h2⟩

/-- A volume: its numbers, and all needles of its file. -/
structure Vst where
  num : Nat
  gen : Nat
  most : Nat
  epoch : Nat
  shut : Bool
  ns : List Ndl
def Vst.size (s : Vst) : Nat := 16 + tot s.ns
def Vst.idx (s : Vst) : List Pos := puts [] (poss 16 s.ns)
def Vst.wrote (s : Vst) (n : Ndl) : Vst := { s with ns := s.ns ++ [n] }
theorem Vst.idx_asc (s : Vst) : Asc s.idx := puts_asc Asc.nil _
theorem Vst.idx_len (s : Vst) : s.idx.length ≤ s.ns.length := by
  have := length_puts [] (poss 16 s.ns)
  rw [length_poss] at this
  simpa [Vst.idx] using this
theorem Vst.idx_wrote (s : Vst) (n : Ndl) : (s.wrote n).idx = put s.idx (posN n s.size) := by
  unfold Vst.idx Vst.wrote Vst.size
  rw [poss_snoc, puts_snoc]
theorem Vst.size_wrote (s : Vst) (n : Ndl) : (s.wrote n).size = s.size + nlen n := by
  unfold Vst.size Vst.wrote
  rw [tot_snoc]
  omega
theorem Vst.fnd (s : Vst) (k : Nat) : Go.Cor.fnd s.idx k = lastOf (poss 16 s.ns) k := fnd_puts0 _ _
theorem Vst.fnd_none {s : Vst} {k : Nat} (h : newest s.ns k = none) : Go.Cor.fnd s.idx k = none := by rw [s.fnd, last_none _ _ _ h]
theorem Vst.fnd_some {s : Vst} {k : Nat} {n : Ndl} (h : newest s.ns k = some n) : ∃ a b, s.ns = a ++ n :: b ∧ Go.Cor.fnd s.idx k = some (posN n (16 + tot a)) := by
  rw [s.fnd]
  exact last_some 16 k s.ns n h
/-- The bytes at a needle's place. -/
theorem bytes_at {X : List UInt8} {a b : List Ndl} {n : Ndl} (hX : X.length = 16) : ((X ++ nsB (a ++ n :: b)).drop (16 + tot a)).take (nlen n) = nbytes n := by
  rw [nsB_append]
  show ((X ++ (nsB a ++ (nbytes n ++ nsB b))).drop (16 + tot a)).take (nlen n) = nbytes n
  rw [← List.append_assoc X, List.drop_left' (by rw [List.length_append, hX, length_nsB]), List.take_left' (nlen_eq n)]

/-- What holds of every volume. -/
structure Vst.Ok (s : Vst) : Prop where
  num1 : 1 ≤ s.num
  num9 : s.num < 10
  gen1 : 1 ≤ s.gen
  gen9 : s.gen < 10
  ep : s.epoch ≤ 2147483647
  most : s.most ≤ 16777216
  size : s.size ≤ s.most
  few : s.ns.length < 4096
  all : ∀ n ∈ s.ns, n.fits ∧ ncheck n = 0
theorem Vst.Ok.wrote {s : Vst} (h : s.Ok) {n : Ndl} (hn : n.fits ∧ ncheck n = 0) (hm : s.size + nlen n ≤ s.most) (hf : s.ns.length + 1 < 4096) : (s.wrote n).Ok :=
  ⟨h.num1, h.num9, h.gen1, h.gen9, h.ep, h.most, by rw [s.size_wrote]; exact hm, by simpa [Vst.wrote] using hf, fun m hm => by
    rcases List.mem_append.1 hm with hm | hm
    · exact h.all m hm
    · rw [List.mem_singleton.1 hm]; exact hn⟩
theorem Vst.Ok.set {s : Vst} (h : s.Ok) {e : Nat} (he : e ≤ 2147483647) (b : Bool) : ({ s with epoch := e, shut := b } : Vst).Ok :=
  ⟨h.num1, h.num9, h.gen1, h.gen9, he, h.most, h.size, h.few, h.all⟩

/-- What a call by a key and a cookie meets. -/
def Vst.look (s : Vst) (k c : Nat) : Nat := match newest s.ns k with
  | none => 6
  | some n => if n.gone = true then 7 else if n.cookie ≠ c then 9 else 0
def Vst.write (s : Vst) (n : Ndl) : Vst × Nat := if s.most < s.size + nlen n then (s, 11) else (s.wrote n, 0)
def Vst.put (s : Vst) (n : Ndl) : Vst × Nat :=
  if n.gone = true then (s, 1) else if ncheck n ≠ 0 then (s, ncheck n) else if s.shut = true then (s, 10) else match newest s.ns n.key with
  | some o => (s, if o.gone = true then 7 else 8)
  | none => s.write n
theorem Vst.put_gone {s : Vst} {n : Ndl} (h : n.gone = true) : s.put n = (s, 1) := by unfold Vst.put; rw [if_pos h]
theorem Vst.put_bad {s : Vst} {n : Ndl} (h : n.gone = false) (hc : ncheck n ≠ 0) : s.put n = (s, ncheck n) := by unfold Vst.put; rw [if_neg (by simp [h]), if_pos hc]
theorem Vst.put_shut {s : Vst} {n : Ndl} (h : n.gone = false) (hc : ncheck n = 0) (hs : s.shut = true) : s.put n = (s, 10) := by unfold Vst.put; rw [if_neg (by simp [h]), if_neg (by simp [hc]), if_pos hs]
theorem Vst.put_there {s : Vst} {n o : Ndl} (h : n.gone = false) (hc : ncheck n = 0) (hs : s.shut = false) (ho : newest s.ns n.key = some o) : s.put n = (s, if o.gone = true then 7 else 8) := by
  unfold Vst.put; rw [if_neg (by simp [h]), if_neg (by simp [hc]), if_neg (by simp [hs]), ho]
theorem Vst.put_new {s : Vst} {n : Ndl} (h : n.gone = false) (hc : ncheck n = 0) (hs : s.shut = false) (ho : newest s.ns n.key = none) (hm : s.size + nlen n ≤ s.most) : s.put n = (s.wrote n, 0) := by
  unfold Vst.put; rw [if_neg (by simp [h]), if_neg (by simp [hc]), if_neg (by simp [hs]), ho]
  unfold Vst.write; simp only; rw [if_neg (by omega)]
def grave (k c : Nat) : Ndl := ⟨k, c, true, []⟩
theorem grave_ok {k c : Nat} (hk : k < 18446744073709551616) (hc : c < 4294967296) : (grave k c).fits ∧ ncheck (grave k c) = 0 := ⟨⟨hk, hc⟩, rfl⟩
def Vst.del (s : Vst) (k c : Nat) : Vst × Nat := if s.look k c ≠ 0 then (s, s.look k c) else if s.shut = true then (s, 10) else s.write (grave k c)
def Vst.set (s : Vst) (e : Int) (b : Bool) : Vst × Nat := if e < 0 ∨ 2147483647 < e then (s, 1) else if e < (s.epoch : Int) then (s, 13) else ({ s with epoch := e.toNat, shut := b }, 0)

end Go.Cor
end

section
namespace Go.Proofs.YtoblbipkkdiddaaGreatDoor
open Go.RowKit Go.Cor

/-- The digit of a number below ten. -/
def dig (n : Nat) : UInt8 := UInt8.ofNat (48 + n)
def nmD (v g : Nat) : ByteArray := ⟨#[118, dig v, 46, dig g]⟩
def nmC (v g : Nat) : ByteArray := ⟨#[99, dig v, 46, dig g]⟩
def nmM (v : Nat) : ByteArray := ⟨#[109, dig v]⟩
def nmS (v : Nat) : ByteArray := ⟨#[109, dig v, 46, 116]⟩

set_option maxRecDepth 100000 in
theorem small_any (n : Nat) (w : World) (h : n < 10) :
    Calls Tryz.prog 137 #[.int .i64 (n : Int)] w fun e w' => e = .returned (.string ⟨#[dig n]⟩) ∧ w = w' := by
  match n, h with
  | 0, _ | 1, _ | 2, _ | 3, _ | 4, _ | 5, _ | 6, _ | 7, _ | 8, _ | 9, _ =>
    go_enter Tryz.func137, Tryz.ntmps137
    go_wp2
    go_ret
    exact ⟨rfl, rfl⟩
theorem formatInt_any (n : Nat) (w : World) (h : n < 10) :
    Calls Tryz.prog 130 #[.int .i64 (n : Int), .int .i64 10] w fun e w' => e = .returned (.string ⟨#[dig n]⟩) ∧ w = w' := by
  have h1 : (n : Int) < 100 := by omega
  go_enter Tryz.func130, Tryz.ntmps130
  go_wp2_with fail
  refine (small_any n _ h).mono ?_
  rintro e w' ⟨rfl, rfl⟩
  go_wp2
  go_ret
  exact ⟨rfl, rfl⟩
theorem itoa_in (n : Nat) (w : World) (h : n < 10) :
    Calls Tryz.prog 110 #[.int .i64 (n : Int)] w fun e w' => e = .returned (.string ⟨#[dig n]⟩) ∧ w = w' := by
  go_enter Tryz.func110, Tryz.ntmps110
  go_wp2_with fail
  refine (formatInt_any n _ h).mono ?_
  rintro e w' ⟨rfl, rfl⟩
  go_wp2
  go_ret
  exact ⟨rfl, rfl⟩
theorem itoa_any (n : Nat) (w : World) (h : n < 10) :
    Calls Tryz.prog 86 #[.int .i64 (n : Int)] w fun e w' => e = .returned (.string ⟨#[dig n]⟩) ∧ w = w' := by
  go_enter Tryz.func86, Tryz.ntmps86
  go_wp2_with fail
  refine (itoa_in n _ h).mono ?_
  rintro e w' ⟨rfl, rfl⟩
  go_wp2
  go_ret
  exact ⟨rfl, rfl⟩
theorem names_h (v g : Nat) (w : World) (hv : v < 10) (hg : g < 10) :
    Calls Tryz.prog 53 #[.int .i64 (v : Int), .int .i64 (g : Int)] w fun e w' => e = .returned (.tuple #[.string (nmD v g), .string (nmC v g), .string (nmM v), .string (nmS v)]) ∧ w = w' := by
  go_enter Tryz.func53, Tryz.ntmps53
  go_wp2_with fail
  refine (itoa_any v _ hv).mono ?_
  rintro e w' ⟨rfl, rfl⟩
  go_wp2_with fail
  refine (itoa_any g _ hg).mono ?_
  rintro e w' ⟨rfl, rfl⟩
  go_wp2
  exact bodyPost_ret (v := .tuple #[.string (nmD v g), .string (nmC v g), .string (nmM v), .string (nmS v)]) (by simp [results, Tryz.results53, go_sem]; exact ⟨rfl, rfl, rfl, rfl⟩) rfl ⟨rfl, rfl⟩

end Go.Proofs.YtoblbipkkdiddaaGreatDoor
end
