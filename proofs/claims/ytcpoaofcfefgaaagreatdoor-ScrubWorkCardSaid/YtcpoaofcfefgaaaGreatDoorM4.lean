/- Fin, Used, Ops, Ops2, Ops3, Create, Nms, Cr, Dok, Nil, Errs. -/
import Derived.Test.YtcpoaofcfefgaaaGreatDoorM3
import Derived.Lib.SliceRun
import Derived.Test.YtcpoaofcfefgaaaGreatDoorChecked
import Derived.WalkKit
import Derived.LaidEql
import Derived.Stop.Asserts
import Derived.RowKitTokens
import Derived.Lib.Hide

section
namespace Go.Proofs.YtcpoaofcfefgaaaGreatDoor
open Go.RowKit Go.Cor

/-- What an exported call leaves. -/
def Fin' (w : World) (L : Lay) (d : Dsk) (w' : World) (d' : Dsk) : Prop :=
  ∃ L' : Lay, L'.p = L.p ∧ L'.cr = d'.files.length ∧ At w' L' d' ∧ Kept (fun k => ∃ t, L.own d.files.length t = some k) w w' ∧ ∀ t b, L'.own d'.files.length t = some b → (∃ u, L.own d.files.length u = some b) ∨ w.heap.size ≤ b
theorem Fin'.same {w w' : World} {L : Lay} {d : Dsk} (h : At w L d) (hc : L.cr = d.files.length) (hb : Below w.heap.size w w') : Fin' w L d w' d :=
  ⟨L, rfl, hc, h.below hb (Nat.le_refl _), Kept.of_below hb (Nat.le_refl _), fun t _ h => .inl ⟨t, h⟩⟩
theorem Fin'.of_mid {w w' : World} {L : Lay} {d d' : Dsk} (h : Mid w L d w' d') (hc : L.cr = d'.files.length) : Fin' w L d w' d' := by
  obtain ⟨L', h1, _, _, h4, h5, h6, h7⟩ := h
  exact ⟨L', h1, h4.trans hc, h5, h6, fun t b hb => (h7 t b hb).imp (fun h => ⟨t, h⟩) id⟩
theorem Fin'.below {w w1 w' : World} {L : Lay} {d d' : Dsk} (hb : Below w.heap.size w w1) (h : Fin' w1 L d w' d') : Fin' w L d w' d' := by
  obtain ⟨L', h1, h4, h5, h6, h7⟩ := h
  exact ⟨L', h1, h4, h5, (Kept.of_below (S := fun k => ∃ t, L.own d.files.length t = some k) hb (Nat.le_refl _)).trans h6 (fun _ h _ => h), fun t b hb' => (h7 t b hb').imp id (fun h => Nat.le_trans hb.size h)⟩

/-- A disk for those who use it: p is its box, S where it may lie. -/
def IsD (w : World) (p : Nat) (S : Nat → Prop) (d : Dsk) : Prop := ∃ L : Lay, L.p = p ∧ L.cr = d.files.length ∧ At w L d ∧ ∀ t b, L.own d.files.length t = some b → S b
def Turned (w w' : World) (p : Nat) (S : Nat → Prop) (d' : Dsk) : Prop := ∃ S' : Nat → Prop, IsD w' p S' d' ∧ Kept S w w' ∧ ∀ b, S' b → (S b ∨ w.heap.size ≤ b) ∧ b < w'.heap.size
theorem At.lt {w : World} {L : Lay} {d : Dsk} (h : At w L d) : ∀ t b, L.own d.files.length t = some b → b < w.heap.size := h.rest.lt
theorem Turned.of_fin {w w' : World} {L : Lay} {S : Nat → Prop} {d d' : Dsk} (hS : ∀ t b, L.own d.files.length t = some b → S b) (h : Fin' w L d w' d') : Turned w w' L.p S d' := by
  obtain ⟨L', h1, h4, h5, h6, h7⟩ := h
  exact ⟨fun b => ∃ t, L'.own d'.files.length t = some b, ⟨L', h1, h4, h5, fun t b hb => ⟨t, hb⟩⟩, h6.mono (fun k _ ⟨t, ht⟩ => hS t k ht), fun b ⟨t, ht⟩ => ⟨(h7 t b ht).imp (fun ⟨u, hu⟩ => hS u b hu) id, h5.lt t b ht⟩⟩
theorem IsD.kept {S T : Nat → Prop} {w w' : World} {p : Nat} {d : Dsk} (h : IsD w p S d) (hk : Kept T w w') (hT : ∀ b, S b → ¬ T b) : IsD w' p S d := by
  obtain ⟨L, h1, h2, h3, h4⟩ := h
  exact ⟨L, h1, h2, h3.kept hk (fun t b hb => hT b (h4 t b hb)), h4⟩
theorem IsD.below {S : Nat → Prop} {w w' : World} {p B : Nat} {d : Dsk} (h : IsD w p S d) (hb : Below B w w') (hB : w.heap.size ≤ B) : IsD w' p S d := h.kept (Kept.of_below (S := fun _ => False) hb hB) (fun _ _ h => h)

def Lay.setFv (L : Lay) (k : Nat) (v : Value) : Lay := { L with fv := fun j => if j = k then v else L.fv j }
theorem fat_set (fs : List Fil) (k j : Nat) (f : Fil) (hk : k < fs.length) : fat (fs.set k f) j = if j = k then f else fat fs j := by
  unfold fat
  rw [List.getD_eq_getElem?_getD, List.getD_eq_getElem?_getD, List.getElem?_set]
  by_cases h : k = j
  · subst h
    simp [hk]
  · rw [if_neg h, if_neg (fun e => h e.symm)]
theorem setF_len (d : Dsk) (k : Nat) (f : Fil) : (d.setF k f).files.length = d.files.length := by simp [Dsk.setF]
theorem Rest.setFil {w w' : World} {L : Lay} {d : Dsk} {k : Nat} {f : Fil} {v : Value} (h : Rest w L d) (hk : k < d.files.length) (hb : Blk w' (L.fb k) #[.int .i64 (k : Int), v, .int .i64 (f.lasts : Int)] 177)
    (ho : w'.ownsRow 0 5 1 v f.b.length (bvs f.b)) (hK : Kept (fun j => some (L.fb k) = some j ∨ (L.fv k).ownBlock = some j) w w') (hv : ∀ j, v.ownBlock = some j → (L.fv k).ownBlock = some j ∨ w.heap.size ≤ j) : Rest w' (L.setFv k v) (d.setF k f) where
  now := ownsRow_kept h.now hK (fun j e e2 => by
    rcases e2 with e2 | e2
    · cases h.apt .now (.box k) j e ((own_box hk).trans e2)
    · cases h.apt .now (.byt k) j e ((own_byt hk).trans e2))
  las := ownsRow_kept h.las hK (fun j e e2 => by
    rcases e2 with e2 | e2
    · cases h.apt .las (.box k) j e ((own_box hk).trans e2)
    · cases h.apt .las (.byt k) j e ((own_byt hk).trans e2))
  dee := ownsRow_kept h.dee hK (fun j e e2 => by
    rcases e2 with e2 | e2
    · cases h.apt .dee (.box k) j e ((own_box hk).trans e2)
    · cases h.apt .dee (.byt k) j e ((own_byt hk).trans e2))
  box j hj := by
    rw [setF_len] at hj
    have hf : fat (d.setF k f).files j = if j = k then f else fat d.files j := fat_set d.files k j f hk
    rw [hf]
    by_cases e : j = k
    · subst e
      simp only [Lay.setFv, if_true]
      exact hb
    · simp only [Lay.setFv, if_neg e]
      refine (h.box j hj).kept hK (fun e2 => ?_)
      rcases e2 with e2 | e2
      · cases h.apt (.box j) (.box k) _ (own_box hj) ((own_box hk).trans e2); exact e rfl
      · cases h.apt (.box j) (.byt k) _ (own_box hj) ((own_byt hk).trans e2)
  byt j hj := by
    rw [setF_len] at hj
    have hf : fat (d.setF k f).files j = if j = k then f else fat d.files j := fat_set d.files k j f hk
    rw [hf]
    by_cases e : j = k
    · subst e
      simp only [Lay.setFv, if_true]
      exact ho
    · simp only [Lay.setFv, if_neg e]
      refine ownsRow_kept (h.byt j hj) hK (fun i e1 e2 => ?_)
      rcases e2 with e2 | e2
      · cases h.apt (.byt j) (.box k) _ ((own_byt hj).trans e1) ((own_box hk).trans e2)
      · cases h.apt (.byt j) (.byt k) _ ((own_byt hj).trans e1) ((own_byt hk).trans e2); exact e rfl
  apt := by
    rw [setF_len]
    refine h.apt.upd (.byt k) w.heap.size h.lt (fun b hb' => ?_) (fun t ht => ?_)
    · rw [own_byt hk] at hb' ⊢
      simp only [Lay.setFv, if_true] at hb'
      exact hv b hb'
    · cases t with
      | byt j =>
        have e : j ≠ k := fun e => ht (by rw [e])
        simp only [Lay.own, Lay.setFv, if_neg e]
      | _ => rfl
  plt := Nat.lt_of_lt_of_le h.plt hK.size
/-- A file of a disk is changed. -/
theorem fin_file {w w' : World} {L : Lay} {d : Dsk} {k : Nat} {f : Fil} {v : Value} (h : At w L d) (hc : L.cr = d.files.length) (hk : k < d.files.length) (hb : Blk w' (L.fb k) #[.int .i64 (k : Int), v, .int .i64 (f.lasts : Int)] 177)
    (ho : w'.ownsRow 0 5 1 v f.b.length (bvs f.b)) (hK : Kept (fun j => some (L.fb k) = some j ∨ (L.fv k).ownBlock = some j) w w') (hv : ∀ j, v.ownBlock = some j → (L.fv k).ownBlock = some j ∨ w.heap.size ≤ j) : Fin' w L d w' (d.setF k f) := by
  refine ⟨L.setFv k v, rfl, by rw [setF_len]; exact hc, ⟨?_, h.rest.setFil hk hb ho hK hv⟩, hK.mono (fun j _ hj => ?_), fun t b hb' => ?_⟩
  · exact h.blk.kept hK (fun e2 => by
      rcases e2 with e2 | e2
      · cases h.rest.apt .dsk (.box k) L.p rfl ((own_box hk).trans e2)
      · cases h.rest.apt .dsk (.byt k) L.p rfl ((own_byt hk).trans e2))
  · rcases hj with hj | hj
    · exact ⟨.box k, (own_box hk).trans hj⟩
    · exact ⟨.byt k, (own_byt hk).trans hj⟩
  · rw [setF_len] at hb'
    cases t with
    | byt j =>
      simp only [Lay.own, Lay.setFv] at hb'
      by_cases hj : j < d.files.length
      · rw [if_pos hj] at hb'
        by_cases e : j = k
        · subst e
          rw [if_pos rfl] at hb'
          exact (hv b hb').imp (fun h => ⟨.byt j, by rw [own_byt hj]; exact h⟩) id
        · rw [if_neg e] at hb'
          exact .inl ⟨.byt j, by rw [own_byt hj]; exact hb'⟩
      · rw [if_neg hj] at hb'
        cases hb'
    | dsk => exact .inl ⟨.dsk, hb'⟩
    | now => exact .inl ⟨.now, hb'⟩
    | las => exact .inl ⟨.las, hb'⟩
    | dee => exact .inl ⟨.dee, hb'⟩
    | box j => exact .inl ⟨(.box j), hb'⟩
/-- One deed more is done. -/
theorem Fin'.then_done {w w1 : World} {L : Lay} {d d1 : Dsk} (h : Fin' w L d w1 d1) (hd : isDown d1.armed = false) (ha : ∀ n, d1.armed = some n → n < 9223372036854775808) :
    Calls Tryz.prog 82 #[.pointer (some ⟨L.p, 0, none⟩)] w1 fun e w' => e = .returned (.tuple #[]) ∧ Fin' w L d w' d1.done := by
  obtain ⟨L', h1, h4, h5, h6, h7⟩ := h
  rw [← h1]
  refine (done_any w1 L' d1 h5 hd ha).mono ?_
  rintro e w' ⟨rfl, hA, hK⟩
  exact ⟨rfl, L', h1, h4, hA, h6.trans hK (fun j hj hlt => by
    rcases h7 .dsk j hj with ⟨u, h⟩ | h
    · exact ⟨u, h⟩
    · omega), h7⟩

theorem on_down {α : Type} {d : Dsk} {n : ByteArray} {no f : Nat → α} (h : isDown d.armed = true) : d.on n no f = no 12 := by unfold Dsk.on; rw [if_pos (isDown_true h)]
theorem on_none {α : Type} {d : Dsk} {n : ByteArray} {no f : Nat → α} (h : isDown d.armed = false) (hf : tfind d.now n = none) : d.on n no f = no 6 := by unfold Dsk.on; rw [if_neg (isDown_false h), hf]
theorem on_some {α : Type} {d : Dsk} {n : ByteArray} {no f : Nat → α} {k : Nat} (h : isDown d.armed = false) (hf : tfind d.now n = some k) : d.on n no f = f k := by unfold Dsk.on; rw [if_neg (isDown_false h), hf]
/-- What every call of a disk may ask. -/
structure Ready (w : World) (L : Lay) (d : Dsk) (k : Nat) : Prop where
  at' : At w L d
  cr : L.cr = d.files.length
  ok : d.Ok k
  small : k ≤ 100000
theorem Ready.now_len {w : World} {L : Lay} {d : Dsk} {k : Nat} (h : Ready w L d k) : d.now.length ≤ 100000 := by
  have := h.ok.nowN; have := h.ok.lenN; have := h.small; omega
theorem Ready.dee_len {w : World} {L : Lay} {d : Dsk} {k : Nat} (h : Ready w L d k) : d.deeds.length ≤ 100000 := by
  have := h.ok.lenN; have := h.small; omega
theorem Ready.file {w : World} {L : Lay} {d : Dsk} {k : Nat} (h : Ready w L d k) {n : ByteArray} {j : Nat} (hf : tfind d.now n = some j) : j < d.files.length := (h.ok.nowF _ (tfind_mem hf)).1
theorem fat_mem {fs : List Fil} {k : Nat} (h : k < fs.length) : fat fs k ∈ fs := by
  unfold fat
  rw [List.getD_eq_getElem?_getD, List.getElem?_eq_getElem h]
  exact List.getElem_mem h
theorem Ready.fil {w : World} {L : Lay} {d : Dsk} {k : Nat} (h : Ready w L d k) {j : Nat} (hj : j < d.files.length) : (fat d.files j).lasts ≤ (fat d.files j).b.length ∧ (fat d.files j).b.length ≤ 16777216 := h.ok.fil _ (fat_mem hj)

end Go.Proofs.YtcpoaofcfefgaaaGreatDoor
end

section
namespace Go.Proofs.YtcpoaofcfefgaaaGreatDoor
open Go.RowKit Go.Cor

theorem Tryz.sizeU8b : (Tryz.prog.info? 5).map (·.size) = some 1 := by kernel_rfl
theorem fbox_facts {w : World} {g : Nat} {a0 a1 a2 : Value} {T : TypeId} (h : Blk w g #[a0, a1, a2] T) : w.cell? ⟨g, 0, none⟩ = some a0 ∧ w.cell? ⟨g, 1, none⟩ = some a1 ∧ w.cell? ⟨g, 2, none⟩ = some a2 := ⟨h.cell 0 rfl, h.cell 1 rfl, h.cell 2 rfl⟩
theorem isNm_ne {t : ByteArray} (h : isNm t = true) : t ≠ noName := by
  rintro rfl
  cases h
theorem isX_of_B {w : World} {v : Value} {l : List UInt8} (h : IsB w v l) : IsX w 1 v l.length (bvs l) := by
  obtain ⟨a, cap, rfl, h1, h2, h0, h3⟩ := h
  refine ⟨a, cap, rfl, h1, h2, by simp, h0, ?_⟩
  rcases h3 with h3 | ⟨b, off, rfl, hc⟩
  · exact .inl h3
  · refine .inr ⟨b, off, rfl, fun j hj => ?_⟩
    rw [Nat.mul_one] at hj
    rw [hc j hj, bvs_get hj]
theorem usedT_append (fs : List Fil) (a b : Tbl) : usedT fs (a ++ b) = usedT fs a + usedT fs b := by
  induction a with
  | nil => simp [usedT]
  | cons e r ih => simp only [List.cons_append, usedT, ih]; omega
theorem usedT_snoc (fs : List Fil) (l : Tbl) (i : Nat) {e : ByteArray × Nat} (h : l[i]? = some e) : usedT fs (l.take (i + 1)) = usedT fs (l.take i) + (fat fs e.2).b.length := by
  obtain ⟨hi, he⟩ := List.getElem?_eq_some_iff.1 h
  rw [List.take_succ_eq_append_getElem hi, usedT_append, he]
  simp [usedT]
theorem usedT_le (fs : List Fil) (l : Tbl) (h : ∀ f ∈ fs, f.b.length ≤ 16777216) : usedT fs l ≤ l.length * 16777216 := by
  induction l with
  | nil => simp [usedT]
  | cons e r ih =>
    have h1 : (fat fs e.2).b.length ≤ 16777216 := by
      unfold fat
      rw [List.getD_eq_getElem?_getD]
      cases he : fs[e.2]? with
      | none => simp
      | some f => exact h f (List.mem_of_getElem? he)
    simp only [usedT, List.length_cons]
    omega

set_option maxRecDepth 100000 in
set_option maxHeartbeats 1000000 in
theorem used_any (w : World) (L : Lay) (d : Dsk) (k : Nat) (h : Ready w L d k) :
    Calls Tryz.prog 81 #[.pointer (some ⟨L.p, 0, none⟩)] w fun e w' => e = .returned (.int .i64 (d.used : Int)) ∧ Below w.heap.size w w' := by
  have H := Lib.hid h
  obtain ⟨N, hN⟩ : ∃ N, d.now.length = N := ⟨_, rfl⟩
  have hNl := h.now_len
  obtain ⟨_, _, c2, _, _, _, _⟩ := box_facts h.at'.blk
  have hlen := fun W => len_X (P := Tryz.prog) (IsX.own h.at'.rest.now) 85 3 _ Tryz.underlying85 W
  obtain ⟨U, hU⟩ : ∃ U, d.used = U := ⟨_, rfl⟩
  rw [hN] at hNl hlen
  rw [hU]
  have HN := Lib.hid hN
  have HU := Lib.hid hU
  clear h hN hU
  go_enter Tryz.func81, Tryz.ntmps81
  go_wp2
  go_loopw [3, 13] (fun u c wr => ∃ i : Nat, i ≤ N ∧ c = .int .i64 i ∧ u = .int .i64 (usedT d.files (d.now.take i)) ∧ Hid (Below w.heap.size w wr)) (fun _ c _ => N - (intOf c).toNat)
  case atStart => exact ⟨0, Nat.zero_le _, rfl, rfl, Lib.hid (Below.refl _ _)⟩
  case round =>
    obtain ⟨i, hiN, rfl, rfl, hB⟩ := hrel
    by_cases hlt : i < N
    · obtain ⟨e, he⟩ : ∃ e, d.now[i]? = some e := ⟨_, List.getElem?_eq_getElem (by rw [HN.out]; omega)⟩
      have hem := List.mem_of_getElem? he
      have hfl := (H.out.ok.nowF e hem).1
      obtain ⟨b, o, hidx, hob, k0, k1⟩ := indexAt_T (IsX.own (ownsRow_below H.out.at'.rest.now hB.out (Nat.le_refl _))) 85 Tryz.underlying85 he
      have hbl := cell_lt k0
      have HX := Lib.hid ((H.out.at'.below hB.out (Nat.le_refl _)).rest.box e.2 hfl)
      obtain ⟨_, f1, _⟩ := fbox_facts HX.out
      have hfb := HX.out.lt
      have hlen2 := fun W => len_X (P := Tryz.prog) (IsX.own (H.out.at'.rest.byt e.2 hfl)) 53 3 _ Tryz.underlying53 W
      have hsn := usedT_snoc d.files d.now i he
      obtain ⟨M, hM⟩ : ∃ M, (fat d.files e.2).b.length = M := ⟨_, rfl⟩
      obtain ⟨A, hA⟩ : ∃ A, usedT d.files (d.now.take i) = A := ⟨_, rfl⟩
      have hMl : M ≤ 16777216 := by rw [← hM]; exact (H.out.fil hfl).2
      have hAl : A ≤ 1677721600000 := by
        have := usedT_le d.files (d.now.take i) (fun f hf => (H.out.ok.fil f hf).2)
        rw [List.length_take, hA] at this
        omega
      rw [hM] at hsn hlen2
      rw [hA] at hsn
      have HSN := Lib.hid hsn
      rw [hA]
      have hbl' : b < wr.heap.size := hbl
      clear hem he hM hA hsn hbl
      go_wp2
      go_roundw
      case rel => exact ⟨i + 1, by omega, by go_num, by rw [HSN.out]; go_num, Lib.hid (hB.out.alloc hB.out.size _)⟩
      case measure => simp [intOf]; omega
    · obtain rfl : i = N := by omega
      go_wp2
      go_ret
      refine ⟨?_, hB.out⟩
      rw [← HU.out]
      unfold Dsk.used
      rw [List.take_of_length_le (by rw [HN.out]; omega)]
      rfl

end Go.Proofs.YtcpoaofcfefgaaaGreatDoor
end

section
namespace Go.Proofs.YtcpoaofcfefgaaaGreatDoor
open Go.RowKit Go.Cor

set_option maxRecDepth 100000 in
set_option maxHeartbeats 2000000 in
theorem sync_any (w : World) (L : Lay) (d : Dsk) (k : Nat) (n : ByteArray) (h : Ready w L d k) :
    Calls Tryz.prog 52 #[.pointer (some ⟨L.p, 0, none⟩), .string n] w fun e w' => e = .returned (cerr (d.sync n).2) ∧ Fin' w L d w' (d.sync n).1 := by
  have H := Lib.hid h
  cases hd : isDown d.armed with
  | true =>
    rw [show d.sync n = (d, 12) from on_down hd]
    have HD := Lib.hid hd
    clear h hd
    go_enter Tryz.func52, Tryz.ntmps52
    go_wp2_with fail
    refine (find_down _ L d n H.out.at' HD.out).mono ?_
    rintro e w1 ⟨rfl, hb⟩
    have HB := Lib.hid hb
    clear hb
    go_wp2
    go_ret
    exact ⟨rfl, Fin'.same H.out.at' H.out.cr HB.out⟩
  | false =>
    cases hf : tfind d.now n with
    | none =>
      rw [show d.sync n = (d, 6) from on_none hd hf]
      have HD := Lib.hid hd
      have HF := Lib.hid hf
      have hln := h.now_len
      clear h hd hf
      go_enter Tryz.func52, Tryz.ntmps52
      go_wp2_with fail
      refine (find_none _ L d n H.out.at' HD.out H.out.ok.nowS (by omega) HF.out).mono ?_
      rintro e w1 ⟨rfl, hb⟩
      have HB := Lib.hid hb
      clear hb
      go_wp2
      go_ret
      exact ⟨rfl, Fin'.same H.out.at' H.out.cr HB.out⟩
    | some j =>
      have hj := h.file hf
      have hln := h.now_len
      have hfl := h.fil hj
      have HD := Lib.hid hd
      have HF := Lib.hid hf
      have HJ := Lib.hid hj
      clear h
      rw [show d.sync n = ((d.setF j ⟨(fat d.files j).b, (fat d.files j).b.length⟩).done, 0) from on_some hd hf]
      clear hd hf
      obtain ⟨N, hN⟩ : ∃ N, (fat d.files j).b.length = N := ⟨_, rfl⟩
      have HN := Lib.hid hN
      rw [hN] at hfl
      rw [hN]
      clear hN
      go_enter Tryz.func52, Tryz.ntmps52
      go_wp2_with fail
      refine (find_some _ L d n j H.out.at' HD.out H.out.ok.nowS (by omega) HF.out).mono ?_
      rintro e w1 ⟨rfl, hb⟩
      have HB := Lib.hid hb
      have HA1 := Lib.hid (H.out.at'.below hb (Nat.le_refl _))
      have HX1 := Lib.hid (HA1.out.rest.box j HJ.out)
      have HY1 := Lib.hid (HA1.out.rest.byt j HJ.out)
      clear hb
      obtain ⟨c0, c1, c2⟩ := fbox_facts HX1.out
      have f1 := HX1.out.free 1
      have f2 := HX1.out.free 2
      have hlen := fun W => len_X (P := Tryz.prog) (IsX.own HY1.out) 53 3 _ Tryz.underlying53 W
      rw [HN.out] at hlen
      have HK2 := Lib.hid ((Kept.refl (fun i => some (L.fb j) = some i ∨ (L.fv j).ownBlock = some i) w1).setCell (p := ⟨L.fb j, 2, none⟩) (.inl (.inl rfl)) (.int .i64 (N : Int)))
      have HY2 := Lib.hid (ownsRow_kept (S := fun i => some (L.fb j) = some i) HY1.out ((Kept.refl (fun i => some (L.fb j) = some i) w1).setCell (p := ⟨L.fb j, 2, none⟩) (.inl rfl) (.int .i64 (N : Int))) (fun i e e2 => by cases HA1.out.rest.apt (.byt j) (.box j) i ((own_byt HJ.out).trans e) ((own_box HJ.out).trans e2)))
      have HF2 := Lib.hid (fin_file (f := ⟨(fat d.files j).b, N⟩) HA1.out H.out.cr HJ.out (HX1.out.set 2 (.int .i64 (N : Int))) HY2.out HK2.out (fun i hi => .inl hi))
      go_wp2_with fail
      refine (Fin'.then_done HF2.out HD.out H.out.ok.arm).mono ?_
      rintro e w3 ⟨rfl, hF3⟩
      have HF3 := Lib.hid (Fin'.below HB.out hF3)
      clear hF3
      go_wp2
      go_ret
      exact ⟨rfl, HF3.out⟩

set_option maxRecDepth 100000 in
set_option maxHeartbeats 2000000 in
theorem rename_any (w : World) (L : Lay) (d : Dsk) (k : Nat) (n : ByteArray) (t : ByteArray) (h : Ready w L d k) (hsz1 : n.size ≤ 281474976710656) (hsz2 : t.size ≤ 281474976710656) :
    Calls Tryz.prog 55 #[.pointer (some ⟨L.p, 0, none⟩), .string n, .string t] w fun e w' => e = .returned (cerr (d.rename n t).2) ∧ Fin' w L d w' (d.rename n t).1 := by
  have H := Lib.hid h
  cases hd : isDown d.armed with
  | true =>
    rw [show d.rename n t = (d, 12) from on_down hd]
    have HD := Lib.hid hd
    clear h hd
    go_enter Tryz.func55, Tryz.ntmps55
    go_wp2_with fail
    refine (find_down _ L d n H.out.at' HD.out).mono ?_
    rintro e w1 ⟨rfl, hb⟩
    have HB := Lib.hid hb
    clear hb
    go_wp2
    go_ret
    exact ⟨rfl, Fin'.same H.out.at' H.out.cr HB.out⟩
  | false =>
    cases hf : tfind d.now n with
    | none =>
      rw [show d.rename n t = (d, 6) from on_none hd hf]
      have HD := Lib.hid hd
      have HF := Lib.hid hf
      have hln := h.now_len
      clear h hd hf
      go_enter Tryz.func55, Tryz.ntmps55
      go_wp2_with fail
      refine (find_none _ L d n H.out.at' HD.out H.out.ok.nowS (by omega) HF.out).mono ?_
      rintro e w1 ⟨rfl, hb⟩
      have HB := Lib.hid hb
      clear hb
      go_wp2
      go_ret
      exact ⟨rfl, Fin'.same H.out.at' H.out.cr HB.out⟩
    | some j =>
      have hj := h.file hf
      have hln := h.now_len
      have hfl := h.fil hj
      have HD := Lib.hid hd
      have HF := Lib.hid hf
      have HJ := Lib.hid hj
      clear h
      have hst : d.rename n t = if isNm t = false then (d, 1) else (d.nameD ⟨n, t, j⟩, 0) := on_some hd hf
      rw [hst]
      clear hd hf hst
      cases hn : isNm t with
      | false =>
        rw [if_pos rfl]
        have HNM := Lib.hid hn
        clear hn
        go_enter Tryz.func55, Tryz.ntmps55
        go_wp2_with fail
        refine (find_some _ L d n j H.out.at' HD.out H.out.ok.nowS (by omega) HF.out).mono ?_
        rintro e w1 ⟨rfl, hb⟩
        have HB := Lib.hid hb
        have HA1 := Lib.hid (H.out.at'.below hb (Nat.le_refl _))
        have HX1 := Lib.hid (HA1.out.rest.box j HJ.out)
        have HY1 := Lib.hid (HA1.out.rest.byt j HJ.out)
        clear hb
        obtain ⟨c0, c1, c2⟩ := fbox_facts HX1.out
        have f1 := HX1.out.free 1
        have f2 := HX1.out.free 2
        go_wp2_with fail
        refine (isName_any t _ (by omega)).mono ?_
        rintro e w2 ⟨rfl, rfl⟩
        rw [HNM.out]
        go_wp2
        go_ret
        exact ⟨rfl, Fin'.same H.out.at' H.out.cr HB.out⟩
      | true =>
        rw [if_neg (by decide)]
        have HNM := Lib.hid hn
        clear hn
        go_enter Tryz.func55, Tryz.ntmps55
        go_wp2_with fail
        refine (find_some _ L d n j H.out.at' HD.out H.out.ok.nowS (by omega) HF.out).mono ?_
        rintro e w1 ⟨rfl, hb⟩
        have HB := Lib.hid hb
        have HA1 := Lib.hid (H.out.at'.below hb (Nat.le_refl _))
        have HX1 := Lib.hid (HA1.out.rest.box j HJ.out)
        have HY1 := Lib.hid (HA1.out.rest.byt j HJ.out)
        clear hb
        obtain ⟨c0, c1, c2⟩ := fbox_facts HX1.out
        have f1 := HX1.out.free 1
        have f2 := HX1.out.free 2
        go_wp2_with fail
        refine (isName_any t _ (by omega)).mono ?_
        rintro e w2 ⟨rfl, rfl⟩
        rw [HNM.out]
        go_wp2_with fail
        refine (name_any _ L d n t j _ HA1.out hsz1 hsz2 (by unfold dptr; rw [if_neg (isNm_ne HNM.out)]) HD.out H.out.ok.arm H.out.ok.nowS (by omega) (by have := H.out.dee_len; omega)).mono ?_
        rintro e w3 ⟨rfl, hM⟩
        have HF3 := Lib.hid (Fin'.below HB.out (Fin'.of_mid hM (show L.cr = d.files.length from H.out.cr)))
        clear hM
        go_wp2
        go_ret
        exact ⟨rfl, HF3.out⟩

end Go.Proofs.YtcpoaofcfefgaaaGreatDoor
end

section
namespace Go.Proofs.YtcpoaofcfefgaaaGreatDoor
open Go.RowKit Go.Cor

set_option maxHeartbeats 400000 in
theorem bclone_any (v : Value) (l : List UInt8) (w : World) (hv : IsB w v l) (hl : l.length ≤ 1099511627776) :
    Calls Tryz.prog 98 #[v] w fun e w' =>
      ∃ v', e = .returned v' ∧ w'.ownsRow w.heap.size 5 1 v' l.length (bvs l) ∧ Below w.heap.size w w' := by
  obtain ⟨i0, hi, hz0, hz1, hz2⟩ := info_parts Tryz.infoU8
  have q22 : ∀ (w : World) (a : Option Addr) (n c n' c' : Nat), (binOp .eql 53 (.slice a n c) (.slice none n' c')).run Tryz.prog w = .ok (.bool a.isNone) w := fun w a n c n' c' => Lib.run_eql_slice_nil w _ _ a n c n' c' Tryz.underlying53
  have HV := Lib.hid hv
  obtain ⟨x, cap, rfl, hlc, hcm, hnc, hcell⟩ := hv
  clear hcell
  cases x with
  | none =>
    obtain rfl := hnc rfl
    obtain rfl : l = [] := List.eq_nil_of_length_eq_zero (by omega)
    go_enter Tryz.func98, Tryz.ntmps98
    go_wp2
    go_ret
    exact ⟨_, rfl, ⟨rfl, .inl ⟨rfl, rfl⟩⟩, Below.refl _ _⟩
  | some a =>
    clear hnc
    go_enter Tryz.func98, Tryz.ntmps98
    go_wp2_with (at_builtin; refine wpList_append_B (by rfl) _ _ 53 rfl w.heap.size 5 i0 Tryz.underlying53 hi hz0 hz1 hz2 _ [] 0 rfl (World.ownsRow_lit _ #[] 0 (Nat.le_refl _) (Nat.zero_le _) rfl) rfl _ l rfl (HV.out.mono ((Below.refl _ _).alloc (Nat.le_refl _) _) (Nat.le_refl _)) (by simp; omega) (by simp) ?_; intro v4 w4 hown4 hb4)
    go_ret
    exact ⟨_, rfl, by simpa using hown4, ((Below.refl _ _).alloc (Nat.le_refl _) _).trans hb4⟩

theorem slice_lh_V {P : Program} {w : World} {v : Value} {l : List UInt8} (hv : IsB w v l) (T U : TypeId) (ht : P.underlying T = some (.slice U)) (hs : (P.info? U).map (·.size) = some 1) (lo hi : Nat) (h1 : lo ≤ hi) (h2 : hi ≤ l.length) :
    ∃ sv, (∀ W, (Instr.slice T v (some (.int .i64 (lo : Int))) (some (.int .i64 (hi : Int))) none).run P W = .ok sv W) ∧ IsB w sv ((l.drop lo).take (hi - lo)) := by
  obtain ⟨i, hi1, hi2⟩ := Option.map_eq_some_iff.1 hs
  obtain ⟨a, cap, rfl, k1, k2, k0, k3⟩ := hv
  have ht' : P.underlying T = some (.slice (P.elem T)) := by simp [Program.elem, ht]
  have he : P.elem T = U := by simp [Program.elem, ht]
  have hsz : ∀ W, (sizeOf U).run P W = .ok 1 W := fun W => by simp [sizeOf, typeInfo, hi1, hi2]
  refine ⟨sliced a lo hi cap 1, fun W => ?_, ?_⟩
  · rw [run_slice_lh W T _ _ _ ht' .i64 .i64 _ _ (by omega) (by omega) (by omega), he, hsz]
    simp [Result.andThen]
  · have hlen : ((l.drop lo).take (hi - lo)).length = hi - lo := by simp; omega
    unfold sliced
    refine ⟨_, _, by rw [hlen], by rw [hlen]; omega, by omega, fun hx => ?_, ?_⟩
    · split at hx
      · omega
      · have : a = none := by simpa using hx
        rw [k0 this]
        omega
    · rw [hlen]
      by_cases h0 : hi - lo = 0
      · exact .inl h0
      · rcases k3 with k3 | ⟨b, off, rfl, hc⟩
        · omega
        · rw [if_neg (by omega)]
          refine .inr ⟨b, off + lo, by simp [add_lit], fun i hi => ?_⟩
          rw [show off + lo + i = off + (lo + i) from by omega, hc (lo + i) (by omega)]
          congr 2
          simp only [List.getD_eq_getElem?_getD, List.getElem?_take, if_pos hi, List.getElem?_drop]
set_option maxRecDepth 100000 in
set_option maxHeartbeats 2000000 in
theorem read_any (w : World) (L : Lay) (d : Dsk) (k : Nat) (n : ByteArray) (m z : Int) (h : Ready w L d k) (hm1 : -9223372036854775808 ≤ m) (hm2 : m ≤ 9223372036854775807) (hz1 : -9223372036854775808 ≤ z) (hz2 : z ≤ 9223372036854775807) :
    Calls Tryz.prog 92 #[.pointer (some ⟨L.p, 0, none⟩), .string n, .int .i64 m, .int .i64 z] w fun e w' => ∃ v', e = .returned (.tuple #[v', cerr (d.read n m z).2]) ∧ w'.ownsRow w.heap.size 5 1 v' (d.read n m z).1.length (bvs (d.read n m z).1) ∧ Below w.heap.size w w' := by
  have H := Lib.hid h
  cases hd : isDown d.armed with
  | true =>
    rw [show d.read n m z = (([] : List UInt8), 12) from on_down hd]
    have HD := Lib.hid hd
    clear h hd
    go_enter Tryz.func92, Tryz.ntmps92
    go_wp2_with fail
    refine (find_down _ L d n H.out.at' HD.out).mono ?_
    rintro e w1 ⟨rfl, hb⟩
    have HB := Lib.hid hb
    clear hb
    go_wp2
    go_ret2
    exact ⟨_, rfl, World.ownsRow_nil _ _ _ _, HB.out⟩
  | false =>
    cases hf : tfind d.now n with
    | none =>
      rw [show d.read n m z = (([] : List UInt8), 6) from on_none hd hf]
      have HD := Lib.hid hd
      have HF := Lib.hid hf
      have hln := h.now_len
      clear h hd hf
      go_enter Tryz.func92, Tryz.ntmps92
      go_wp2_with fail
      refine (find_none _ L d n H.out.at' HD.out H.out.ok.nowS (by omega) HF.out).mono ?_
      rintro e w1 ⟨rfl, hb⟩
      have HB := Lib.hid hb
      clear hb
      go_wp2
      go_ret2
      exact ⟨_, rfl, World.ownsRow_nil _ _ _ _, HB.out⟩
    | some j =>
      have hj := h.file hf
      have hln := h.now_len
      have hfl := h.fil hj
      have HD := Lib.hid hd
      have HF := Lib.hid hf
      have HJ := Lib.hid hj
      clear h
      have hst : d.read n m z = if m < 0 ∨ z < 0 then ([], 1) else if (fat d.files j).b.length < m + z then ([], 3) else (((fat d.files j).b.drop m.toNat).take z.toNat, 0) := on_some hd hf
      rw [hst]
      clear hd hf hst
      obtain ⟨N, hN⟩ : ∃ N, (fat d.files j).b.length = N := ⟨_, rfl⟩
      have HN := Lib.hid hN
      rw [hN] at hfl
      rw [hN]
      clear hN
      by_cases h1 : m < 0
      · rw [if_pos (.inl h1)]
        go_enter Tryz.func92, Tryz.ntmps92
        go_wp2_with fail
        refine (find_some _ L d n j H.out.at' HD.out H.out.ok.nowS (by omega) HF.out).mono ?_
        rintro e w1 ⟨rfl, hb⟩
        have HB := Lib.hid hb
        have HA1 := Lib.hid (H.out.at'.below hb (Nat.le_refl _))
        have HX1 := Lib.hid (HA1.out.rest.box j HJ.out)
        have HY1 := Lib.hid (HA1.out.rest.byt j HJ.out)
        clear hb
        obtain ⟨c0, c1, c2⟩ := fbox_facts HX1.out
        have f1 := HX1.out.free 1
        have f2 := HX1.out.free 2
        go_wp2
        go_ret2
        exact ⟨_, rfl, World.ownsRow_nil _ _ _ _, HB.out⟩
      · by_cases h2 : z < 0
        · rw [if_pos (.inr h2)]
          go_enter Tryz.func92, Tryz.ntmps92
          go_wp2_with fail
          refine (find_some _ L d n j H.out.at' HD.out H.out.ok.nowS (by omega) HF.out).mono ?_
          rintro e w1 ⟨rfl, hb⟩
          have HB := Lib.hid hb
          have HA1 := Lib.hid (H.out.at'.below hb (Nat.le_refl _))
          have HX1 := Lib.hid (HA1.out.rest.box j HJ.out)
          have HY1 := Lib.hid (HA1.out.rest.byt j HJ.out)
          clear hb
          obtain ⟨c0, c1, c2⟩ := fbox_facts HX1.out
          have f1 := HX1.out.free 1
          have f2 := HX1.out.free 2
          go_wp2
          go_ret2
          exact ⟨_, rfl, World.ownsRow_nil _ _ _ _, HB.out⟩
        · rw [if_neg (by rintro (h | h) <;> omega)]
          by_cases h3 : (N : Int) < m + z
          · rw [if_pos h3]
            have h3' : (N : Int) - z < m := by omega
            go_enter Tryz.func92, Tryz.ntmps92
            go_wp2_with fail
            refine (find_some _ L d n j H.out.at' HD.out H.out.ok.nowS (by omega) HF.out).mono ?_
            rintro e w1 ⟨rfl, hb⟩
            have HB := Lib.hid hb
            have HA1 := Lib.hid (H.out.at'.below hb (Nat.le_refl _))
            have HX1 := Lib.hid (HA1.out.rest.box j HJ.out)
            have HY1 := Lib.hid (HA1.out.rest.byt j HJ.out)
            clear hb
            obtain ⟨c0, c1, c2⟩ := fbox_facts HX1.out
            have f1 := HX1.out.free 1
            have f2 := HX1.out.free 2
            have hlen := fun W => len_X (P := Tryz.prog) (IsX.own HY1.out) 53 3 _ Tryz.underlying53 W
            rw [HN.out] at hlen
            go_wp2
            go_ret2
            exact ⟨_, rfl, World.ownsRow_nil _ _ _ _, HB.out⟩
          · rw [if_neg h3]
            obtain ⟨q, rfl⟩ := Int.eq_ofNat_of_zero_le (show 0 ≤ m by omega)
            obtain ⟨r, rfl⟩ := Int.eq_ofNat_of_zero_le (show 0 ≤ z by omega)
            rw [show ((q : Int)).toNat = q from rfl, show ((r : Int)).toNat = r from rfl]
            have h3' : ¬ ((N : Int) - (r : Int) < (q : Int)) := by omega
            go_enter Tryz.func92, Tryz.ntmps92
            go_wp2_with fail
            refine (find_some _ L d n j H.out.at' HD.out H.out.ok.nowS (by omega) HF.out).mono ?_
            rintro e w1 ⟨rfl, hb⟩
            have HB := Lib.hid hb
            have HA1 := Lib.hid (H.out.at'.below hb (Nat.le_refl _))
            have HX1 := Lib.hid (HA1.out.rest.box j HJ.out)
            have HY1 := Lib.hid (HA1.out.rest.byt j HJ.out)
            clear hb
            obtain ⟨c0, c1, c2⟩ := fbox_facts HX1.out
            have f1 := HX1.out.free 1
            have f2 := HX1.out.free 2
            have hlen := fun W => len_X (P := Tryz.prog) (IsX.own HY1.out) 53 3 _ Tryz.underlying53 W
            rw [HN.out] at hlen
            have hI := IsB.own HY1.out rfl
            obtain ⟨sv, hsl, hsv⟩ := slice_lh_V (P := Tryz.prog) hI 53 _ Tryz.underlying53 Tryz.sizeU8b q (q + r) (by omega) (by rw [HN.out]; omega)
            rw [Nat.add_sub_cancel_left] at hsv
            rw [show ((q + r : Nat) : Int) = (q : Int) + (r : Int) from by omega] at hsl
            have HSV := Lib.hid hsv
            clear hsv hI
            go_wp2_with fail
            refine (bclone_any sv _ _ HSV.out (by rw [List.length_take, List.length_drop, HN.out]; omega)).mono ?_
            rintro e w2 ⟨v', rfl, hown, hb2⟩
            have HO2 := Lib.hid hown
            have HB2 := Lib.hid (HB.out.trans (hb2.mono HB.out.size))
            have hs1 := HB.out.size
            clear hown hb2
            go_wp2
            go_ret2
            exact ⟨_, rfl, ownsRow_base HO2.out hs1, HB2.out⟩

end Go.Proofs.YtcpoaofcfefgaaaGreatDoor
end

section
namespace Go.Proofs.YtcpoaofcfefgaaaGreatDoor
open Go.RowKit Go.Cor

theorem Ready.below {w w' : World} {L : Lay} {d : Dsk} {k B : Nat} (h : Ready w L d k) (hb : Below B w w') (hB : w.heap.size ≤ B) : Ready w' L d k := ⟨h.at'.below hb hB, h.cr, h.ok, h.small⟩
theorem regU_call {w wx wy : World} {p : Nat} {v : Value} (h : wx.cell? ⟨p, 0, none⟩ = some v ∧ Below w.heap.size w wx) (hp : p < w.heap.size) (hb : Below wx.heap.size wx wy) : wy.cell? ⟨p, 0, none⟩ = some v ∧ Below w.heap.size w wy :=
  ⟨(hb.cell (p := ⟨p, 0, none⟩) (Nat.lt_of_lt_of_le hp h.2.size)).trans h.1, h.2.trans (hb.mono h.2.size)⟩

set_option maxRecDepth 100000 in
set_option maxHeartbeats 2000000 in
theorem append_any (w : World) (L : Lay) (d : Dsk) (k : Nat) (n : ByteArray) (v : Value) (l : List UInt8) (h : Ready w L d k) (hbv : IsB w v l) (hl : l.length ≤ 16777216) :
    Calls Tryz.prog 51 #[.pointer (some ⟨L.p, 0, none⟩), .string n, v] w fun e w' => e = .returned (cerr (d.append n l).2) ∧ Fin' w L d w' (d.append n l).1 := by
  have H := Lib.hid h
  cases hd : isDown d.armed with
  | true =>
    rw [show d.append n l = (d, 12) from on_down hd]
    have HD := Lib.hid hd
    clear h hd
    go_enter Tryz.func51, Tryz.ntmps51
    go_wp2_with fail
    refine (find_down _ L d n H.out.at' HD.out).mono ?_
    rintro e w1 ⟨rfl, hb⟩
    have HB := Lib.hid hb
    clear hb
    go_wp2
    go_ret
    exact ⟨rfl, Fin'.same H.out.at' H.out.cr HB.out⟩
  | false =>
    cases hf : tfind d.now n with
    | none =>
      rw [show d.append n l = (d, 6) from on_none hd hf]
      have HD := Lib.hid hd
      have HF := Lib.hid hf
      have hln := h.now_len
      clear h hd hf
      go_enter Tryz.func51, Tryz.ntmps51
      go_wp2_with fail
      refine (find_none _ L d n H.out.at' HD.out H.out.ok.nowS (by omega) HF.out).mono ?_
      rintro e w1 ⟨rfl, hb⟩
      have HB := Lib.hid hb
      clear hb
      go_wp2
      go_ret
      exact ⟨rfl, Fin'.same H.out.at' H.out.cr HB.out⟩
    | some j =>
      have hj := h.file hf
      have hln := h.now_len
      have hfl := h.fil hj
      have HD := Lib.hid hd
      have HF := Lib.hid hf
      have HJ := Lib.hid hj
      clear h
      have hst : d.append n l = if 16777216 < (fat d.files j).b.length + l.length then (d, 2) else if d.cap < d.used + l.length then (d, 11) else ((d.setF j ⟨(fat d.files j).b ++ l, (fat d.files j).lasts⟩).done, 0) := on_some hd hf
      rw [hst]
      have HBV := Lib.hid hbv
      have hcap := H.out.ok.cap
      have hus := usedT_le d.files d.now (fun f hf => (H.out.ok.fil f hf).2)
      clear hd hf hst hbv
      obtain ⟨N, hN⟩ : ∃ N, (fat d.files j).b.length = N := ⟨_, rfl⟩
      have HN := Lib.hid hN
      rw [hN] at hfl
      rw [hN]
      clear hN
      obtain ⟨M, hM⟩ : ∃ M, l.length = M := ⟨_, rfl⟩
      have HM := Lib.hid hM
      rw [hM] at hl
      rw [hM]
      clear hM
      obtain ⟨U, hU⟩ : ∃ U, d.used = U := ⟨_, rfl⟩
      have HU := Lib.hid hU
      rw [show usedT d.files d.now = U from hU] at hus
      rw [hU]
      clear hU
      have hus' : U ≤ 1677721600000 := by omega
      by_cases h1 : 16777216 < N + M
      · rw [if_pos h1]
        have h1' : (16777216 : Int) - (N : Int) < (M : Int) := by omega
        go_enter Tryz.func51, Tryz.ntmps51
        go_wp2_with fail
        refine (find_some _ L d n j H.out.at' HD.out H.out.ok.nowS (by omega) HF.out).mono ?_
        rintro e w1 ⟨rfl, hb⟩
        have HB := Lib.hid hb
        have HA1 := Lib.hid (H.out.at'.below hb (Nat.le_refl _))
        have HX1 := Lib.hid (HA1.out.rest.box j HJ.out)
        have HY1 := Lib.hid (HA1.out.rest.byt j HJ.out)
        clear hb
        obtain ⟨c0, c1, c2⟩ := fbox_facts HX1.out
        have f1 := HX1.out.free 1
        have f2 := HX1.out.free 2
        have hlen := fun W => len_X (P := Tryz.prog) (IsX.own HY1.out) 53 3 _ Tryz.underlying53 W
        rw [HN.out] at hlen
        have hbl := fun W => len_X (P := Tryz.prog) (isX_of_B HBV.out) 53 3 _ Tryz.underlying53 W
        rw [HM.out] at hbl
        go_wp2
        go_ret
        exact ⟨rfl, Fin'.same H.out.at' H.out.cr HB.out⟩
      · rw [if_neg h1]
        have h1' : ¬ (16777216 : Int) - (N : Int) < (M : Int) := by omega
        by_cases h2 : d.cap < U + M
        · rw [if_pos h2]
          have h2' : (d.cap : Int) - (U : Int) < (M : Int) := by omega
          go_enter Tryz.func51, Tryz.ntmps51
          go_wp2_with fail
          refine (find_some _ L d n j H.out.at' HD.out H.out.ok.nowS (by omega) HF.out).mono ?_
          rintro e w1 ⟨rfl, hb⟩
          have HB := Lib.hid hb
          have HA1 := Lib.hid (H.out.at'.below hb (Nat.le_refl _))
          have HX1 := Lib.hid (HA1.out.rest.box j HJ.out)
          have HY1 := Lib.hid (HA1.out.rest.byt j HJ.out)
          clear hb
          obtain ⟨c0, c1, c2⟩ := fbox_facts HX1.out
          have f1 := HX1.out.free 1
          have f2 := HX1.out.free 2
          have hlen := fun W => len_X (P := Tryz.prog) (IsX.own HY1.out) 53 3 _ Tryz.underlying53 W
          rw [HN.out] at hlen
          have hbl := fun W => len_X (P := Tryz.prog) (isX_of_B HBV.out) 53 3 _ Tryz.underlying53 W
          rw [HM.out] at hbl
          obtain ⟨p0, _, _, _, _, _, _⟩ := box_facts HA1.out.blk
          have S0 : w1.drew.cell? ⟨L.p, 0, none⟩ = some (.int .i64 (d.cap : Int)) ∧ Below w1.heap.size w1 w1.drew := ⟨p0, (Below.refl _ w1).drew⟩
          have hpl := HA1.out.blk.lt
          have HR1 := Lib.hid (show Ready w1.drew L d k from (H.out.below HB.out (Nat.le_refl _)).below ((Below.refl _ w1).drew) (Nat.le_refl _))
          go_upto_region 6 with fail
          go_cut [37] from 28 to 37 (fun q wx => q = .bool true ∧ Hid (Below w1.heap.size w1 wx))
          case first =>
            go_region_held3 (fun wx => wx.cell? ⟨L.p, 0, none⟩ = some (.int .i64 (d.cap : Int)) ∧ Below w1.heap.size w1 wx) (first | exact S0 | exact regU_call S0 hpl (by assumption)) (first | (go_at_call 81; refine (used_any w1.drew L d k HR1.out).mono ?_; rintro e wa ⟨rfl, hba⟩; rw [HU.out]))
            go_wp2_with fail
            go_meet
            exact ⟨by rw [IntWalk.i64_in _ (by omega), decide_eq_true h2'], Lib.hid (regU_call S0 hpl hba).2⟩
          case rest =>
            obtain ⟨rfl, hbc⟩ := hcut
            clear S0 HR1 p0
            go_wp2
            go_ret
            exact ⟨rfl, Fin'.same H.out.at' H.out.cr (HB.out.trans (hbc.out.mono HB.out.size))⟩
        · rw [if_neg h2]
          have h2' : ¬ (d.cap : Int) - (U : Int) < (M : Int) := by omega
          obtain ⟨i0, hi, hz0, hz1, hz2⟩ := info_parts Tryz.infoU8
          have HI := Lib.hid hi
          have HZ0 := Lib.hid hz0
          have HZ1 := Lib.hid hz1
          have HZ2 := Lib.hid hz2
          clear hi hz0 hz1 hz2
          go_enter Tryz.func51, Tryz.ntmps51
          go_wp2_with fail
          refine (find_some _ L d n j H.out.at' HD.out H.out.ok.nowS (by omega) HF.out).mono ?_
          rintro e w1 ⟨rfl, hb⟩
          have HB := Lib.hid hb
          have HA1 := Lib.hid (H.out.at'.below hb (Nat.le_refl _))
          have HX1 := Lib.hid (HA1.out.rest.box j HJ.out)
          have HY1 := Lib.hid (HA1.out.rest.byt j HJ.out)
          clear hb
          obtain ⟨c0, c1, c2⟩ := fbox_facts HX1.out
          have f1 := HX1.out.free 1
          have f2 := HX1.out.free 2
          have hlen := fun W => len_X (P := Tryz.prog) (IsX.own HY1.out) 53 3 _ Tryz.underlying53 W
          rw [HN.out] at hlen
          have hbl := fun W => len_X (P := Tryz.prog) (isX_of_B HBV.out) 53 3 _ Tryz.underlying53 W
          rw [HM.out] at hbl
          obtain ⟨p0, _, _, _, _, _, _⟩ := box_facts HA1.out.blk
          have S0 : w1.drew.cell? ⟨L.p, 0, none⟩ = some (.int .i64 (d.cap : Int)) ∧ Below w1.heap.size w1 w1.drew := ⟨p0, (Below.refl _ w1).drew⟩
          have hpl := HA1.out.blk.lt
          have HR1 := Lib.hid (show Ready w1.drew L d k from (H.out.below HB.out (Nat.le_refl _)).below ((Below.refl _ w1).drew) (Nat.le_refl _))
          go_upto_region 6 with fail
          go_cut [37] from 28 to 37 (fun q wx => q = .bool false ∧ Hid (Below w1.heap.size w1 wx))
          case first =>
            go_region_held3 (fun wx => wx.cell? ⟨L.p, 0, none⟩ = some (.int .i64 (d.cap : Int)) ∧ Below w1.heap.size w1 wx) (first | exact S0 | exact regU_call S0 hpl (by assumption)) (first | (go_at_call 81; refine (used_any w1.drew L d k HR1.out).mono ?_; rintro e wa ⟨rfl, hba⟩; rw [HU.out]))
            go_wp2_with fail
            go_meet
            exact ⟨by rw [IntWalk.i64_in _ (by omega), decide_eq_false (Int.not_lt.2 h2')], Lib.hid (regU_call S0 hpl hba).2⟩
          case rest =>
            obtain ⟨rfl, hbc⟩ := hcut
            clear S0 HR1 p0
            have HBC := Lib.hid hbc.out
            clear hbc
            obtain ⟨w2, hw2⟩ : ∃ w2, w2 = wc := ⟨_, rfl⟩
            subst hw2
            have HBW := Lib.hid (HB.out.trans (HBC.out.mono HB.out.size))
            have HA2 := Lib.hid (HA1.out.below HBC.out (Nat.le_refl _))
            have HX2 := Lib.hid (HA2.out.rest.box j HJ.out)
            have HY2 := Lib.hid (HA2.out.rest.byt j HJ.out)
            have HV2 := Lib.hid (isX_of_B (HBV.out.mono HBW.out (Nat.le_refl _)))
            clear c0 c1 c2 f1 f2 HX1 HY1
            obtain ⟨c0, c1, c2⟩ := fbox_facts HX2.out
            go_wp2_with (at_builtin; refine wpList_append_X (by rfl) _ _ 53 53 rfl (fun _ _ _ => rfl) 0 5 i0 _ 1 1 Tryz.underlying53 HI.out HZ0.out HZ1.out HZ2.out rfl (by decide) (L.fv j) _ _ rfl HY2.out v _ _ rfl HV2.out (bvs_one l) (by unfold maxLen; rw [HN.out, HM.out]; omega) (by rw [HN.out, HM.out]; omega) (Nat.zero_le _) ?_)
            intro v4 w4 hown4 hgr4 hat4
            obtain ⟨x4, z4, rfl, hz4a, hz4b⟩ := ownsRow_slice hown4
            have hbb : (bvs (fat d.files j).b ++ bvs l) = bvs ((fat d.files j).b ++ l) := (bvs_append _ _).symm
            rw [hbb] at hown4
            have hapt : ¬ (L.fv j).ownBlock = some (L.fb j) := fun e => by cases HA2.out.rest.apt (.byt j) (.box j) _ ((own_byt HJ.out).trans e) (own_box HJ.out)
            have HX4 := Lib.hid (HX2.out.grown (w' := w4) hgr4 hapt)
            have hv4 : ∀ i, (Value.slice x4 ((fat d.files j).b.length + l.length) z4).ownBlock = some i → (L.fv j).ownBlock = some i ∨ w2.heap.size ≤ i := fun i e => by
              rcases hat4 with h | h
              · exact .inl (h ▸ e)
              · rw [h] at e
                cases e
                exact .inr (Nat.le_refl _)
            have HK4 := Lib.hid (((Kept.refl (fun i => some (L.fb j) = some i ∨ (L.fv j).ownBlock = some i) w2).grown hgr4 (fun i e => .inl (.inr e))).setCell (p := ⟨L.fb j, 1, none⟩) (.inl (.inl rfl)) (.slice x4 ((fat d.files j).b.length + l.length) z4))
            have hne4 : ∀ i, (Value.slice x4 ((fat d.files j).b.length + l.length) z4).ownBlock = some i → ¬ some (L.fb j) = some i := fun i e e2 => by
              cases e2
              rcases hv4 _ e with h | h
              · exact hapt h
              · have := HX2.out.lt
                omega
            have HY4 := Lib.hid (ownsRow_kept (S := fun i => some (L.fb j) = some i) hown4 ((Kept.refl (fun i => some (L.fb j) = some i) w4).setCell (p := ⟨L.fb j, 1, none⟩) (.inl rfl) (.slice x4 ((fat d.files j).b.length + l.length) z4)) hne4)
            have HF4 := Lib.hid (fin_file (f := ⟨(fat d.files j).b ++ l, (fat d.files j).lasts⟩) HA2.out H.out.cr HJ.out (HX4.out.set 1 (.slice x4 ((fat d.files j).b.length + l.length) z4)) (by have := HY4.out; rw [show ((⟨(fat d.files j).b ++ l, (fat d.files j).lasts⟩ : Fil)).b.length = (fat d.files j).b.length + l.length from List.length_append]; exact this) HK4.out hv4)
            clear hown4 hgr4 hat4 hv4 hne4 hapt hbb c0 c1 c2
            obtain ⟨c0, c1, c2⟩ := fbox_facts HX4.out
            have f1 := HX4.out.free 1
            go_wp2_with fail
            refine (Fin'.then_done HF4.out HD.out H.out.ok.arm).mono ?_
            rintro e w5 ⟨rfl, hF5⟩
            have HF5 := Lib.hid (Fin'.below HBW.out hF5)
            clear hF5
            go_wp2
            go_ret
            exact ⟨rfl, HF5.out⟩

/-- The names last as they are; none of the deeds does any more. -/
theorem Rest.setLas {w w' : World} {L : Lay} {d : Dsk} (h : Rest w L d) {v : Value} (ho : w'.ownsRow w.heap.size 169 2 v d.now.length (row (ent L.fb) d.now)) (hk : Kept (fun k => some L.p = some k) w w') :
    Rest w' { L with las := v, dee := .slice none 0 0 } { d with las := d.now, deeds := [] } where
  now := ownsRow_kept h.now hk (fun k e e2 => by cases h.apt .now .dsk k e e2)
  las := ownsRow_base ho (Nat.zero_le _)
  dee := World.ownsRow_nil _ _ _ _
  box k hl := (h.box k hl).kept hk (fun e2 => by cases h.apt (.box k) .dsk _ (own_box hl) e2)
  byt k hl := ownsRow_kept (h.byt k hl) hk (fun j e e2 => by cases h.apt (.byt k) .dsk j ((own_byt hl).trans e) e2)
  apt := by
    have h1 : Apt (({ L with dee := .slice none 0 0 } : Lay).own d.files.length) := h.apt.upd .dee w.heap.size h.lt (fun b hb => by cases hb) (fun t ht => by cases t <;> first | rfl | exact absurd rfl ht)
    have h2 : ∀ t b, (({ L with dee := .slice none 0 0 } : Lay).own d.files.length) t = some b → b < w.heap.size := fun t b hb => by
      cases t with
      | dee => cases hb
      | dsk => exact h.lt .dsk b hb
      | now => exact h.lt .now b hb
      | las => exact h.lt .las b hb
      | box k => exact h.lt (.box k) b hb
      | byt k => exact h.lt (.byt k) b hb
    exact h1.upd .las w.heap.size h2 (fun b hb => .inr (ho.lt b hb).1) (fun t ht => by cases t <;> first | rfl | exact absurd rfl ht)
  plt := Nat.lt_of_lt_of_le h.plt hk.size
theorem last_fin {w w' : World} {L : Lay} {d : Dsk} {v : Value} {a3 a4 : Value} (h : Rest w L d) (hc : L.cr = d.files.length) (hb : Blk w' L.p #[.int .i64 (d.cap : Int), .int .i64 (L.cr : Int), L.now, v, .slice none 0 0, .bool d.armed.isSome, .int .i64 (lft L d)] 88) (ho : w'.ownsRow w.heap.size 169 2 v d.now.length (row (ent L.fb) d.now)) (hk : Kept (fun k => some L.p = some k) w w') : Fin' w L d w' d.syncN := by
  refine ⟨{ L with las := v, dee := .slice none 0 0 }, rfl, hc, ⟨hb, h.setLas ho hk⟩, hk.mono (fun k _ hk => ⟨.dsk, hk⟩), fun t b hb => ?_⟩
  cases t with
  | dee => cases hb
  | las => exact .inr (ho.lt b hb).1
  | dsk => exact .inl ⟨.dsk, hb⟩
  | now => exact .inl ⟨.now, hb⟩
  | box k => exact .inl ⟨(.box k), hb⟩
  | byt k => exact .inl ⟨(.byt k), hb⟩

set_option maxRecDepth 100000 in
set_option maxHeartbeats 1000000 in
theorem syncNames_any (w : World) (L : Lay) (d : Dsk) (k : Nat) (h : Ready w L d k) :
    Calls Tryz.prog 56 #[.pointer (some ⟨L.p, 0, none⟩)] w fun e w' => e = .returned (cerr d.syncNames.2) ∧ Fin' w L d w' d.syncNames.1 := by
  have H := Lib.hid h
  cases hd : isDown d.armed with
  | true =>
    rw [show d.syncNames = (d, 12) from by unfold Dsk.syncNames; rw [if_pos (isDown_true hd)]]
    have HD := Lib.hid hd
    clear h hd
    go_enter Tryz.func56, Tryz.ntmps56
    go_wp2_with fail
    refine (up_any _ L d H.out.at'.blk).mono ?_
    rintro e w' ⟨rfl, rfl⟩
    rw [HD.out, if_pos rfl]
    go_wp2
    go_ret
    exact ⟨rfl, Fin'.same H.out.at' H.out.cr (Below.refl _ _)⟩
  | false =>
    rw [show d.syncNames = (d.syncN.done, 0) from by unfold Dsk.syncNames; rw [if_neg (isDown_false hd)]]
    have hln := h.now_len
    have HD := Lib.hid hd
    clear h hd
    go_enter Tryz.func56, Tryz.ntmps56
    go_wp2_with fail
    refine (up_any _ L d H.out.at'.blk).mono ?_
    rintro e w' ⟨rfl, rfl⟩
    rw [HD.out, if_neg (by decide)]
    go_wp2_with fail
    refine (lastNames_any _ L.p _ _ _ _ _ _ L.now d.now L.fb H.out.at'.blk H.out.at'.rest.now (by omega)).mono ?_
    rintro e w1 ⟨rfl, v', hb, ho, hk⟩
    have HF := Lib.hid (last_fin (a3 := .nilIface) (a4 := .nilIface) H.out.at'.rest H.out.cr hb ho hk)
    clear hb ho hk
    go_wp2_with fail
    refine (Fin'.then_done HF.out HD.out H.out.ok.arm).mono ?_
    rintro e w2 ⟨rfl, hF2⟩
    have HF2 := Lib.hid hF2
    clear hF2
    go_wp2
    go_ret
    exact ⟨rfl, HF2.out⟩

/-- A disk without files. -/
def newD (cap : Nat) : Dsk := ⟨cap, [], [], [], [], none⟩
theorem new_ok (cap : Nat) (w : World) (hc : cap ≤ 1073741824) :
    Calls Tryz.prog 14 #[.int .i64 (cap : Int)] w fun e w' => e = .returned (.tuple #[.pointer (some ⟨w.heap.size, 0, none⟩), .nilIface]) ∧ IsD w' w.heap.size (fun b => b = w.heap.size) (newD cap) ∧ Below w.heap.size w w' ∧ w.heap.size < w'.heap.size := by
  have h1 : ¬ (cap : Int) < 0 := by omega
  have h2 : ¬ (1073741824 : Int) < (cap : Int) := by omega
  go_enter Tryz.func14, Tryz.ntmps14
  go_wp2
  go_ret2
  have hb := Blk.new w #[.int .i64 (cap : Int), .int .i64 0, .slice none 0 0, .slice none 0 0, .slice none 0 0, .bool false, .int .i64 0] 88
  refine ⟨rfl, ⟨⟨w.heap.size, .slice none 0 0, .slice none 0 0, .slice none 0 0, fun _ => 0, fun _ => .slice none 0 0, 0, 0⟩, rfl, rfl, ⟨hb, World.ownsRow_nil _ _ _ _, World.ownsRow_nil _ _ _ _, World.ownsRow_nil _ _ _ _, (fun k hk => absurd hk (Nat.not_lt_zero _)), (fun k hk => absurd hk (Nat.not_lt_zero _)), ?_, hb.lt⟩, ?_⟩, (Below.refl _ _).alloc (Nat.le_refl _) _, hb.lt⟩
  · intro t u b ht hu
    cases t <;> first | cases ht | skip
    cases u <;> first | rfl | cases hu
  · intro t b hb'
    cases t <;> first | (cases hb'; done) | skip
    cases hb'
    rfl
end Go.Proofs.YtcpoaofcfefgaaaGreatDoor
end

section
namespace Go.Proofs.YtcpoaofcfefgaaaGreatDoor
open Go.RowKit Go.Cor

theorem row_congr {α : Type} {f g : α → List Value} {l : List α} (h : ∀ x ∈ l, f x = g x) : row f l = row g l := by
  induction l with
  | nil => rfl
  | cons x r ih => rw [row_cons, row_cons, h x (List.mem_cons_self ..), ih (fun y hy => h y (List.mem_cons_of_mem _ hy))]
/-- One file more. -/
def Lay.addF (L : Lay) (n g : Nat) : Lay := { L with fb := fun j => if j = n then g else L.fb j, fv := fun j => if j = n then .slice none 0 0 else L.fv j }
theorem addF_ne {L : Lay} {n g j : Nat} (h : j ≠ n) : (L.addF n g).fb j = L.fb j := if_neg h
theorem addF_eq {L : Lay} {n g j : Nat} (h : j = n) : (L.addF n g).fb j = g := if_pos h
theorem fat_add (fs : List Fil) (f : Fil) (j : Nat) : fat (fs ++ [f]) j = if j < fs.length then fat fs j else if j = fs.length then f else ⟨[], 0⟩ := by
  unfold fat
  rw [List.getD_eq_getElem?_getD, List.getD_eq_getElem?_getD]
  by_cases h : j < fs.length
  · rw [if_pos h, List.getElem?_append_left h]
  · rw [if_neg h, List.getElem?_append_right (by omega)]
    by_cases h2 : j = fs.length
    · rw [if_pos h2, h2]
      simp
    · rw [if_neg h2, List.getElem?_eq_none (by simp; omega)]
      rfl
theorem addF_own {w : World} {L : Lay} {d : Dsk} (h : Rest w L d) (g : Nat) : ∀ t b, (L.addF d.files.length g).own (d.files.length + 1) t = some b → L.own d.files.length t = some b ∨ (t = .box d.files.length ∧ b = g) := by
  intro t b hb
  cases t with
  | dsk => exact .inl hb
  | now => exact .inl hb
  | las => exact .inl hb
  | dee => exact .inl hb
  | box j =>
    simp only [Lay.own, Lay.addF] at hb ⊢
    by_cases e : j = d.files.length
    · subst e
      rw [if_pos (Nat.lt_succ_self _), if_pos rfl] at hb
      cases hb
      exact .inr ⟨rfl, rfl⟩
    · by_cases hj : j < d.files.length
      · rw [if_pos (by omega), if_neg e] at hb
        rw [if_pos hj]
        exact .inl hb
      · rw [if_neg (by omega)] at hb
        cases hb
  | byt j =>
    simp only [Lay.own, Lay.addF] at hb ⊢
    by_cases e : j = d.files.length
    · subst e
      rw [if_pos (Nat.lt_succ_self _), if_pos rfl] at hb
      cases hb
    · by_cases hj : j < d.files.length
      · rw [if_pos (by omega), if_neg e] at hb
        rw [if_pos hj]
        exact .inl hb
      · rw [if_neg (by omega)] at hb
        cases hb
theorem addF_same {L : Lay} {n g : Nat} : ∀ t, t ≠ .box n → (L.addF n g).own (n + 1) t = L.own n t := by
  intro t ht
  cases t with
  | box j =>
    have e : j ≠ n := fun e => ht (by rw [e])
    simp only [Lay.own, Lay.addF, if_neg e]
    by_cases hj : j < n
    · rw [if_pos hj, if_pos (by omega)]
    · rw [if_neg hj, if_neg (by omega)]
  | byt j =>
    simp only [Lay.own, Lay.addF]
    by_cases e : j = n
    · subst e
      rw [if_pos (Nat.lt_succ_self _), if_pos rfl, if_neg (Nat.lt_irrefl _)]
      rfl
    · rw [if_neg e]
      by_cases hj : j < n
      · rw [if_pos hj, if_pos (by omega)]
      · rw [if_neg hj, if_neg (by omega)]
  | _ => rfl
theorem Rest.addFil {w w' : World} {L : Lay} {d : Dsk} {k g : Nat} (h : Rest w L d) (ok : d.Ok k) (hg : w.heap.size ≤ g) (hb : Blk w' g #[.int .i64 (d.files.length : Int), .slice none 0 0, .int .i64 0] 177) (hbel : Below w.heap.size w w') :
    Rest w' (L.addF d.files.length g) { d with files := d.files ++ [⟨[], 0⟩] } where
  now := by
    have := ownsRow_below h.now hbel (Nat.le_refl _)
    rw [row_congr (g := ent (L.addF d.files.length g).fb) (fun e he => by unfold ent; rw [addF_ne (by have := (ok.nowF e he).1; omega)])] at this
    exact this
  las := by
    have := ownsRow_below h.las hbel (Nat.le_refl _)
    rw [row_congr (g := ent (L.addF d.files.length g).fb) (fun e he => by unfold ent; rw [addF_ne (by have := (ok.lasF e he).1; omega)])] at this
    exact this
  dee := by
    have := ownsRow_below h.dee hbel (Nat.le_refl _)
    rw [row_congr (g := ddc (L.addF d.files.length g).fb) (fun x hx => by
      unfold ddc dptr
      by_cases hd : x.dst = noName
      · rw [if_pos hd, if_pos hd]
      · rw [if_neg hd, if_neg hd]
        rcases (ok.deeF x hx).1 with h1 | h1
        · exact absurd h1 hd
        · rw [addF_ne (by have := h1.2; omega)])] at this
    exact this
  box j hj := by
    have hf := fat_add d.files ⟨[], 0⟩ j
    rw [List.length_append] at hj
    simp only [List.length_cons, List.length_nil] at hj
    show Blk w' ((L.addF d.files.length g).fb j) #[_, (L.addF d.files.length g).fv j, .int .i64 ((fat (d.files ++ [⟨[], 0⟩]) j).lasts : Int)] _
    rw [hf]
    by_cases e : j = d.files.length
    · subst e
      rw [if_neg (Nat.lt_irrefl _), if_pos rfl]
      simp only [Lay.addF, if_true]
      exact hb
    · rw [if_pos (by omega)]
      simp only [Lay.addF, if_neg e]
      exact (h.box j (by omega)).below hbel (h.box j (by omega)).lt
  byt j hj := by
    have hf := fat_add d.files ⟨[], 0⟩ j
    rw [List.length_append] at hj
    simp only [List.length_cons, List.length_nil] at hj
    show w'.ownsRow 0 _ 1 ((L.addF d.files.length g).fv j) (fat (d.files ++ [⟨[], 0⟩]) j).b.length (bvs (fat (d.files ++ [⟨[], 0⟩]) j).b)
    rw [hf]
    by_cases e : j = d.files.length
    · subst e
      rw [if_neg (Nat.lt_irrefl _), if_pos rfl]
      simp only [Lay.addF, if_true]
      exact World.ownsRow_nil _ _ _ _
    · rw [if_pos (by omega)]
      simp only [Lay.addF, if_neg e]
      exact ownsRow_below (h.byt j (by omega)) hbel (Nat.le_refl _)
  apt := by
    have hl : (d.files ++ [(⟨[], 0⟩ : Fil)]).length = d.files.length + 1 := by simp
    show Apt ((L.addF d.files.length g).own (d.files ++ [(⟨[], 0⟩ : Fil)]).length)
    rw [hl]
    refine h.apt.upd (.box d.files.length) w.heap.size h.lt (fun b hb' => ?_) addF_same
    rcases addF_own h g _ b hb' with h1 | h1
    · exact .inl h1
    · rw [h1.2]; exact .inr hg
  plt := Nat.lt_of_lt_of_le h.plt hbel.size

theorem fin_create {w w3 w4 : World} {L L' : Lay} {d d' : Dsk} {g : Nat} (hb : Below w.heap.size w w3) (hr : Rest w L d) (hg : w.heap.size ≤ g) (hl : d'.files.length = d.files.length + 1) (hp : L'.p = L.p) (hcr : L'.cr = d.files.length) (hA : At w4 L' d')
    (hK : Kept (fun k => ∃ t, (L.addF d.files.length g).own (d.files.length + 1) t = some k) w3 w4) (hO : ∀ t b, L'.own d'.files.length t = some b → (L.addF d.files.length g).own (d.files.length + 1) t = some b ∨ w3.heap.size ≤ b) :
    Fin' w L d (w4.setCell ⟨L.p, 1, none⟩ (.int .i64 ((d.files.length : Int) + 1))) d' := by
  have hb' : Blk (w4.setCell ⟨L.p, 1, none⟩ (.int .i64 ((d.files.length : Int) + 1))) L'.p (dcells { L' with cr := d.files.length + 1 } d') 88 := by
    have := hA.blk.set 1 (.int .i64 ((d.files.length : Int) + 1))
    rw [hp] at this
    rw [hp]
    exact this
  have hr' : Rest (w4.setCell ⟨L.p, 1, none⟩ (.int .i64 ((d.files.length : Int) + 1))) L' d' := by
    have := hA.rest.setDsk 1 (.int .i64 ((d.files.length : Int) + 1))
    rw [hp] at this
    exact this
  refine ⟨{ L' with cr := d.files.length + 1 }, hp, hl.symm, ⟨hb', ⟨hr'.now, hr'.las, hr'.dee, hr'.box, hr'.byt, hr'.apt, hr'.plt⟩⟩, ?_, fun t b ht => ?_⟩
  · refine ((Kept.of_below (S := fun k => ∃ t, L.own d.files.length t = some k) hb (Nat.le_refl _)).trans hK (fun j hj hlt => ?_)).setCell (p := ⟨L.p, 1, none⟩) (.inl ⟨.dsk, rfl⟩) _
    obtain ⟨t, ht⟩ := hj
    rcases addF_own hr g t j ht with h1 | h1
    · exact ⟨t, h1⟩
    · omega
  · rcases hO t b ht with h1 | h1
    · rcases addF_own hr g t b h1 with h2 | h2
      · exact .inl ⟨t, h2⟩
      · rw [h2.2]; exact .inr hg
    · exact .inr (Nat.le_trans hb.size h1)

set_option maxRecDepth 100000 in
set_option maxHeartbeats 2000000 in
theorem create_any (w : World) (L : Lay) (d : Dsk) (k : Nat) (n : ByteArray) (h : Ready w L d k) (hsz : n.size ≤ 281474976710656) :
    Calls Tryz.prog 50 #[.pointer (some ⟨L.p, 0, none⟩), .string n] w fun e w' => e = .returned (cerr (d.create n).2) ∧ Fin' w L d w' (d.create n).1 := by
  have H := Lib.hid h
  have hln := h.now_len
  cases hd : isDown d.armed with
  | true =>
    rw [show d.create n = (d, 12) from by unfold Dsk.create; rw [if_pos (isDown_true hd)]]
    have HD := Lib.hid hd
    clear h hd
    go_enter Tryz.func50, Tryz.ntmps50
    go_wp2_with fail
    refine (up_any _ L d H.out.at'.blk).mono ?_
    rintro e w' ⟨rfl, rfl⟩
    rw [HD.out, if_pos rfl]
    go_wp2
    go_ret
    exact ⟨rfl, Fin'.same H.out.at' H.out.cr (Below.refl _ _)⟩
  | false =>
    have hst : d.create n = if isNm n = false then (d, 1) else if (tfind d.now n).isSome = true then (d, 8) else if 64 ≤ d.now.length then (d, 11)
      else (({ d with files := d.files ++ [⟨[], 0⟩] } : Dsk).nameD ⟨noName, n, d.files.length⟩, 0) := by unfold Dsk.create; rw [if_neg (isDown_false hd)]
    rw [hst]
    have HD := Lib.hid hd
    clear h hd hst
    cases hn : isNm n with
    | false =>
      rw [if_pos rfl]
      have HNM := Lib.hid hn
      clear hn
      go_enter Tryz.func50, Tryz.ntmps50
      go_wp2_with fail
      refine (up_any _ L d H.out.at'.blk).mono ?_
      rintro e w' ⟨rfl, rfl⟩
      rw [HD.out, if_neg (by decide)]
      go_wp2_with fail
      refine (isName_any n _ (by omega)).mono ?_
      rintro e w' ⟨rfl, rfl⟩
      rw [HNM.out]
      go_wp2
      go_ret
      exact ⟨rfl, Fin'.same H.out.at' H.out.cr (Below.refl _ _)⟩
    | true =>
      rw [if_neg (by decide)]
      have HNM := Lib.hid hn
      clear hn
      cases hf : (tfind d.now n).isSome with
      | true =>
        rw [if_pos rfl]
        have HF := Lib.hid hf
        clear hf
        obtain ⟨_, _, c2, _, _, _, _⟩ := box_facts H.out.at'.blk
        go_enter Tryz.func50, Tryz.ntmps50
        go_wp2_with fail
        refine (up_any _ L d H.out.at'.blk).mono ?_
        rintro e w' ⟨rfl, rfl⟩
        rw [HD.out, if_neg (by decide)]
        go_wp2_with fail
        refine (isName_any n _ (by omega)).mono ?_
        rintro e w' ⟨rfl, rfl⟩
        rw [HNM.out]
        go_wp2_with fail
        refine (place_any L.fb L.now d.now n _ (IsX.own H.out.at'.rest.now) H.out.ok.nowS (by omega)).mono ?_
        rintro e w1 ⟨rfl, hb⟩
        rw [HF.out]
        have HB := Lib.hid hb
        clear hb c2
        go_wp2
        go_ret
        exact ⟨rfl, Fin'.same H.out.at' H.out.cr HB.out⟩
      | false =>
        rw [if_neg (by decide)]
        have HF := Lib.hid hf
        clear hf
        obtain ⟨N, hN⟩ : ∃ N, d.now.length = N := ⟨_, rfl⟩
        have HN := Lib.hid hN
        rw [hN] at hln ⊢
        clear hN
        by_cases h64 : 64 ≤ N
        · rw [if_pos h64]
          have h64' : (64 : Int) ≤ (N : Int) := by omega
          obtain ⟨_, _, c2, _, _, _, _⟩ := box_facts H.out.at'.blk
          go_enter Tryz.func50, Tryz.ntmps50
          go_wp2_with fail
          refine (up_any _ L d H.out.at'.blk).mono ?_
          rintro e w' ⟨rfl, rfl⟩
          rw [HD.out, if_neg (by decide)]
          go_wp2_with fail
          refine (isName_any n _ (by omega)).mono ?_
          rintro e w' ⟨rfl, rfl⟩
          rw [HNM.out]
          go_wp2_with fail
          refine (place_any L.fb L.now d.now n _ (IsX.own H.out.at'.rest.now) H.out.ok.nowS (by rw [HN.out]; omega)).mono ?_
          rintro e w1 ⟨rfl, hb⟩
          rw [HF.out]
          have HB := Lib.hid hb
          clear hb c2
          obtain ⟨_, _, c2, _, _, _, _⟩ := box_facts (H.out.at'.below HB.out (Nat.le_refl _)).blk
          have hlen := fun W => len_X (P := Tryz.prog) (IsX.own H.out.at'.rest.now) 85 3 _ Tryz.underlying85 W
          rw [HN.out] at hlen
          go_wp2
          go_ret
          exact ⟨rfl, Fin'.same H.out.at' H.out.cr HB.out⟩
        · rw [if_neg h64]
          have h64' : ¬ (64 : Int) ≤ (N : Int) := by omega
          obtain ⟨_, _, c2, _, _, _, _⟩ := box_facts H.out.at'.blk
          have hfk : d.files.length ≤ 100000 := Nat.le_trans H.out.ok.filN H.out.small
          have hdk := H.out.dee_len
          obtain ⟨F, hF⟩ : ∃ F, d.files.length = F := ⟨_, rfl⟩
          have HFL := Lib.hid hF
          have HCR := Lib.hid (H.out.cr.trans hF)
          rw [hF] at hfk ⊢
          clear hF
          go_enter Tryz.func50, Tryz.ntmps50
          go_wp2_with fail
          refine (up_any _ L d H.out.at'.blk).mono ?_
          rintro e w' ⟨rfl, rfl⟩
          rw [HD.out, if_neg (by decide)]
          go_wp2_with fail
          refine (isName_any n _ (by omega)).mono ?_
          rintro e w' ⟨rfl, rfl⟩
          rw [HNM.out]
          go_wp2_with fail
          refine (place_any L.fb L.now d.now n _ (IsX.own H.out.at'.rest.now) H.out.ok.nowS (by rw [HN.out]; omega)).mono ?_
          rintro e w1 ⟨rfl, hb⟩
          rw [HF.out]
          have HB := Lib.hid hb
          have HA1 := Lib.hid (H.out.at'.below hb (Nat.le_refl _))
          clear hb c2
          obtain ⟨_, c1, c2, _, _, _, _⟩ := box_facts HA1.out.blk
          rw [HCR.out] at c1
          have hlen := fun W => len_X (P := Tryz.prog) (IsX.own H.out.at'.rest.now) 85 3 _ Tryz.underlying85 W
          rw [HN.out] at hlen
          have HB3 := Lib.hid (HB.out.alloc HB.out.size (.cells #[.int .i64 (F : Int), .slice none 0 0, .int .i64 0] 177))
          have hb1 : Below w1.heap.size w1 (w1.alloc (.cells #[.int .i64 (F : Int), .slice none 0 0, .int .i64 0] 177)) := (Below.refl _ w1).alloc (Nat.le_refl _) _
          have HR3 := Lib.hid (HA1.out.rest.addFil H.out.ok (Nat.le_refl _) (by rw [HFL.out]; exact Blk.new w1 _ _) hb1)
          have HA3 := Lib.hid (show At (w1.alloc (.cells #[.int .i64 (F : Int), .slice none 0 0, .int .i64 0] 177)) (L.addF d.files.length w1.heap.size) { d with files := d.files ++ [⟨[], 0⟩] } from ⟨(HA1.out.blk.below hb1 HA1.out.blk.lt), HR3.out⟩)
          have HQ := Lib.hid (show some (⟨w1.heap.size, 0, none⟩ : Addr) = dptr (L.addF d.files.length w1.heap.size).fb ⟨noName, n, F⟩ from by unfold dptr; rw [if_neg (isNm_ne HNM.out), addF_eq HFL.out.symm])
          clear hb1
          go_wp2_with fail
          refine (name_any _ (L.addF d.files.length w1.heap.size) _ noName n F (some ⟨w1.heap.size, 0, none⟩) HA3.out (by decide) hsz HQ.out HD.out H.out.ok.arm H.out.ok.nowS (by show d.now.length ≤ _; rw [HN.out]; omega) (by show d.deeds.length ≤ _; omega)).mono ?_
          rintro e w4 ⟨rfl, L', e1, e2, e3, e4, hA, hK, hO⟩
          have e1' : L'.p = L.p := e1
          have e4' : L'.cr = F := e4.trans HCR.out
          have hl' : (({ d with files := d.files ++ [⟨[], 0⟩] } : Dsk).nameD ⟨noName, n, F⟩).files.length = d.files.length + 1 := by show (d.files ++ [_]).length = _; simp
          have hl2 : (d.files ++ [(⟨[], 0⟩ : Fil)]).length = d.files.length + 1 := by simp
          rw [show ({ d with files := d.files ++ [⟨[], 0⟩] } : Dsk).files.length = d.files.length + 1 from hl2] at hK hO
          have HE := Lib.hid (fin_create HB3.out H.out.at'.rest HB.out.size hl' e1' (e4'.trans HFL.out.symm) hA hK hO)
          rw [HFL.out] at HE
          have c1' : w4.cell? ⟨L.p, 1, none⟩ = some (.int .i64 (F : Int)) := by
            have := (box_facts hA.blk).2.1
            rw [e1', e4'] at this
            exact this
          have g1' : w4.frozen? ⟨L.p, 1, none⟩ = false := by
            have := hA.blk.free 1
            rw [e1'] at this
            exact this
          clear hA hK hO e1 e2 e3 e4 e1' e4' hl' hl2 c1 c2
          go_wp2
          go_ret
          exact ⟨rfl, HE.out⟩

end Go.Proofs.YtcpoaofcfefgaaaGreatDoor
end

section
namespace Go.Proofs.YtcpoaofcfefgaaaGreatDoor
open Go.RowKit Go.Cor

theorem Tryz.infoStr : (Tryz.prog.info? 9).map (fun i => (i.zero, i.size, i.bytes)) = some (some (.string ⟨#[]⟩), 1, 16) := by kernel_rfl
theorem Tryz.sizeStr : (Tryz.prog.info? 9).map (·.size) = some 1 := by kernel_rfl
theorem index_lit {P : Program} (g n c : Nat) (T U : TypeId) (size : Nat) (ht : P.underlying T = some (.slice U)) (hs : (P.info? U).map (·.size) = some size) (i : Nat) (hi : i < n) (W : World) :
    (Instr.indexAt T (.slice (some ⟨g, 0, none⟩) n c) (.int .i64 (i : Int))).run P W = .ok (.pointer (some ⟨g, i * size, none⟩)) W := by
  obtain ⟨j, hj1, hj2⟩ := Option.map_eq_some_iff.1 hs
  have ht' : P.underlying T = some (.slice (P.elem T)) := by simp [Program.elem, ht]
  have he : P.elem T = U := by simp [Program.elem, ht]
  have hsz : ∀ W, (sizeOf U).run P W = .ok size W := fun W => by simp [sizeOf, typeInfo, hj1, hj2]
  have h0 : (0 : Int) ≤ (i : Int) := by omega
  have h1 : (i : Int) < (n : Int) := by omega
  go_simp
/-- The names as cells. -/
def nms (l : Tbl) : List Value := l.map fun e => .string e.1
def nmsTo (l : Tbl) (i : Nat) : List Value := nms (l.take i) ++ List.replicate (l.length - i) (.string ⟨#[]⟩)
theorem nmsTo_get (l : Tbl) (i : Nat) (h : i < l.length) : (nmsTo l i)[i]? = some (.string ⟨#[]⟩) := by
  unfold nmsTo nms
  rw [List.getElem?_append_right (by simp; omega), List.getElem?_replicate, if_pos (by simp; omega)]
theorem nmsTo_set (l : Tbl) (i : Nat) {e : ByteArray × Nat} (h : l[i]? = some e) : (nmsTo l i).set i (.string e.1) = nmsTo l (i + 1) := by
  obtain ⟨hi, he⟩ := List.getElem?_eq_some_iff.1 h
  unfold nmsTo nms
  have hl : (List.map (fun e : ByteArray × Nat => Value.string e.1) (l.take i)).length = i := by simp; omega
  rw [List.set_append_right _ _ (by omega), hl, Nat.sub_self, List.take_succ_eq_append_getElem hi, he, List.map_append, show l.length - i = (l.length - (i + 1)) + 1 from by omega, List.replicate_succ, List.set_cons_zero]
  simp
theorem nmsTo_all (l : Tbl) : nmsTo l l.length = nms l := by simp [nmsTo]

set_option maxRecDepth 100000 in
set_option maxHeartbeats 1000000 in
theorem names_any (w : World) (L : Lay) (d : Dsk) (k : Nat) (h : Ready w L d k) :
    Calls Tryz.prog 47 #[.pointer (some ⟨L.p, 0, none⟩)] w fun e w' => ∃ v', e = .returned v' ∧ w'.ownsRow w.heap.size 9 1 v' d.now.length (nms d.now) ∧ Below w.heap.size w w' := by
  have H := Lib.hid h
  obtain ⟨N, hN⟩ : ∃ N, d.now.length = N := ⟨_, rfl⟩
  have hNl := h.now_len
  obtain ⟨_, _, c2, _, _, _, _⟩ := box_facts h.at'.blk
  have hpl := h.at'.blk.lt
  have hlen := fun W => len_X (P := Tryz.prog) (IsX.own h.at'.rest.now) 85 3 _ Tryz.underlying85 W
  rw [hN] at hNl hlen ⊢
  obtain ⟨i0, hi, hz0, hz1, hz2⟩ := info_parts Tryz.infoStr
  obtain ⟨M, hM⟩ : ∃ M, M = madeCells (Value.string ⟨#[]⟩).cells (((N : Nat) : Int).toNat * i0.size) := ⟨_, rfl⟩
  have hMl : M.toList = nmsTo d.now 0 := by
    rw [hM, hz1]
    have : (Value.string ⟨#[]⟩).cells = #[.string ⟨#[]⟩] := rfl
    rw [this, toList_madeCells_one]
    unfold nmsTo nms
    rw [hN]
    simp
  have hmk : ∀ W : World, (Instr.makeSlice 127 (.int .i64 (N : Int)) (.int .i64 (N : Int))).run Tryz.prog W = .ok (.slice (some ⟨W.heap.size, 0, none⟩) N N) (W.alloc (.cells M 9)) := fun W => by
    have h := run_make (P := Tryz.prog) W 127 9 i0 (.string ⟨#[]⟩) Tryz.underlying127 hi hz0 .i64 .i64 (N : Int) (N : Int) (by omega) (by omega) (by rw [hz2]; omega) (by omega)
    rw [← hM] at h
    simpa using h
  have HB0 := Lib.hid (show Blk (w.alloc (.cells M 9)) w.heap.size (nmsTo d.now 0).toArray 9 from by rw [← hMl, Array.toArray_toList]; exact Blk.new w M _)
  have hix := fun (i : Nat) (hi : i < N) (W : World) => index_lit (P := Tryz.prog) w.heap.size N N 127 _ 1 Tryz.underlying127 Tryz.sizeStr i hi W
  have HIX := Lib.hid hix
  have HN := Lib.hid hN
  clear h hN hM hMl hi hz0 hz1 hz2 hix
  go_enter Tryz.func47, Tryz.ntmps47
  go_wp2
  go_loopw [19] (fun c wr => ∃ i : Nat, i ≤ N ∧ c = .int .i64 i ∧ Hid (Blk wr w.heap.size (nmsTo d.now i).toArray 9) ∧ Hid (Below w.heap.size w wr)) (fun c _ => N - (intOf c).toNat)
  case atStart => exact ⟨0, Nat.zero_le _, rfl, HB0, Lib.hid ((Below.refl _ _).alloc (Nat.le_refl _) _)⟩
  case round =>
    obtain ⟨i, hiN, rfl, hX, hB⟩ := hrel
    by_cases hlt : i < N
    · obtain ⟨e, he⟩ : ∃ e, d.now[i]? = some e := ⟨_, List.getElem?_eq_getElem (by rw [HN.out]; omega)⟩
      obtain ⟨b, o, hidx, hob, k0, k1⟩ := indexAt_T (IsX.own (ownsRow_below H.out.at'.rest.now hB.out (Nat.le_refl _))) 85 Tryz.underlying85 he
      have hbl : b < wr.heap.size := cell_lt k0
      have hgl := hX.out.lt
      have k5 := hX.out.cell i (v := .string ⟨#[]⟩) (by rw [List.getElem?_toArray]; exact nmsTo_get d.now i (by rw [HN.out]; exact hlt))
      have g5 := hX.out.free i
      have hidx2 := HIX.out i hlt
      rw [Nat.mul_one] at hidx2
      have HS := Lib.hid (nmsTo_set d.now i he)
      clear he
      go_wp2
      go_roundw
      case rel => exact ⟨i + 1, by omega, by go_num, Lib.hid (by rw [← HS.out]; have := ((hX.out.set i (.string e.1)).alloc (.cells #[.string e.1, .pointer (some ⟨L.fb e.2, 0, none⟩)] 169)); rw [List.setIfInBounds_toArray] at this; exact this), Lib.hid ((hB.out.setCell (p := ⟨w.heap.size, i, none⟩) (Nat.le_refl _) _).alloc (by simp; exact hB.out.size) _)⟩
      case measure => simp [intOf]; omega
    · obtain rfl : i = N := by omega
      go_wp2
      go_ret
      have hX' := hX.out
      rw [show nmsTo d.now i = nms d.now from by rw [← HN.out]; exact nmsTo_all _] at hX'
      exact ⟨_, rfl, ⟨by rw [Nat.mul_one, ← HN.out]; simp [nms], .inr ⟨w.heap.size, i, _, rfl, Nat.le_refl _, hX', Nat.le_refl _, by unfold maxLen; omega, by rw [List.size_toArray, Nat.mul_one, ← HN.out]; simp [nms], by rw [List.toList_toArray, Nat.mul_one]; exact List.take_of_length_le (by rw [← HN.out]; simp [nms])⟩⟩, hB.out⟩

end Go.Proofs.YtcpoaofcfefgaaaGreatDoor
end

section
namespace Go.Proofs.YtcpoaofcfefgaaaGreatDoor
open Go.RowKit Go.Cor

theorem turnT_sorted {l : Tbl} (h : Sorted l) (x : Dd) : Sorted (turnT l x) := by
  unfold turnT
  split
  · exact wout_sorted h _
  · exact wth_sorted (wout_sorted h _) _ _
theorem turnT_len (l : Tbl) (x : Dd) : (turnT l x).length ≤ l.length + 1 := by
  unfold turnT
  split
  · have := wout_length l x.src; omega
  · rw [wth_length]
    have h1 := wout_length (wout l x.src) x.dst
    have h2 := wout_length l x.src
    omega
theorem turnT_mem {l : Tbl} {x : Dd} {e : ByteArray × Nat} (h : e ∈ turnT l x) : e ∈ l ∨ (x.dst ≠ noName ∧ e = (x.dst, x.file)) := by
  unfold turnT at h
  split at h
  · exact .inl ((wout_sublist l x.src).mem h)
  · rename_i hd
    rcases wth_mem h with h1 | h1
    · exact .inr ⟨hd, h1⟩
    · exact .inl ((wout_sublist l x.src).mem h1)
theorem mem_set_or {α : Type} {l : List α} {i : Nat} {a x : α} (h : x ∈ l.set i a) : x ∈ l ∨ x = a := List.mem_or_eq_of_mem_set h
end Go.Proofs.YtcpoaofcfefgaaaGreatDoor
end

section
namespace Go.Proofs.YtcpoaofcfefgaaaGreatDoor
open Go.Cor

theorem isNm_ne' {t : ByteArray} (h : isNm t = true) : t ≠ noName := by rintro rfl; cases h
theorem Ok.more {d : Dsk} {k m : Nat} (h : d.Ok k) (hm : k ≤ m) : d.Ok m := ⟨h.cap, h.nowS, h.lasS, h.nowF, h.lasF, h.deeF, h.fil, Nat.le_trans h.filN hm, h.nowN, Nat.le_trans h.lenN hm, h.arm⟩
theorem Ok.done {d : Dsk} {k : Nat} (h : d.Ok k) : d.done.Ok k := ⟨h.cap, h.nowS, h.lasS, h.nowF, h.lasF, h.deeF, h.fil, h.filN, h.nowN, h.lenN, fun n hn => by
  unfold Dsk.done at hn
  simp only [Option.map_eq_some_iff] at hn
  obtain ⟨a, ha, rfl⟩ := hn
  have := h.arm a ha
  omega⟩
theorem Ok.nameD {d : Dsk} {k : Nat} (h : d.Ok k) {x : Dd} (h1 : x.dst = noName ∨ isNm x.dst = true ∧ x.file < d.files.length) (h2 : x.src = noName ∨ isNm x.src = true) (h3 : x.src = noName → x.dst ≠ noName) : (d.nameD x).Ok (k + 1) := by
  refine Ok.done (d := { d with now := turnT d.now x, deeds := d.deeds ++ [x] }) ⟨h.cap, turnT_sorted h.nowS x, h.lasS, fun e he => ?_, h.lasF, fun y hy => ?_, h.fil, Nat.le_succ_of_le h.filN, ?_, ?_, h.arm⟩
  · rcases turnT_mem he with h4 | ⟨h4, rfl⟩
    · exact h.nowF e h4
    · rcases h1 with h5 | h5
      · exact absurd h5 h4
      · exact ⟨h5.2, h5.1⟩
  · rcases List.mem_append.1 hy with h4 | h4
    · exact h.deeF y h4
    · have e : y = x := by simpa using h4
      subst e
      exact ⟨h1, h2, h3⟩
  · have := turnT_len d.now x
    have := h.nowN
    simp only [List.length_append, List.length_cons, List.length_nil]
    omega
  · have := h.lenN
    simp only [List.length_append, List.length_cons, List.length_nil]
    omega
theorem Ok.setF {d : Dsk} {k j : Nat} {f : Fil} (h : d.Ok k) (hf : f.lasts ≤ f.b.length ∧ f.b.length ≤ 16777216) : (d.setF j f).Ok k := by
  have hl : (d.files.set j f).length = d.files.length := by simp
  refine ⟨h.cap, h.nowS, h.lasS, fun e he => ?_, fun e he => ?_, fun y hy => ?_, fun g hg => ?_, ?_, h.nowN, h.lenN, h.arm⟩
  · have := h.nowF e he; exact ⟨by show _ < (d.files.set j f).length; rw [hl]; exact this.1, this.2⟩
  · have := h.lasF e he; exact ⟨by show _ < (d.files.set j f).length; rw [hl]; exact this.1, this.2⟩
  · have := h.deeF y hy
    refine ⟨this.1.imp id (fun h => ⟨h.1, by show _ < (d.files.set j f).length; rw [hl]; exact h.2⟩), this.2⟩
  · rcases mem_set_or hg with h1 | h1
    · exact h.fil g h1
    · subst h1; exact hf
  · show (d.files.set j f).length ≤ k
    rw [hl]
    exact h.filN
theorem Ok.file {d : Dsk} {k : Nat} (h : d.Ok k) {n : ByteArray} {j : Nat} (hf : tfind d.now n = some j) : j < d.files.length ∧ isNm n = true := h.nowF _ (tfind_mem hf)
theorem Ok.fat {d : Dsk} {k : Nat} (h : d.Ok k) {j : Nat} (hj : j < d.files.length) : (fat d.files j).lasts ≤ (fat d.files j).b.length ∧ (fat d.files j).b.length ≤ 16777216 := h.fil _ (fat_mem hj)
theorem Ok.addF {d : Dsk} {k : Nat} (h : d.Ok k) : ({ d with files := d.files ++ [⟨[], 0⟩] } : Dsk).Ok (k + 1) := by
  have hl : (d.files ++ [(⟨[], 0⟩ : Fil)]).length = d.files.length + 1 := by simp
  refine ⟨h.cap, h.nowS, h.lasS, fun e he => ?_, fun e he => ?_, fun y hy => ?_, fun g hg => ?_, ?_, h.nowN, Nat.le_succ_of_le h.lenN, h.arm⟩
  · have := h.nowF e he; exact ⟨by show _ < (d.files ++ [_]).length; rw [hl]; omega, this.2⟩
  · have := h.lasF e he; exact ⟨by show _ < (d.files ++ [_]).length; rw [hl]; omega, this.2⟩
  · have := h.deeF y hy
    refine ⟨this.1.imp id (fun h => ⟨h.1, by show _ < (d.files ++ [_]).length; rw [hl]; omega⟩), this.2⟩
  · rcases List.mem_append.1 hg with h1 | h1
    · exact h.fil g h1
    · have : g = ⟨[], 0⟩ := by simpa using h1
      subst this
      exact ⟨Nat.le_refl _, Nat.zero_le _⟩
  · show (d.files ++ [_]).length ≤ k + 1
    rw [hl]
    have := h.filN
    omega
theorem Ok.create {d : Dsk} {k : Nat} (h : d.Ok k) (n : ByteArray) : (d.create n).1.Ok (k + 2) := by
  unfold Dsk.create
  split
  · exact Ok.more h (by omega)
  split
  · exact Ok.more h (by omega)
  split
  · exact Ok.more h (by omega)
  split
  · exact Ok.more h (by omega)
  · rename_i hn _ _
    have hn' : isNm n = true := by simpa using hn
    exact Ok.nameD (Ok.addF h) (.inr ⟨hn', by show d.files.length < (d.files ++ [_]).length; simp⟩) (.inl rfl) (fun _ => isNm_ne' hn')
theorem on_ok {d : Dsk} {k : Nat} (h : d.Ok k) (n : ByteArray) (f : Nat → Dsk × Nat) (hf : ∀ j, tfind d.now n = some j → (f j).1.Ok (k + 2)) : (d.on n (fun c => (d, c)) f).1.Ok (k + 2) := by
  unfold Dsk.on
  split
  · exact Ok.more h (by omega)
  · cases he : tfind d.now n with
    | none => exact Ok.more h (by omega)
    | some j => exact hf j he
theorem Ok.append {d : Dsk} {k : Nat} (h : d.Ok k) (n : ByteArray) (b : List UInt8) : (d.append n b).1.Ok (k + 2) := by
  refine on_ok h n _ fun j hj => ?_
  split
  · exact Ok.more h (by omega)
  split
  · exact Ok.more h (by omega)
  · have := Ok.fat h (Ok.file h hj).1
    exact Ok.more (Ok.done (Ok.setF h ⟨by simp only [List.length_append]; omega, by simp only [List.length_append]; omega⟩)) (by omega)
theorem Ok.sync {d : Dsk} {k : Nat} (h : d.Ok k) (n : ByteArray) : (d.sync n).1.Ok (k + 2) := by
  refine on_ok h n _ fun j hj => ?_
  have := Ok.fat h (Ok.file h hj).1
  exact Ok.more (Ok.done (Ok.setF h ⟨Nat.le_refl _, this.2⟩)) (by omega)
theorem Ok.syncNames {d : Dsk} {k : Nat} (h : d.Ok k) : d.syncNames.1.Ok (k + 2) := by
  unfold Dsk.syncNames
  split
  · exact Ok.more h (by omega)
  · refine Ok.more (Ok.done (d := d.syncN) (k := k) ⟨h.cap, h.nowS, h.nowS, h.nowF, h.nowF, (fun x hx => by cases hx), h.fil, h.filN, Nat.le_refl _, ?_, h.arm⟩) (by omega)
    have := h.nowN
    have := h.lenN
    show d.now.length + 0 ≤ k
    omega
theorem Ok.rename {d : Dsk} {k : Nat} (h : d.Ok k) (n t : ByteArray) : (d.rename n t).1.Ok (k + 2) := by
  refine on_ok h n _ fun j hj => ?_
  split
  · exact Ok.more h (by omega)
  · rename_i hn
    have hn' : isNm t = true := by simpa using hn
    have hf := Ok.file h hj
    exact Ok.more (Ok.nameD h (.inr ⟨hn', hf.1⟩) (.inr hf.2) (fun _ => isNm_ne' hn')) (by omega)
theorem Ok.armed {d : Dsk} {k : Nat} (h : d.Ok k) (m : Int) (hm : m ≤ 9223372036854775807) : (d.arm m).1.Ok (k + 2) := by
  unfold Dsk.arm
  split
  · exact Ok.more h (by omega)
  split
  · exact Ok.more h (by omega)
  · exact Ok.more (d := { d with armed := some m.toNat }) (k := k) ⟨h.cap, h.nowS, h.lasS, h.nowF, h.lasF, h.deeF, h.fil, h.filN, h.nowN, h.lenN, fun n hn => by cases hn; omega⟩ (by omega)
end Go.Proofs.YtcpoaofcfefgaaaGreatDoor
end

section
namespace Go.Proofs.YtcpoaofcfefgaaaGreatDoor
open Go.RowKit Go.Cor

theorem find_nil (n : ByteArray) (w : World) : Calls Tryz.prog 80 #[.pointer none, .string n] w fun e w' => e = .returned (.tuple #[.pointer none, ercode 15]) ∧ w = w' := by
  go_enter Tryz.func80, Tryz.ntmps80
  go_wp2_with fail
  refine (up_nil _).mono ?_
  rintro e w' ⟨rfl, rfl⟩
  go_wp2
  go_ret2
  exact ⟨rfl, rfl⟩
theorem append_nil (n : ByteArray) (v : Value) (w : World) : Calls Tryz.prog 51 #[.pointer none, .string n, v] w fun e w' => e = .returned (ercode 15) ∧ w = w' := by
  go_enter Tryz.func51, Tryz.ntmps51
  go_wp2_with fail
  refine (find_nil n _).mono ?_
  rintro e w' ⟨rfl, rfl⟩
  go_wp2
  go_ret
  exact ⟨rfl, rfl⟩
end Go.Proofs.YtcpoaofcfefgaaaGreatDoor
end

section
namespace Go.Proofs.YtcpoaofcfefgaaaGreatDoor
open Go.RowKit Go.Extern.Stop Go.Stop Go.Extern

/-- Are two codes, as errors, one and the same? As their numbers are. -/
theorem eql_codes {P : Program} {E C : TypeId} {ms : Array (String × TypeId)} {inf : TypeInfo} (x y : Int) (w : World)
    (h1 : P.underlying E = some (.interface ms)) (h2 : P.underlying C = some (.int .i64)) (h3 : P.info? C = some inf) (h4 : inf.comparable = true) :
    (binOp .eql E (.iface C (.int .i64 x)) (.iface C (.int .i64 y))).run P w = .ok (.bool (x == y)) w := by
  have depth : ∀ d, (Op.equalIn (d + 2) E (.iface C (.int .i64 x)) (.iface C (.int .i64 y))).run P w = .ok (x == y) w := fun d => by
    simp [Op.equalIn, typeInfo, run_underlying h1, run_underlying h2, h3, h4]
  have d := depth 9998
  simp only [binOp]
  simp [Op.equal, Op.maxDepth, d]

theorem Tryz.isTypeOf (v : Value) (w : World) : (Extern.ReflectliteType.typeOf #[.iface 69 v]).run Tryz.prog w = .ok (.iface 155 (.agg #[.pointer (some ⟨4, 69, none⟩)])) w := by kernel_rfl
theorem Tryz.isComparable (w : World) : ((Extern.ReflectliteType.method fun t => do Rtype.noPackHeld "Comparable" t; (fun a => Value.bool a.comparable) <$> typeInfo t) #[.agg #[.pointer (some ⟨4, 69, none⟩)]]).run Tryz.prog w = .ok (.bool true) w := by kernel_rfl
theorem Tryz.isComp : (Tryz.prog.info? 69).map (·.comparable) = some true := by kernel_rfl
theorem Tryz.noIs (v : Value) (xT : TypeId) (w : World) : (Instr.typeAssert (.iface 69 v) xT 157 true).run Tryz.prog w = .ok (.tuple #[.nilIface, .bool false]) w := run_typeAssert_lacksB Tryz.underlying157 (by kernel_rfl) (by kernel_rfl) v xT w
theorem Tryz.noUnwrap (v : Value) (xT : TypeId) (w : World) : (Instr.typeAssert (.iface 69 v) xT 160 true).run Tryz.prog w = .ok (.tuple #[.nilIface, .bool false]) w := run_typeAssert_lacksB Tryz.underlying160 (by kernel_rfl) (by kernel_rfl) v xT w
theorem Tryz.noUnwraps (v : Value) (xT : TypeId) (w : World) : (Instr.typeAssert (.iface 69 v) xT 161 true).run Tryz.prog w = .ok (.tuple #[.nilIface, .bool false]) w := run_typeAssert_lacksB Tryz.underlying161 (by kernel_rfl) (by kernel_rfl) v xT w

/-- errors.Is of a code and itself. -/
theorem is_same (a : Int) (w : World) :
    Calls Tryz.prog 21 #[.iface 69 (.int .i64 a), .iface 69 (.int .i64 a)] w fun e w' => e = .returned (.bool true) ∧ w = w' := by
  obtain ⟨i, hi, hcmp⟩ := Option.map_eq_some_iff.1 Tryz.isComp
  have h8 := @run_callFunc_extern Tryz.prog 41 _ Extern.ReflectliteType.typeOf Tryz.func41 (by kernel_rfl) (by kernel_rfl) (by kernel_rfl) (by kernel_rfl)
  have h32 := @run_callFunc_extern Tryz.prog 164 _ (Extern.ReflectliteType.method fun t => do Rtype.noPackHeld "Comparable" t; pure (.bool (← typeInfo t).comparable)) Tryz.func164 (by kernel_rfl) (by kernel_rfl) (by kernel_rfl) (by kernel_rfl)
  have tT := Tryz.isTypeOf
  have cT := Tryz.isComparable
  have mR : ∀ (v : Value) (w : World), (Go.method 368 155 v "Comparable").run Tryz.prog w = .ok (164, v) w := fun v w => by kernel_rfl
  have heq := eql_codes (P := Tryz.prog) a a w Tryz.underlying35 Tryz.underlying69 hi hcmp
  have hb : (a == a) = true := by simp
  go_enter Tryz.func21, Tryz.ntmps21
  go_wp2
  refine wp_loop_rounds 1 ?_
  rw [rounds_succ]
  go_wp2
  go_ret
  exact ⟨rfl, rfl⟩

/-- errors.Is of two unlike codes. -/
theorem is_other (a b : Int) (w : World) (hne : a ≠ b) :
    Calls Tryz.prog 21 #[.iface 69 (.int .i64 a), .iface 69 (.int .i64 b)] w fun e w' => e = .returned (.bool false) ∧ w = w' := by
  obtain ⟨i, hi, hcmp⟩ := Option.map_eq_some_iff.1 Tryz.isComp
  have h8 := @run_callFunc_extern Tryz.prog 41 _ Extern.ReflectliteType.typeOf Tryz.func41 (by kernel_rfl) (by kernel_rfl) (by kernel_rfl) (by kernel_rfl)
  have h32 := @run_callFunc_extern Tryz.prog 164 _ (Extern.ReflectliteType.method fun t => do Rtype.noPackHeld "Comparable" t; pure (.bool (← typeInfo t).comparable)) Tryz.func164 (by kernel_rfl) (by kernel_rfl) (by kernel_rfl) (by kernel_rfl)
  have tT := Tryz.isTypeOf
  have cT := Tryz.isComparable
  have mR : ∀ (v : Value) (w : World), (Go.method 368 155 v "Comparable").run Tryz.prog w = .ok (164, v) w := fun v w => by kernel_rfl
  have nI := Tryz.noIs
  have nU := Tryz.noUnwrap
  have nV := Tryz.noUnwraps
  have heq := eql_codes (P := Tryz.prog) a b w Tryz.underlying35 Tryz.underlying69 hi hcmp
  have hb : (a == b) = false := by simpa using hne
  go_enter Tryz.func21, Tryz.ntmps21
  go_wp2
  refine wp_loop_rounds 1 ?_
  rw [rounds_succ]
  go_wp2
  go_ret
  exact ⟨rfl, rfl⟩

/-- Code of no error. -/
theorem code_nil (w : World) :
    Calls Tryz.prog 9 #[.nilIface] w fun e w' => e = .returned (.int .i64 0) ∧ w = w' := by
  go_enter Tryz.func9, Tryz.ntmps9
  go_wp2
  go_ret
  exact ⟨rfl, rfl⟩

/-- Code of a code. -/
theorem code_code (k : Int) (w : World) (h1 : 1 ≤ k) (h2 : k ≤ 17) :
    Calls Tryz.prog 9 #[.iface 69 (.int .i64 k)] w fun e w' => e = .returned (.int .i64 k) ∧ w = w' := by
  go_enter Tryz.func9, Tryz.ntmps9
  go_wp2
  go_loop [3] (fun c => ∃ j : Int, 1 ≤ j ∧ j ≤ k ∧ c = .int .i64 j) (fun c => 18 - (intOf c).toNat)
  case atStart => exact ⟨1, by omega, by omega, rfl⟩
  case round =>
    obtain ⟨j, hj1, hj2, rfl⟩ := hrel
    have hj17 : j ≤ 17 := by omega
    by_cases hkj : k = j
    · subst hkj
      go_wp2_with (go_at_call 21; refine (is_same _ _).mono ?_; rintro e w' ⟨rfl, rfl⟩)
      go_ret
      exact ⟨rfl, rfl⟩
    · have hlt : j + 1 ≤ k := by omega
      go_wp2_with (go_at_call 21; refine (is_other _ _ _ hkj).mono ?_; rintro e w' ⟨rfl, rfl⟩)
      go_round
      case rel => exact ⟨j + 1, by omega, by omega, rfl⟩
      case measure => simp [intOf]; omega

end Go.Proofs.YtcpoaofcfefgaaaGreatDoor
end
