/- How much a disk's files take: never more than has room, without a crash. Of no program. -/
import Derived.Test.YtnofabeajcdddaaDo
namespace Go.Proofs.Ytnofabeajcdddaa
open Go.Cor

theorem usedX_append (fs : List Fil) (a b : Tbl) : usedT fs (a ++ b) = usedT fs a + usedT fs b := by
  induction a with
  | nil => simp [usedT]
  | cons e r ih => simp only [List.cons_append, usedT, ih]; omega
theorem usedT_sub {fs : List Fil} {a b : Tbl} (h : a.Sublist b) : usedT fs a ≤ usedT fs b := by
  induction h with
  | slnil => exact Nat.le_refl _
  | cons e _ ih => simp only [usedT]; omega
  | cons_cons e _ ih => simp only [usedT]; omega
theorem usedX_le {fs gs : List Fil} {t : Tbl} (h : ∀ e ∈ t, (fat gs e.2).b.length ≤ (fat fs e.2).b.length) : usedT gs t ≤ usedT fs t := by
  induction t with
  | nil => exact Nat.le_refl _
  | cons e r ih =>
    have h1 := h e (List.mem_cons_self ..)
    have h2 := ih (fun x hx => h x (List.mem_cons_of_mem _ hx))
    simp only [usedT]
    omega
theorem fatX_set (fs : List Fil) (k j : Nat) (f : Fil) : fat (fs.set k f) j = if k = j ∧ k < fs.length then f else fat fs j := by
  unfold fat
  simp only [List.getD_eq_getElem?_getD, List.getElem?_set]
  by_cases h1 : k = j
  · subst h1
    by_cases h2 : k < fs.length
    · simp [h2]
    · simp [h2]
  · simp [h1]
theorem fat_app (fs gs : List Fil) {j : Nat} (h : j < fs.length) : fat (fs ++ gs) j = fat fs j := by
  unfold fat
  simp only [List.getD_eq_getElem?_getD, List.getElem?_append_left h]
theorem usedT_wth (fs : List Fil) (l : Tbl) (n : ByteArray) (k : Nat) : usedT fs (wth l n k) = usedT fs (wout l n) + (fat fs k).b.length := by
  unfold wth
  rw [usedX_append]
  simp only [usedT]
  have : usedT fs (wout l n) = usedT fs ((wout l n).take (pos (wout l n) n)) + usedT fs ((wout l n).drop (pos (wout l n) n)) := by
    rw [← usedX_append, List.take_append_drop]
  omega
theorem wout_cons (e : ByteArray × Nat) (r : Tbl) (n : ByteArray) : wout (e :: r) n = if e.1 = n then wout r n else e :: wout r n := by
  unfold wout
  by_cases h : e.1 = n
  · simp [h]
  · simp [h]
theorem usedT_wout {fs : List Fil} {l : Tbl} {n : ByteArray} {k : Nat} (h : tfind l n = some k) : usedT fs (wout l n) + (fat fs k).b.length ≤ usedT fs l := by
  induction l with
  | nil => cases h
  | cons e r ih =>
    unfold tfind at h
    rw [wout_cons]
    split at h
    · rename_i hn
      cases h
      rw [if_pos hn]
      have := usedT_sub (fs := fs) (wout_sublist r n)
      simp only [usedT]
      omega
    · rename_i hn
      have := ih h
      rw [if_neg hn]
      simp only [usedT]
      omega
theorem wout_shorter {l : Tbl} {n : ByteArray} {k : Nat} (h : tfind l n = some k) : (wout l n).length + 1 ≤ l.length := by
  induction l with
  | nil => cases h
  | cons e r ih =>
    unfold tfind at h
    rw [wout_cons]
    split at h
    · rename_i hn
      rw [if_pos hn]
      have := wout_length r n
      simp only [List.length_cons]
      omega
    · rename_i hn
      have := ih h
      rw [if_neg hn]
      simp only [List.length_cons]
      omega

/-- No file has two names. -/
def Own (l : Tbl) : Prop := l.Pairwise fun a b => a.2 ≠ b.2
theorem Own.inj {l : Tbl} (h : Own l) {a b : ByteArray × Nat} (ha : a ∈ l) (hb : b ∈ l) (e : a.2 = b.2) : a = b := by
  induction l with
  | nil => cases ha
  | cons x r ih =>
    have h' := List.pairwise_cons.1 h
    rcases List.mem_cons.1 ha with rfl | ha'
    · rcases List.mem_cons.1 hb with rfl | hb'
      · rfl
      · exact absurd e (h'.1 b hb')
    · rcases List.mem_cons.1 hb with rfl | hb'
      · exact absurd e.symm (h'.1 a ha')
      · exact ih h'.2 ha' hb'
theorem Own.out {l : Tbl} (h : Own l) (n : ByteArray) : Own (wout l n) := h.sublist (wout_sublist l n)
theorem mem_wout {l : Tbl} {n : ByteArray} {e : ByteArray × Nat} : e ∈ wout l n ↔ e ∈ l ∧ e.1 ≠ n := by
  unfold wout
  rw [List.mem_filter]
  simp
theorem Own.gone {l : Tbl} (h : Own l) {n : ByteArray} {k : Nat} (hf : tfind l n = some k) : ∀ e ∈ wout l n, e.2 ≠ k := fun e he hk => by
  obtain ⟨h1, h2⟩ := mem_wout.1 he
  have := h.inj h1 (tfind_mem hf) hk
  exact h2 (by rw [this])
theorem Own.put {l : Tbl} (h : Own l) (n : ByteArray) {k : Nat} (hk : ∀ e ∈ l, e.2 ≠ k) : Own (wth l n k) := by
  have hw := h.out n
  have hk' : ∀ e ∈ wout l n, e.2 ≠ k := fun e he => hk e (mem_wout.1 he).1
  unfold wth
  generalize wout l n = m at hw hk'
  unfold Own at hw ⊢
  have e := List.take_append_drop (pos m n) m
  generalize m.take (pos m n) = a at e
  generalize m.drop (pos m n) = b at e
  subst e
  obtain ⟨h1, h2, h3⟩ := List.pairwise_append.1 hw
  rw [List.pairwise_append, List.pairwise_cons]
  refine ⟨h1, ⟨fun x hx => (hk' x (List.mem_append_right _ hx)).symm, h2⟩, fun x hx y hy => ?_⟩
  rcases List.mem_cons.1 hy with rfl | hy
  · exact hk' x (List.mem_append_left _ hx)
  · exact h3 x hx y hy
theorem usedT_grow {fs : List Fil} {t : Tbl} (ho : Own t) {k : Nat} {f : Fil} (hk : k < fs.length) : usedT (fs.set k f) t ≤ usedT fs t + (f.b.length - (fat fs k).b.length) := by
  induction t with
  | nil => exact Nat.zero_le _
  | cons e r ih =>
    have ho' := List.pairwise_cons.1 ho
    simp only [usedT]
    rw [fatX_set]
    by_cases h1 : k = e.2
    · have h2 : usedT (fs.set k f) r ≤ usedT fs r := usedX_le (fun x hx => by
        rw [fatX_set, if_neg]
        · exact Nat.le_refl _
        · rintro ⟨e2, _⟩
          exact ho'.1 x hx (h1.symm.trans e2))
      rw [if_pos ⟨h1, hk⟩, ← h1]
      omega
    · rw [if_neg (fun h => h1 h.1)]
      have := ih ho'.2
      omega

/-- What holds of a disk that never crashed. -/
structure Rm (d : Dsk) (c : Nat) : Prop where
  cap : d.cap = c
  used : d.used ≤ c
  len : d.now.length ≤ 64
  own : Own d.now
theorem Rm.done {d : Dsk} {c : Nat} (h : Rm d c) : Rm d.done c := ⟨h.cap, h.used, h.len, h.own⟩
theorem Rm.setF {d : Dsk} {c k j : Nat} (h : Rm d c) {f : Fil} (hf : f.b.length ≤ (fat d.files j).b.length) (ok : d.Ok k) : Rm (d.setF j f) c := by
  refine ⟨h.cap, Nat.le_trans (usedX_le (fun e he => ?_)) h.used, h.len, h.own⟩
  show (fat (d.files.set j f) e.2).b.length ≤ _
  rw [fatX_set]
  split
  · rename_i hj
    rw [← hj.1]
    exact hf
  · exact Nat.le_refl _
/-- What an act leaves, if it tells an error: all. -/
def Quiet (d : Dsk) (r : Dsk × Nat) : Prop := r.2 ≠ 0 → r.1 = d
theorem on_room {d : Dsk} {c : Nat} (h : Rm d c) (n : ByteArray) (f : Nat → Dsk × Nat) (hf : ∀ j, tfind d.now n = some j → Rm (f j).1 c ∧ Quiet d (f j)) : Rm (d.on n (fun c => (d, c)) f).1 c ∧ Quiet d (d.on n (fun c => (d, c)) f) := by
  unfold Dsk.on
  split
  · exact ⟨h, fun _ => rfl⟩
  · cases he : tfind d.now n with
    | none => exact ⟨h, fun _ => rfl⟩
    | some j => exact hf j he
theorem Rm.create {d : Dsk} {c k : Nat} (h : Rm d c) (ok : d.Ok k) (n : ByteArray) : Rm (d.create n).1 c ∧ Quiet d (d.create n) := by
  unfold Dsk.create
  split
  · exact ⟨h, fun _ => rfl⟩
  split
  · exact ⟨h, fun _ => rfl⟩
  split
  · exact ⟨h, fun _ => rfl⟩
  split
  · exact ⟨h, fun _ => rfl⟩
  · rename_i hn _ hl
    have hn' : isNm n = true := by simpa using hn
    refine ⟨Rm.done (d := { d with files := d.files ++ [(⟨[], 0⟩ : Fil)], now := turnT d.now ⟨noName, n, d.files.length⟩, deeds := d.deeds ++ [(⟨noName, n, d.files.length⟩ : Dd)] }) ⟨h.cap, ?_, ?_, ?_⟩, fun e => absurd rfl e⟩
    · show usedT (d.files ++ [⟨[], 0⟩]) (turnT d.now ⟨noName, n, d.files.length⟩) ≤ c
      unfold turnT
      rw [if_neg (isNm_ne' hn'), usedT_wth]
      have h1 : (fat (d.files ++ [⟨[], 0⟩]) (⟨noName, n, d.files.length⟩ : Dd).file).b.length = 0 := by
        show (fat (d.files ++ [⟨[], 0⟩]) d.files.length).b.length = 0
        unfold fat
        simp
      have h2 := usedT_sub (fs := d.files ++ [(⟨[], 0⟩ : Fil)]) ((wout_sublist (wout d.now noName) n).trans (wout_sublist d.now noName))
      have h3 : usedT (d.files ++ [(⟨[], 0⟩ : Fil)]) d.now ≤ usedT d.files d.now := usedX_le (fun e he => by rw [fat_app _ _ (ok.nowF e he).1]; exact Nat.le_refl _)
      have h4 := h.used
      unfold Dsk.used at h4
      show usedT _ (wout (wout d.now noName) n) + _ ≤ c
      omega
    · show (turnT d.now ⟨noName, n, d.files.length⟩).length ≤ 64
      have := turnT_len d.now ⟨noName, n, d.files.length⟩
      omega
    · show Own (turnT d.now ⟨noName, n, d.files.length⟩)
      unfold turnT
      rw [if_neg (isNm_ne' hn')]
      exact (h.own.out _).put n (fun e he => by
        have := (ok.nowF e (mem_wout.1 he).1).1
        show e.2 ≠ d.files.length
        omega)
theorem Rm.append {d : Dsk} {c k : Nat} (h : Rm d c) (ok : d.Ok k) (n : ByteArray) (b : List UInt8) : Rm (d.append n b).1 c ∧ Quiet d (d.append n b) := by
  refine on_room h n _ fun j hj => ?_
  split
  · exact ⟨h, fun _ => rfl⟩
  split
  · exact ⟨h, fun _ => rfl⟩
  · rename_i h2
    refine ⟨Rm.done (d := d.setF j ⟨(fat d.files j).b ++ b, (fat d.files j).lasts⟩) ⟨h.cap, ?_, h.len, h.own⟩, fun e => absurd rfl e⟩
    have h3 := usedT_grow (f := ⟨(fat d.files j).b ++ b, (fat d.files j).lasts⟩) h.own (Ok.file ok hj).1
    show usedT (d.files.set j _) d.now ≤ c
    have h4 := h.cap
    unfold Dsk.used at h2
    simp only [List.length_append] at h3
    omega
theorem Rm.sync {d : Dsk} {c k : Nat} (h : Rm d c) (ok : d.Ok k) (n : ByteArray) : Rm (d.sync n).1 c ∧ Quiet d (d.sync n) :=
  on_room h n _ fun _ _ => ⟨Rm.done (Rm.setF h (Nat.le_refl _) ok), fun e => absurd rfl e⟩
theorem Rm.syncNames {d : Dsk} {c : Nat} (h : Rm d c) : Rm d.syncNames.1 c ∧ Quiet d d.syncNames := by
  unfold Dsk.syncNames
  split
  · exact ⟨h, fun _ => rfl⟩
  · exact ⟨Rm.done (d := d.syncN) ⟨h.cap, h.used, h.len, h.own⟩, fun e => absurd rfl e⟩
theorem Rm.rename {d : Dsk} {c k : Nat} (h : Rm d c) (ok : d.Ok k) (n t : ByteArray) : Rm (d.rename n t).1 c ∧ Quiet d (d.rename n t) := by
  refine on_room h n _ fun j hj => ?_
  split
  · exact ⟨h, fun _ => rfl⟩
  · rename_i hn
    have hn' : isNm t = true := by simpa using hn
    have h4 := h.used
    unfold Dsk.used at h4
    refine ⟨Rm.done (d := { d with now := turnT d.now ⟨n, t, j⟩, deeds := d.deeds ++ [⟨n, t, j⟩] }) ⟨h.cap, ?_, ?_, ?_⟩, fun e => absurd rfl e⟩
    · show usedT d.files (turnT d.now ⟨n, t, j⟩) ≤ c
      unfold turnT
      rw [if_neg (isNm_ne' hn'), usedT_wth]
      show usedT d.files (wout (wout d.now n) t) + (fat d.files j).b.length ≤ c
      have h2 := usedT_sub (fs := d.files) (wout_sublist (wout d.now n) t)
      have h3 := usedT_wout (fs := d.files) hj
      omega
    · show (turnT d.now ⟨n, t, j⟩).length ≤ 64
      unfold turnT
      rw [if_neg (isNm_ne' hn'), wth_length]
      show (wout (wout d.now n) t).length + 1 ≤ 64
      have h1 := wout_length (wout d.now n) t
      have h2 := wout_shorter hj
      have := h.len
      omega
    · show Own (turnT d.now ⟨n, t, j⟩)
      unfold turnT
      rw [if_neg (isNm_ne' hn')]
      exact (h.own.out n).put t (h.own.gone hj)
theorem Rm.remove {d : Dsk} {c : Nat} (h : Rm d c) (n : ByteArray) : Rm (d.remove n).1 c ∧ Quiet d (d.remove n) := by
  refine on_room h n _ fun j _ => ?_
  have e1 : turnT d.now ⟨n, noName, 0⟩ = wout d.now n := if_pos rfl
  have h4 := h.used
  unfold Dsk.used at h4
  refine ⟨Rm.done (d := { d with now := turnT d.now ⟨n, noName, 0⟩, deeds := d.deeds ++ [⟨n, noName, 0⟩] }) ⟨h.cap, ?_, ?_, ?_⟩, fun e => absurd rfl e⟩
  · show usedT d.files (turnT d.now ⟨n, noName, 0⟩) ≤ c
    rw [e1]
    have := usedT_sub (fs := d.files) (wout_sublist d.now n)
    omega
  · show (turnT d.now ⟨n, noName, 0⟩).length ≤ 64
    rw [e1]
    have := wout_length d.now n
    have := h.len
    omega
  · show Own (turnT d.now ⟨n, noName, 0⟩)
    rw [e1]
    exact h.own.out n
theorem Rm.cut {d : Dsk} {c k : Nat} (h : Rm d c) (ok : d.Ok k) (n : ByteArray) (m : Int) : Rm (d.cut n m).1 c ∧ Quiet d (d.cut n m) := by
  refine on_room h n _ fun j _ => ?_
  split
  · exact ⟨h, fun _ => rfl⟩
  · exact ⟨Rm.done (Rm.setF h (by simp only [List.length_take]; omega) ok), fun e => absurd rfl e⟩
theorem Rm.arm {d : Dsk} {c : Nat} (h : Rm d c) (m : Int) : Rm (d.arm m).1 c ∧ Quiet d (d.arm m) := by
  unfold Dsk.arm
  split
  · exact ⟨h, fun _ => rfl⟩
  split
  · exact ⟨h, fun _ => rfl⟩
  · exact ⟨⟨h.cap, h.used, h.len, h.own⟩, fun e => absurd rfl e⟩
theorem Rm.spoil {d : Dsk} {c k : Nat} (h : Rm d c) (ok : d.Ok k) (n : ByteArray) (m : Int) (x : UInt8) : Rm (d.spoil n m x).1 c ∧ Quiet d (d.spoil n m x) := by
  refine on_room h n _ fun j _ => ?_
  split
  · exact ⟨h, fun _ => rfl⟩
  · exact ⟨Rm.setF h (by simp only [List.length_set]; exact Nat.le_refl _) ok, fun e => absurd rfl e⟩
theorem Rm.act {d : Dsk} {c k0 : Nat} (h : Rm d c) (ok : d.Ok k0) (a : Ac) (k : Nat) (hk : k ≠ 8) : Rm (actD d a k).1 c ∧ ((actD d a k).2.2.2 ≠ 0 → (actD d a k).1 = d) := by
  unfold actD
  split
  · exact h.create ok _
  · exact h.append ok _ _
  · exact h.sync ok _
  · exact h.syncNames
  · exact h.rename ok _ _
  · exact h.remove _
  · exact h.cut ok _ _
  · exact h.arm _
  · exact absurd rfl hk
  · exact h.spoil ok _ _ _
  · exact ⟨h, fun _ => rfl⟩
  · exact ⟨h, fun _ => rfl⟩
theorem Rm.new (c : Nat) : Rm (newD c) c := ⟨rfl, Nat.zero_le _, Nat.zero_le _, List.Pairwise.nil⟩

end Go.Proofs.Ytnofabeajcdddaa
