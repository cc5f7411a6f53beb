/- What holds of every disk, kept by every call. Of no program. -/
import Derived.Test.YtnofabeajcdddaaCr
namespace Go.Proofs.Ytnofabeajcdddaa
open Go.Cor

theorem isNm_ne' {t : ByteArray} (h : isNm t = true) : t ≠ noName := by rintro rfl; cases h
theorem Ok.more {d : Dsk} {k m : Nat} (h : d.Ok k) (hm : k ≤ m) : d.Ok m := ⟨h.cap, h.nowS, h.lasS, h.nowF, h.lasF, h.deeF, h.fil, Nat.le_trans h.filN hm, h.nowN, Nat.le_trans h.lenN hm, h.arm⟩
theorem Ok.done {d : Dsk} {k : Nat} (h : d.Ok k) : d.done.Ok k := ⟨h.cap, h.nowS, h.lasS, h.nowF, h.lasF, h.deeF, h.fil, h.filN, h.nowN, h.lenN, fun n hn => by
  unfold Dsk.done at hn
  simp only [Option.map_eq_some_iff] at hn
  obtain ⟨a, ha, rfl⟩ := hn
  have := h.arm a ha
  omega⟩
theorem Ok.nameD {d : Dsk} {k : Nat} (h : d.Ok k) {x : Dd} (h1 : x.dst = noName ∨ isNm x.dst = true ∧ x.file < d.files.length) (h2 : x.src = noName ∨ isNm x.src = true) (h3 : x.src = noName → x.dst ≠ noName) : (d.nameD x).Ok (k + 1) := by
  refine Ok.done (d := { d with now := turnT d.now x, deeds := d.deeds ++ [x] }) ⟨h.cap, turnT_sorted h.nowS x, h.lasS, fun e he => ?_, h.lasF, fun y hy => ?_, h.fil, Nat.le_succ_of_le h.filN, ?_, ?_, h.arm⟩
  · rcases turnT_mem he with h4 | ⟨h4, rfl⟩
    · exact h.nowF e h4
    · rcases h1 with h5 | h5
      · exact absurd h5 h4
      · exact ⟨h5.2, h5.1⟩
  · rcases List.mem_append.1 hy with h4 | h4
    · exact h.deeF y h4
    · have e : y = x := by simpa using h4
      subst e
      exact ⟨h1, h2, h3⟩
  · have := turnT_len d.now x
    have := h.nowN
    simp only [List.length_append, List.length_cons, List.length_nil]
    omega
  · have := h.lenN
    simp only [List.length_append, List.length_cons, List.length_nil]
    omega
theorem Ok.setF {d : Dsk} {k j : Nat} {f : Fil} (h : d.Ok k) (hf : f.lasts ≤ f.b.length ∧ f.b.length ≤ 16777216) : (d.setF j f).Ok k := by
  have hl : (d.files.set j f).length = d.files.length := by simp
  refine ⟨h.cap, h.nowS, h.lasS, fun e he => ?_, fun e he => ?_, fun y hy => ?_, fun g hg => ?_, ?_, h.nowN, h.lenN, h.arm⟩
  · have := h.nowF e he; exact ⟨by show _ < (d.files.set j f).length; rw [hl]; exact this.1, this.2⟩
  · have := h.lasF e he; exact ⟨by show _ < (d.files.set j f).length; rw [hl]; exact this.1, this.2⟩
  · have := h.deeF y hy
    refine ⟨this.1.imp id (fun h => ⟨h.1, by show _ < (d.files.set j f).length; rw [hl]; exact h.2⟩), this.2⟩
  · rcases mem_set_or hg with h1 | h1
    · exact h.fil g h1
    · subst h1; exact hf
  · show (d.files.set j f).length ≤ k
    rw [hl]
    exact h.filN
theorem Ok.file {d : Dsk} {k : Nat} (h : d.Ok k) {n : ByteArray} {j : Nat} (hf : tfind d.now n = some j) : j < d.files.length ∧ isNm n = true := h.nowF _ (tfind_mem hf)
theorem Ok.fat {d : Dsk} {k : Nat} (h : d.Ok k) {j : Nat} (hj : j < d.files.length) : (fat d.files j).lasts ≤ (fat d.files j).b.length ∧ (fat d.files j).b.length ≤ 16777216 := h.fil _ (fat_mem hj)
theorem Ok.addF {d : Dsk} {k : Nat} (h : d.Ok k) : ({ d with files := d.files ++ [⟨[], 0⟩] } : Dsk).Ok (k + 1) := by
  have hl : (d.files ++ [(⟨[], 0⟩ : Fil)]).length = d.files.length + 1 := by simp
  refine ⟨h.cap, h.nowS, h.lasS, fun e he => ?_, fun e he => ?_, fun y hy => ?_, fun g hg => ?_, ?_, h.nowN, Nat.le_succ_of_le h.lenN, h.arm⟩
  · have := h.nowF e he; exact ⟨by show _ < (d.files ++ [_]).length; rw [hl]; omega, this.2⟩
  · have := h.lasF e he; exact ⟨by show _ < (d.files ++ [_]).length; rw [hl]; omega, this.2⟩
  · have := h.deeF y hy
    refine ⟨this.1.imp id (fun h => ⟨h.1, by show _ < (d.files ++ [_]).length; rw [hl]; omega⟩), this.2⟩
  · rcases List.mem_append.1 hg with h1 | h1
    · exact h.fil g h1
    · have : g = ⟨[], 0⟩ := by simpa using h1
      subst this
      exact ⟨Nat.le_refl _, Nat.zero_le _⟩
  · show (d.files ++ [_]).length ≤ k + 1
    rw [hl]
    have := h.filN
    omega
theorem Ok.create {d : Dsk} {k : Nat} (h : d.Ok k) (n : ByteArray) : (d.create n).1.Ok (k + 2) := by
  unfold Dsk.create
  split
  · exact Ok.more h (by omega)
  split
  · exact Ok.more h (by omega)
  split
  · exact Ok.more h (by omega)
  split
  · exact Ok.more h (by omega)
  · rename_i hn _ _
    have hn' : isNm n = true := by simpa using hn
    exact Ok.nameD (Ok.addF h) (.inr ⟨hn', by show d.files.length < (d.files ++ [_]).length; simp⟩) (.inl rfl) (fun _ => isNm_ne' hn')
theorem on_ok {d : Dsk} {k : Nat} (h : d.Ok k) (n : ByteArray) (f : Nat → Dsk × Nat) (hf : ∀ j, tfind d.now n = some j → (f j).1.Ok (k + 2)) : (d.on n (fun c => (d, c)) f).1.Ok (k + 2) := by
  unfold Dsk.on
  split
  · exact Ok.more h (by omega)
  · cases he : tfind d.now n with
    | none => exact Ok.more h (by omega)
    | some j => exact hf j he
theorem Ok.append {d : Dsk} {k : Nat} (h : d.Ok k) (n : ByteArray) (b : List UInt8) : (d.append n b).1.Ok (k + 2) := by
  refine on_ok h n _ fun j hj => ?_
  split
  · exact Ok.more h (by omega)
  split
  · exact Ok.more h (by omega)
  · have := Ok.fat h (Ok.file h hj).1
    exact Ok.more (Ok.done (Ok.setF h ⟨by simp only [List.length_append]; omega, by simp only [List.length_append]; omega⟩)) (by omega)
theorem Ok.sync {d : Dsk} {k : Nat} (h : d.Ok k) (n : ByteArray) : (d.sync n).1.Ok (k + 2) := by
  refine on_ok h n _ fun j hj => ?_
  have := Ok.fat h (Ok.file h hj).1
  exact Ok.more (Ok.done (Ok.setF h ⟨Nat.le_refl _, this.2⟩)) (by omega)
theorem Ok.syncNames {d : Dsk} {k : Nat} (h : d.Ok k) : d.syncNames.1.Ok (k + 2) := by
  unfold Dsk.syncNames
  split
  · exact Ok.more h (by omega)
  · refine Ok.more (Ok.done (d := d.syncN) (k := k) ⟨h.cap, h.nowS, h.nowS, h.nowF, h.nowF, (fun x hx => by cases hx), h.fil, h.filN, Nat.le_refl _, ?_, h.arm⟩) (by omega)
    have := h.nowN
    have := h.lenN
    show d.now.length + 0 ≤ k
    omega
theorem Ok.rename {d : Dsk} {k : Nat} (h : d.Ok k) (n t : ByteArray) : (d.rename n t).1.Ok (k + 2) := by
  refine on_ok h n _ fun j hj => ?_
  split
  · exact Ok.more h (by omega)
  · rename_i hn
    have hn' : isNm t = true := by simpa using hn
    have hf := Ok.file h hj
    exact Ok.more (Ok.nameD h (.inr ⟨hn', hf.1⟩) (.inr hf.2) (fun _ => isNm_ne' hn')) (by omega)
theorem Ok.remove {d : Dsk} {k : Nat} (h : d.Ok k) (n : ByteArray) : (d.remove n).1.Ok (k + 2) := by
  refine on_ok h n _ fun j hj => ?_
  have hf := Ok.file h hj
  exact Ok.more (Ok.nameD h (.inl rfl) (.inr hf.2) (fun e => absurd e (isNm_ne' hf.2))) (by omega)
theorem Ok.cut {d : Dsk} {k : Nat} (h : d.Ok k) (n : ByteArray) (m : Int) : (d.cut n m).1.Ok (k + 2) := by
  refine on_ok h n _ fun j hj => ?_
  split
  · exact Ok.more h (by omega)
  · have := Ok.fat h (Ok.file h hj).1
    exact Ok.more (Ok.done (Ok.setF h ⟨by simp only [List.length_take]; omega, by simp only [List.length_take]; omega⟩)) (by omega)
theorem Ok.armed {d : Dsk} {k : Nat} (h : d.Ok k) (m : Int) (hm : m ≤ 9223372036854775807) : (d.arm m).1.Ok (k + 2) := by
  unfold Dsk.arm
  split
  · exact Ok.more h (by omega)
  split
  · exact Ok.more h (by omega)
  · exact Ok.more (d := { d with armed := some m.toNat }) (k := k) ⟨h.cap, h.nowS, h.lasS, h.nowF, h.lasF, h.deeF, h.fil, h.filN, h.nowN, h.lenN, fun n hn => by cases hn; omega⟩ (by omega)
theorem Ok.spoil {d : Dsk} {k : Nat} (h : d.Ok k) (n : ByteArray) (m : Int) (x : UInt8) : (d.spoil n m x).1.Ok (k + 2) := by
  refine on_ok h n _ fun j hj => ?_
  split
  · exact Ok.more h (by omega)
  · have := Ok.fat h (Ok.file h hj).1
    exact Ok.more (Ok.setF h ⟨by simp only [List.length_set]; exact this.1, by simp only [List.length_set]; exact this.2⟩) (by omega)
theorem Ok.crash {d : Dsk} {k : Nat} (h : d.Ok k) (z : Int) (ps : List Pck) : (d.crash z ps).Ok (k + 2) := by
  have hc : clampN z d.deeds.length ≤ d.deeds.length := Nat.min_le_right _ _
  have hl := fallAll_len ps d.files ((d.deeds.take (clampN z d.deeds.length)).foldl turnT d.las)
  have hm : ∀ e ∈ (d.deeds.take (clampN z d.deeds.length)).foldl turnT d.las, e.2 < d.files.length ∧ isNm e.1 = true := fun e he => by
    rcases foldl_mem he with h1 | ⟨y, hy, hyd, rfl⟩
    · exact h.lasF e h1
    · rcases (h.deeF y (List.mem_of_mem_take hy)).1 with h2 | h2
      · exact absurd h2 hyd
      · exact ⟨h2.2, h2.1⟩
  have hlen := foldl_len d.las (d.deeds.take (clampN z d.deeds.length))
  rw [List.length_take] at hlen
  have h3 := h.lenN
  have h4 := h.filN
  refine Ok.more (k := k) ⟨h.cap, foldl_sorted h.lasS _, foldl_sorted h.lasS _, fun e he => ⟨by show _ < (fallAll _ _ _).length; rw [hl]; exact (hm e he).1, (hm e he).2⟩, fun e he => ⟨by show _ < (fallAll _ _ _).length; rw [hl]; exact (hm e he).1, (hm e he).2⟩, (fun x hx => by cases hx), fallAll_ok _ h.fil, by show (fallAll _ _ _).length ≤ k; rw [hl]; exact h4, Nat.le_refl _, ?_, (fun n hn => by cases hn)⟩ (by omega)
  show ((d.deeds.take (clampN z d.deeds.length)).foldl turnT d.las).length + 0 ≤ k
  omega

end Go.Proofs.Ytnofabeajcdddaa
