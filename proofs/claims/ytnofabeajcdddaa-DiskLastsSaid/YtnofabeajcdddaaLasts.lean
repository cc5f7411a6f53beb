/- What is there behind a crash: DiskLasts' disk, as plain values. Of no program. -/
import Derived.Test.YtnofabeajcdddaaTwice
namespace Go.Proofs.Ytnofabeajcdddaa
open Go.Cor

def xn : ByteArray := ⟨#[120]⟩
def yn : ByteArray := ⟨#[121]⟩
def zn : ByteArray := ⟨#[122]⟩
def Z4 (a : List UInt8) : Dsk := ((((newD 5000).create xn).1.append xn a).1.sync xn).1.syncNames.1
def Z10 (a b c : List UInt8) (m : Nat) : Dsk := ((((((Z4 a).arm (m : Int)).1.append xn b).1.create yn).1.append yn c).1.sync yn).1.rename yn zn |>.1

theorem z1 : ((newD 5000).create xn).1 = ⟨5000, [⟨[], 0⟩], [(xn, 0)], [], [⟨noName, xn, 0⟩], none⟩ := by kernel_rfl
theorem z2 (a : List UInt8) (h : a.length ≤ 300) : (⟨5000, [⟨[], 0⟩], [(xn, 0)], [], [⟨noName, xn, 0⟩], none⟩ : Dsk).append xn a = (⟨5000, [⟨a, 0⟩], [(xn, 0)], [], [⟨noName, xn, 0⟩], none⟩, 0) := by
  have e : (⟨5000, [⟨[], 0⟩], [(xn, 0)], [], [⟨noName, xn, 0⟩], none⟩ : Dsk).append xn a = if 16777216 < 0 + a.length then (_, 2) else if 5000 < 0 + a.length then (_, 11) else _ := rfl
  rw [e, if_neg (by omega), if_neg (by omega)]
  rfl
theorem z3 (a : List UInt8) : (⟨5000, [⟨a, 0⟩], [(xn, 0)], [], [⟨noName, xn, 0⟩], none⟩ : Dsk).sync xn = (⟨5000, [⟨a, a.length⟩], [(xn, 0)], [], [⟨noName, xn, 0⟩], none⟩, 0) := rfl
theorem z4 (a : List UInt8) : (⟨5000, [⟨a, a.length⟩], [(xn, 0)], [], [⟨noName, xn, 0⟩], none⟩ : Dsk).syncNames = (⟨5000, [⟨a, a.length⟩], [(xn, 0)], [(xn, 0)], [], none⟩, 0) := rfl
theorem Z4_is (a : List UInt8) (h : a.length ≤ 300) : Z4 a = ⟨5000, [⟨a, a.length⟩], [(xn, 0)], [(xn, 0)], [], none⟩ := by
  unfold Z4
  rw [z1, z2 a h, z3, z4]
theorem z5 (a : List UInt8) (m : Nat) : ((⟨5000, [⟨a, a.length⟩], [(xn, 0)], [(xn, 0)], [], none⟩ : Dsk).arm (m : Int)).1 = ⟨5000, [⟨a, a.length⟩], [(xn, 0)], [(xn, 0)], [], some m⟩ := by
  have e : (⟨5000, [⟨a, a.length⟩], [(xn, 0)], [(xn, 0)], [], none⟩ : Dsk).arm (m : Int) = if (m : Int) < 0 then ((⟨5000, [⟨a, a.length⟩], [(xn, 0)], [(xn, 0)], [], none⟩ : Dsk), 1) else (⟨5000, [⟨a, a.length⟩], [(xn, 0)], [(xn, 0)], [], some ((m : Int).toNat)⟩, 0) := rfl
  rw [e, if_neg (by omega), Int.toNat_natCast]
theorem z6 (a b : List UInt8) (m : Nat) (ha : a.length ≤ 300) (hb : b.length ≤ 300) : ((⟨5000, [⟨a, a.length⟩], [(xn, 0)], [(xn, 0)], [], some (m + 1)⟩ : Dsk).append xn b).1 = ⟨5000, [⟨a ++ b, a.length⟩], [(xn, 0)], [(xn, 0)], [], some m⟩ := by
  have e : (⟨5000, [⟨a, a.length⟩], [(xn, 0)], [(xn, 0)], [], some (m + 1)⟩ : Dsk).append xn b = if 16777216 < a.length + b.length then (_, 2) else if 5000 < (a.length + 0) + b.length then (_, 11) else (⟨5000, [⟨a ++ b, a.length⟩], [(xn, 0)], [(xn, 0)], [], some m⟩, 0) := rfl
  rw [e, if_neg (by omega), if_neg (by omega)]
theorem z7 (f : Fil) (m : Nat) : ((⟨5000, [f], [(xn, 0)], [(xn, 0)], [], some (m + 1)⟩ : Dsk).create yn).1 = ⟨5000, [f, ⟨[], 0⟩], [(xn, 0), (yn, 1)], [(xn, 0)], [⟨noName, yn, 1⟩], some m⟩ := rfl
theorem z8 (f : Fil) (c : List UInt8) (m : Nat) (hf : f.b.length ≤ 600) (hc : c.length ≤ 300) : ((⟨5000, [f, ⟨[], 0⟩], [(xn, 0), (yn, 1)], [(xn, 0)], [⟨noName, yn, 1⟩], some (m + 1)⟩ : Dsk).append yn c).1 = ⟨5000, [f, ⟨c, 0⟩], [(xn, 0), (yn, 1)], [(xn, 0)], [⟨noName, yn, 1⟩], some m⟩ := by
  have e : (⟨5000, [f, ⟨[], 0⟩], [(xn, 0), (yn, 1)], [(xn, 0)], [⟨noName, yn, 1⟩], some (m + 1)⟩ : Dsk).append yn c = if 16777216 < 0 + c.length then (_, 2) else if 5000 < (f.b.length + (0 + 0)) + c.length then (_, 11) else (⟨5000, [f, ⟨c, 0⟩], [(xn, 0), (yn, 1)], [(xn, 0)], [⟨noName, yn, 1⟩], some m⟩, 0) := rfl
  rw [e, if_neg (by omega), if_neg (by omega)]
theorem z9 (f : Fil) (c : List UInt8) (m : Nat) : ((⟨5000, [f, ⟨c, 0⟩], [(xn, 0), (yn, 1)], [(xn, 0)], [⟨noName, yn, 1⟩], some (m + 1)⟩ : Dsk).sync yn).1 = ⟨5000, [f, ⟨c, c.length⟩], [(xn, 0), (yn, 1)], [(xn, 0)], [⟨noName, yn, 1⟩], some m⟩ := rfl
theorem z10 (f g : Fil) (m : Nat) : ((⟨5000, [f, g], [(xn, 0), (yn, 1)], [(xn, 0)], [⟨noName, yn, 1⟩], some (m + 1)⟩ : Dsk).rename yn zn).1 = ⟨5000, [f, g], [(xn, 0), (zn, 1)], [(xn, 0)], [⟨noName, yn, 1⟩, ⟨yn, zn, 1⟩], some m⟩ := rfl
theorem d_append (d : Dsk) (n : ByteArray) (b : List UInt8) (h : d.armed = some 0) : (d.append n b).1 = d := by unfold Dsk.append Dsk.on; rw [if_pos h]
theorem d_create (d : Dsk) (n : ByteArray) (h : d.armed = some 0) : (d.create n).1 = d := by unfold Dsk.create; rw [if_pos h]
theorem d_sync (d : Dsk) (n : ByteArray) (h : d.armed = some 0) : (d.sync n).1 = d := by unfold Dsk.sync Dsk.on; rw [if_pos h]
theorem d_rename (d : Dsk) (n t : ByteArray) (h : d.armed = some 0) : (d.rename n t).1 = d := by unfold Dsk.rename Dsk.on; rw [if_pos h]

/-- The disk ahead of the crash. -/
structure Fin10 (d : Dsk) (a b c : List UInt8) (m : Nat) : Prop where
  is : ∃ B F now deeds arm, d = ⟨5000, ⟨a ++ B, a.length⟩ :: F, now, [(xn, 0)], deeds, arm⟩ ∧ (B = [] ∨ B = b) ∧ isDown arm = decide (m ≤ 5) ∧ ((deeds = [] ∧ F = []) ∨ (∃ f, deeds = [⟨noName, yn, 1⟩] ∧ F = [f]) ∨ (deeds = [⟨noName, yn, 1⟩, ⟨yn, zn, 1⟩] ∧ F = [⟨c, c.length⟩] ∧ 5 ≤ m))
theorem isDown_some (k : Nat) : isDown (some k) = decide (k = 0) := by
  cases k with
  | zero => rfl
  | succ k => rfl
theorem Z10_is (a b c : List UInt8) (m : Nat) (ha : a.length ≤ 300) (hb : b.length ≤ 300) (hc : c.length ≤ 300) : Fin10 (Z10 a b c m) a b c m := by
  have hab : (a ++ b).length ≤ 600 := by rw [List.length_append]; omega
  unfold Z10
  rw [Z4_is a ha, z5]
  match m with
  | 0 =>
    rw [d_append _ _ _ rfl, d_create _ _ rfl, d_append _ _ _ rfl, d_sync _ _ rfl, d_rename _ _ _ rfl]
    exact ⟨[], [], _, _, _, by rw [List.append_nil], .inl rfl, rfl, .inl ⟨rfl, rfl⟩⟩
  | 1 =>
    rw [z6 a b 0 ha hb, d_create _ _ rfl, d_append _ _ _ rfl, d_sync _ _ rfl, d_rename _ _ _ rfl]
    exact ⟨b, [], _, _, _, rfl, .inr rfl, rfl, .inl ⟨rfl, rfl⟩⟩
  | 2 =>
    rw [z6 a b 1 ha hb, z7, d_append _ _ _ rfl, d_sync _ _ rfl, d_rename _ _ _ rfl]
    exact ⟨b, _, _, _, _, rfl, .inr rfl, rfl, .inr (.inl ⟨_, rfl, rfl⟩)⟩
  | 3 =>
    rw [z6 a b 2 ha hb, z7, z8 _ c 0 hab hc, d_sync _ _ rfl, d_rename _ _ _ rfl]
    exact ⟨b, _, _, _, _, rfl, .inr rfl, rfl, .inr (.inl ⟨_, rfl, rfl⟩)⟩
  | 4 =>
    rw [z6 a b 3 ha hb, z7, z8 _ c 1 hab hc, z9, d_rename _ _ _ rfl]
    exact ⟨b, _, _, _, _, rfl, .inr rfl, rfl, .inr (.inl ⟨_, rfl, rfl⟩)⟩
  | k + 5 =>
    rw [z6 a b (k + 4) ha hb, z7, z8 _ c (k + 2) hab hc, z9, z10]
    refine ⟨b, _, _, _, _, rfl, .inr rfl, ?_, .inr (.inr ⟨rfl, rfl, by omega⟩)⟩
    rw [isDown_some]
    by_cases hk : k = 0
    · subst hk; rfl
    · rw [decide_eq_false hk, decide_eq_false (by omega)]

/-- What a crash leaves of the file. -/
theorem fall_bytes (a B b : List UInt8) (p : Pck) (hB : B = [] ∨ B = b) : ∃ s, (fallF ⟨a ++ B, a.length⟩ p).b = s ∧ a.length ≤ s.length ∧ s.length ≤ a.length + b.length ∧ s.take a.length = a ∧ ∀ k, a.length ≤ k → k + 1 < s.length → s.getD k 0 = b.getD (k - a.length) 0 := by
  refine ⟨_, rfl, ?_⟩
  unfold fallF
  dsimp only
  have hr : (a ++ B).length - a.length = B.length := by rw [List.length_append]; omega
  rw [hr]
  obtain ⟨C, hC⟩ : ∃ C, clampN p.keep B.length = C := ⟨_, rfl⟩
  have hCB : C ≤ B.length := by rw [← hC]; exact Nat.min_le_right _ _
  rw [hC]
  have hBb : B.length ≤ b.length := by
    rcases hB with rfl | rfl
    · exact Nat.zero_le _
    · exact Nat.le_refl _
  have htl : ((a ++ B).take (a.length + C)).length = a.length + C := by rw [List.length_take, List.length_append]; omega
  have hta : ((a ++ B).take (a.length + C)).take a.length = a := by
    rw [List.take_take, Nat.min_eq_left (by omega), List.take_left]
  by_cases h0 : 0 < C
  · rw [if_pos h0]
    have hBe : B = b := by
      rcases hB with rfl | h
      · simp at hCB; omega
      · exact h
    refine ⟨by rw [List.length_set, htl]; omega, by rw [List.length_set, htl]; omega, ?_, fun k h1 h2 => ?_⟩
    · rw [List.take_set, List.set_eq_of_length_le (by rw [hta]; omega), hta]
    · rw [List.length_set, htl] at h2
      rw [List.getD_eq_getElem?_getD, List.getElem?_set_ne (by omega), List.getElem?_take, if_pos (by omega), List.getElem?_append_right h1, ← List.getD_eq_getElem?_getD, hBe]
  · rw [if_neg h0]
    refine ⟨by rw [htl]; omega, by rw [htl]; omega, hta, fun k h1 h2 => ?_⟩
    rw [htl] at h2
    omega
theorem clamp_2 {z : Int} (h : clampN z 2 = 2) : 2 ≤ z := by
  have : clampN z 2 ≤ z.toNat := Nat.min_le_left _ _
  omega
theorem lasts_fin (d : Dsk) (a b c : List UInt8) (m : Nat) (pn : Int) (ps : List Pck) (h : Fin10 d a b c m) : ∃ s : List UInt8, (d.crash pn ps).size xn = (s.length, 0) ∧ (d.crash pn ps).read xn 0 (s.length : Int) = (s, 0) ∧ a.length ≤ s.length ∧ s.length ≤ a.length + b.length ∧ s.take a.length = a ∧ (∀ k, a.length ≤ k → k + 1 < s.length → s.getD k 0 = b.getD (k - a.length) 0) ∧ (((d.crash pn ps).size zn).2 = 6 ∨ ((d.crash pn ps).size zn = (c.length, 0) ∧ 5 ≤ m ∧ 2 ≤ pn)) := by
  obtain ⟨B, F, now, deeds, arm, rfl, hB, _, hd⟩ := h
  obtain ⟨s, hs, h1, h2, h3, h4⟩ := fall_bytes a B b (pickAt ps 0) hB
  have one : ∀ (G : List Fil) (t : Tbl), t = [(xn, 0)] → (⟨5000, fallAll ps (⟨a ++ B, a.length⟩ :: G) t, t, t, [], none⟩ : Dsk).size xn = (s.length, 0) ∧ (⟨5000, fallAll ps (⟨a ++ B, a.length⟩ :: G) t, t, t, [], none⟩ : Dsk).read xn 0 (s.length : Int) = (s, 0) ∧ ((⟨5000, fallAll ps (⟨a ++ B, a.length⟩ :: G) t, t, t, [], none⟩ : Dsk).size zn).2 = 6 := fun G t ht => by
    subst ht
    refine ⟨?_, ?_, rfl⟩
    · show ((fallF ⟨a ++ B, a.length⟩ (pickAt ps 0)).b.length, 0) = _
      rw [hs]
    · have e : (⟨5000, fallAll ps (⟨a ++ B, a.length⟩ :: G) [(xn, 0)], [(xn, 0)], [(xn, 0)], [], none⟩ : Dsk).read xn 0 (s.length : Int) = if (0 : Int) < 0 ∨ (s.length : Int) < 0 then ([], 1) else if (((fallF ⟨a ++ B, a.length⟩ (pickAt ps 0)).b.length : Nat) : Int) < 0 + (s.length : Int) then ([], 3) else (((fallF ⟨a ++ B, a.length⟩ (pickAt ps 0)).b.drop 0).take (s.length : Int).toNat, 0) := rfl
      rw [e, hs, if_neg (by omega), if_neg (by omega)]
      simp
  have two : ∀ (f : Fil) (nm : ByteArray) (t : Tbl), t = [(xn, 0), (nm, 1)] → (⟨5000, fallAll ps [⟨a ++ B, a.length⟩, f] t, t, t, [], none⟩ : Dsk).size xn = (s.length, 0) ∧ (⟨5000, fallAll ps [⟨a ++ B, a.length⟩, f] t, t, t, [], none⟩ : Dsk).read xn 0 (s.length : Int) = (s, 0) := fun f nm t ht => by
    subst ht
    refine ⟨?_, ?_⟩
    · show ((fallF ⟨a ++ B, a.length⟩ (pickAt ps 0)).b.length, 0) = _
      rw [hs]
    · have e : (⟨5000, fallAll ps [⟨a ++ B, a.length⟩, f] [(xn, 0), (nm, 1)], [(xn, 0), (nm, 1)], [(xn, 0), (nm, 1)], [], none⟩ : Dsk).read xn 0 (s.length : Int) = if (0 : Int) < 0 ∨ (s.length : Int) < 0 then ([], 1) else if (((fallF ⟨a ++ B, a.length⟩ (pickAt ps 0)).b.length : Nat) : Int) < 0 + (s.length : Int) then ([], 3) else (((fallF ⟨a ++ B, a.length⟩ (pickAt ps 0)).b.drop 0).take (s.length : Int).toNat, 0) := rfl
      rw [e, hs, if_neg (by omega), if_neg (by omega)]
      simp
  rcases hd with ⟨rfl, rfl⟩ | ⟨f, rfl, rfl⟩ | ⟨rfl, rfl, hm⟩
  · have e : (([] : List Dd).take (clampN pn ([] : List Dd).length)).foldl turnT [(xn, 0)] = [(xn, 0)] := by simp
    obtain ⟨k1, k2, k3⟩ := one [] _ e
    exact ⟨s, k1, k2, h1, h2, h3, h4, .inl k3⟩
  · obtain ⟨q, hq⟩ : ∃ q, clampN pn ([⟨noName, yn, 1⟩] : List Dd).length = q := ⟨_, rfl⟩
    have hq1 : q ≤ 1 := by rw [← hq]; exact Nat.min_le_right _ _
    unfold Dsk.crash
    dsimp only
    rw [hq]
    match q, hq1 with
    | 0, _ =>
      obtain ⟨k1, k2, k3⟩ := one [f] ((([⟨noName, yn, 1⟩] : List Dd).take 0).foldl turnT [(xn, 0)]) rfl
      exact ⟨s, k1, k2, h1, h2, h3, h4, .inl k3⟩
    | 1, _ =>
      obtain ⟨k1, k2⟩ := two f yn ((([⟨noName, yn, 1⟩] : List Dd).take 1).foldl turnT [(xn, 0)]) (by kernel_rfl)
      exact ⟨s, k1, k2, h1, h2, h3, h4, .inl rfl⟩
  · obtain ⟨q, hq⟩ : ∃ q, clampN pn ([⟨noName, yn, 1⟩, ⟨yn, zn, 1⟩] : List Dd).length = q := ⟨_, rfl⟩
    have hq1 : q ≤ 2 := by rw [← hq]; exact Nat.min_le_right _ _
    have hq2 : q = 2 → 2 ≤ pn := fun e => clamp_2 (hq.trans e)
    unfold Dsk.crash
    dsimp only
    rw [hq]
    match q, hq1 with
    | 0, _ =>
      obtain ⟨k1, k2, k3⟩ := one [⟨c, c.length⟩] ((([⟨noName, yn, 1⟩, ⟨yn, zn, 1⟩] : List Dd).take 0).foldl turnT [(xn, 0)]) rfl
      exact ⟨s, k1, k2, h1, h2, h3, h4, .inl k3⟩
    | 1, _ =>
      obtain ⟨k1, k2⟩ := two ⟨c, c.length⟩ yn ((([⟨noName, yn, 1⟩, ⟨yn, zn, 1⟩] : List Dd).take 1).foldl turnT [(xn, 0)]) (by kernel_rfl)
      exact ⟨s, k1, k2, h1, h2, h3, h4, .inl rfl⟩
    | 2, _ =>
      obtain ⟨k1, k2⟩ := two ⟨c, c.length⟩ zn ((([⟨noName, yn, 1⟩, ⟨yn, zn, 1⟩] : List Dd).take 2).foldl turnT [(xn, 0)]) (by kernel_rfl)
      refine ⟨s, k1, k2, h1, h2, h3, h4, .inr ⟨?_, hm, hq2 rfl⟩⟩
      have e : (([⟨noName, yn, 1⟩, ⟨yn, zn, 1⟩] : List Dd).take 2).foldl turnT [(xn, 0)] = [(xn, 0), (zn, 1)] := by kernel_rfl
      rw [e]
      show ((fallF ⟨c, c.length⟩ (pickAt ps 1)).b.length, 0) = _
      rw [full_fall _ rfl]

end Go.Proofs.Ytnofabeajcdddaa
