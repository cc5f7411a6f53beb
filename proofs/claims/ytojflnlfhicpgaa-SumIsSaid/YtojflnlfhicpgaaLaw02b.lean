/- The statements of layer 2 (sum): four bytes in a row. -/
import Derived.Test.YtojflnlfhicpgaaLaw02
namespace Go.Proofs.Ytojflnlfhicpgaa
open Go.RowKit Go.Cor

/-- b is l with the i first of the four bytes from k on turned by t's. -/
def Burst (l b : List UInt8) (k t i : Nat) : Prop :=
  b.length = l.length ∧ (∀ j, j < k ∨ k + i ≤ j → b.getD j 0 = l.getD j 0) ∧ ∀ j, j < i → b.getD (k + j) 0 = l.getD (k + j) 0 → t / 256 ^ j % 256 = 0
theorem Burst.start (l : List UInt8) (k t : Nat) : Burst l l k t 0 := ⟨rfl, fun _ _ => rfl, fun j h => by omega⟩
theorem getD_set (l : List UInt8) (i j : Nat) (z : UInt8) : (l.set i z).getD j 0 = if i = j ∧ j < l.length then z else l.getD j 0 := by
  simp only [List.getD_eq_getElem?_getD, List.getElem?_set]
  by_cases h : i = j
  · subst h
    by_cases h2 : i < l.length
    · simp [h2]
    · simp [h2]
  · simp [h]
theorem Burst.step {l b : List UInt8} {k t i : Nat} (h : Burst l b k t i) (hk : k + i < l.length) :
    ∃ z : UInt8, bits .xor .u8 (((b.getD (k + i) 0).toNat : Nat) : Int) (((t / 256 ^ i) % 256 : Nat) : Int) = (z.toNat : Int) ∧ Burst l (b.set (k + i) z) k t (i + 1) := by
  obtain ⟨h1, h2, h3⟩ := h
  have hy := (b.getD (k + i) 0).toNat_lt
  have hx : (b.getD (k + i) 0).toNat ^^^ (t / 256 ^ i % 256) < 256 := Nat.xor_lt_two_pow (n := 8) hy (Nat.mod_lt _ (by decide))
  refine ⟨UInt8.ofNat ((b.getD (k + i) 0).toNat ^^^ (t / 256 ^ i % 256)), ?_, by rw [List.length_set, h1], fun j hj => ?_, fun j hj hjj => ?_⟩
  · rw [UInt8.toNat_ofNat', Nat.mod_eq_of_lt hx]
    exact u8_xor_nat _ _ hy (Nat.mod_lt _ (by decide))
  · rw [getD_set, if_neg (by omega)]
    exact h2 j (by omega)
  · by_cases hji : j = i
    · subst hji
      rw [getD_set, if_pos ⟨rfl, by omega⟩, ← h2 (k + j) (by omega)] at hjj
      have e := congrArg UInt8.toNat hjj
      rw [UInt8.toNat_ofNat', Nat.mod_eq_of_lt hx] at e
      have e2 : (b.getD (k + j) 0).toNat ^^^ (t / 256 ^ j % 256) = (b.getD (k + j) 0).toNat ^^^ 0 := by rw [e, Nat.xor_zero]
      exact xor_cancel_left e2
    · rw [getD_set, if_neg (by omega)] at hjj
      exact h3 j (by omega) hjj
theorem ext_getD {l b : List UInt8} (h : l.length = b.length) (hh : ∀ j, j < l.length → l.getD j 0 = b.getD j 0) : l = b := by
  apply List.ext_getElem h
  intro j h1 h2
  have := hh j h1
  rw [List.getD_eq_getElem?_getD, List.getD_eq_getElem?_getD, List.getElem?_eq_getElem h1, List.getElem?_eq_getElem h2] at this
  exact this
theorem getD_take (l : List UInt8) (k j : Nat) (h : j < k) : (l.take k).getD j 0 = l.getD j 0 := by
  simp only [List.getD_eq_getElem?_getD, List.getElem?_take, if_pos h]
theorem getD_drop (l : List UInt8) (k j : Nat) : (l.drop k).getD j 0 = l.getD (k + j) 0 := by
  simp only [List.getD_eq_getElem?_getD, List.getElem?_drop]
theorem Burst.unlike {l b : List UInt8} {k t : Nat} (h : Burst l b k t 4) (hk : k + 4 ≤ l.length) (ht : t ≠ 0) (ht2 : t < 4294967296) : crc l ≠ crc b := by
  obtain ⟨h1, h2, h3⟩ := h
  intro hc
  have s1 : l = l.take k ++ (l.drop k).take 4 ++ l.drop (k + 4) := by
    rw [List.append_assoc, ← List.drop_drop, List.take_append_drop, List.take_append_drop]
  have s2 : b = l.take k ++ (b.drop k).take 4 ++ l.drop (k + 4) := by
    have e1 : l.take k = b.take k := ext_getD (by simp; omega) fun j hj => by
      have : j < k := by simp at hj; omega
      rw [getD_take _ _ _ this, getD_take _ _ _ this, h2 j (by omega)]
    have e2 : l.drop (k + 4) = b.drop (k + 4) := ext_getD (by simp; omega) fun j hj => by
      rw [getD_drop, getD_drop, h2 _ (by omega)]
    rw [e1, e2, List.append_assoc, ← List.drop_drop, List.take_append_drop, List.take_append_drop]
  rw [s1] at hc
  conv at hc => rhs; rw [s2]
  have e := crc_burst _ _ _ _ (by simp; omega) (by simp; omega) hc
  have g : ∀ j, j < 4 → t / 256 ^ j % 256 = 0 := fun j hj => h3 j hj (by
    have := congrArg (fun x : List UInt8 => x.getD j 0) e
    simp only [getD_take _ _ _ hj, getD_drop] at this
    exact this.symm)
  have g0 := g 0 (by decide)
  have g1 := g 1 (by decide)
  have g2 := g 2 (by decide)
  have g3 := g 3 (by decide)
  simp at g0 g1 g2 g3
  omega

set_option maxRecDepth 100000 in
set_option maxHeartbeats 800000 in
theorem sumBursts_any (v : Value) (l : List UInt8) (a t : Nat) (w : World) (hv : IsB w v l) (ha : a < 65536) (ht0 : t ≠ 0) (ht : t < 4294967296) (hl : l.length ≤ 2000) (hl4 : 4 ≤ l.length) :
    Calls Try.prog 6 #[v, .int .u16 a, .int .u32 t] w fun e w' => e = .returned (.bool true) ∧ Below w.heap.size w w' := by
  obtain ⟨i0, hi, hz0, hz1, hz2⟩ := info_parts Try.infoU8
  have HV := Lib.hid hv
  obtain ⟨n, hn⟩ : ∃ n : Nat, l.length = n + 3 := ⟨l.length - 3, by omega⟩
  obtain ⟨x, cap, rfl, hlc, hcm⟩ := hv.at_len hn
  clear hv
  have hn1 : 1 ≤ n := by omega
  have hn2 : n ≤ 1997 := by omega
  obtain ⟨k, hk⟩ : ∃ k : Nat, k = a % n := ⟨_, rfl⟩
  have hkn : k < n := by rw [hk]; exact Nat.mod_lt _ (by omega)
  have hkk : (a : Int) % (n : Int) = (k : Int) := by rw [hk]; simp
  have HN := Lib.hid hn
  have htz : ((t : Int) == 0) = false := by simpa using ht0
  clear hn hk hl hl4 ht0
  go_enter Try.func6, Try.ntmps6
  go_wp2_with fail
  refine (alive2_any _).mono ?_
  rintro e w1 ⟨rfl, hb1⟩
  have HV1 := Lib.hid ((HV.out.mono hb1 (Nat.le_refl _)).mono ((Below.refl w1.heap.size w1).alloc (Nat.le_refl _) (.cells #[] 5)) (Nat.le_refl _))
  go_wp2_with (at_builtin; refine wpList_append_B (by rfl) _ _ 22 rfl w1.heap.size 5 i0 Try.underlying22 hi hz0 hz1 hz2 _ [] 0 rfl (World.ownsRow_lit _ #[] 0 (Nat.le_refl _) (Nat.zero_le _) rfl) rfl _ l rfl HV1.out (by rw [HN.out]; simp; omega) (by simp) ?_; intro v4 w4 hown4 hb4)
  rw [List.nil_append] at hown4
  obtain ⟨g, cap4, rfl, hg1⟩ : ∃ g cap4, v4 = .slice (some ⟨g, 0, none⟩) (n + 3) cap4 ∧ w1.heap.size ≤ g := by
    rw [HN.out] at hown4
    rcases hown4.2 with ⟨_, h0⟩ | ⟨g, cap4, cur, rfl, h1, _⟩
    · omega
    · exact ⟨g, cap4, rfl, h1⟩
  have hbe : Below w.heap.size w w4 := hb1.trans ((((Below.refl _ _).alloc (Nat.le_refl _) _).trans hb4).mono hb1.size)
  have hg : w.heap.size ≤ g := Nat.le_trans hb1.size hg1
  have HO4 := Lib.hid hown4
  rw [HN.out] at HO4
  clear hown4 hb4
  go_loopw [9] (fun c wr => ∃ (i : Nat) (b : List UInt8), i ≤ 4 ∧ c = .int .i64 i ∧ Hid (Burst l b k t i) ∧ Hid (wr.ownsRow w1.heap.size 5 1 (.slice (some ⟨g, 0, none⟩) (n + 3) cap4) (n + 3) (bvs b)) ∧ Below w.heap.size w wr) (fun c _ => 4 - (intOf c).toNat)
  case atStart => exact ⟨0, l, by omega, rfl, Burst.start l k t, HO4.out, hbe⟩
  case round =>
    obtain ⟨i, b, hi4, rfl, hB, hO, hbr⟩ := hrel
    by_cases hlt : i < 4
    · obtain ⟨z, hz, hst⟩ := hB.out.step (by rw [HN.out]; omega)
      have hcell : wr.cell? ⟨g, k + i, none⟩ = some (.int .u8 (((b.getD (k + i) 0).toNat : Nat) : Int)) := by rw [hO.out.cellAt (k + i) (by omega), bvs_get (by rw [hB.out.1, HN.out]; omega)]
      have hfroz := hO.out.frozenAt (k + i)
      obtain ⟨y, hy⟩ : ∃ y : Nat, y = (b.getD (k + i) 0).toNat := ⟨_, rfl⟩
      rw [← hy] at hz hcell
      have HZ := Lib.hid hz
      have HST := Lib.hid hst
      have hy8 : y < 256 := by rw [hy]; exact UInt8.toNat_lt _
      clear hz hst hy
      go_wp2_with fail
      have he : (t : Int) / 2 ^ (8 * i) % 256 = ((t / 256 ^ i % 256 : Nat) : Int) := by
        have h1 : (2 : Nat) ^ (8 * i) = 256 ^ i := by rw [Nat.pow_mul]
        have h2 : ((2 : Int) ^ (8 * i)) = ((256 ^ i : Nat) : Int) := by rw [← h1]; simp
        rw [h2, ← Int.natCast_ediv]
        omega
      rw [he, HZ.out]
      have hO5 := (hO.out.stored (k + i) (.int .u8 (z.toNat : Int))).1
      rw [bvs_set] at hO5
      have hb5 : Below w.heap.size w (wr.setCell ⟨g, k + i, none⟩ (.int .u8 (z.toNat : Int))) := hbr.setCell hg _
      refine ⟨⟨i + 1, b.set (k + i) z, by omega, by go_num, HST.out, hO5, hb5⟩, ?_⟩
      simp [intOf]
      omega
    · obtain rfl : i = 4 := by omega
      have hne := hB.out.unlike (by rw [HN.out]; omega) (by intro h; subst h; simp at htz) ht
      obtain ⟨c1, hc1⟩ : ∃ c1 : Nat, c1 = crc l := ⟨_, rfl⟩
      obtain ⟨c2, hc2⟩ : ∃ c2 : Nat, c2 = crc b := ⟨_, rfl⟩
      have hbb : ((c1 : Int) != (c2 : Int)) = true := by rw [bne_iff_ne]; omega
      have H1 := Lib.hid hc1
      have H2 := Lib.hid hc2
      clear hne hc1 hc2
      go_wp2_with fail
      refine (of_any _ l _ (HV.out.mono hbr (Nat.le_refl _)) (by rw [HN.out]; omega)).mono ?_
      rintro e w5 ⟨rfl, rfl⟩
      rw [← H1.out]
      go_wp2_with fail
      refine (of_any _ b _ (IsB.own hO.out (by rw [hB.out.1, HN.out])) (by rw [hB.out.1, HN.out]; omega)).mono ?_
      rintro e w5 ⟨rfl, rfl⟩
      rw [← H2.out]
      go_wp2
      go_ret
      exact ⟨rfl, hbr⟩

theorem sumBursts_out (v : Value) (l : List UInt8) (a t : Nat) (w : World) (hv : IsB w v l) (ht : t < 4294967296) (h : l.length < 4 ∨ 2000 < l.length ∨ t = 0) :
    Calls Try.prog 6 #[v, .int .u16 a, .int .u32 t] w fun e w' => e = .returned (.bool true) ∧ Below w.heap.size w w' := by
  obtain ⟨n, hn⟩ : ∃ n : Nat, l.length = n := ⟨_, rfl⟩
  obtain ⟨x, cap, rfl, hlc, hcm⟩ := hv.at_len hn
  unfold maxLen at hcm
  rw [hn] at h
  clear hv hn
  by_cases h4 : n < 4
  · clear h
    go_enter Try.func6, Try.ntmps6
    go_wp2_with (go_at_call 7; refine (alive2_any _).mono ?_; rintro e w1 ⟨rfl, hb1⟩)
    go_ret
    exact ⟨rfl, hb1⟩
  by_cases h2 : 2000 < n
  · clear h
    go_enter Try.func6, Try.ntmps6
    go_wp2_with (go_at_call 7; refine (alive2_any _).mono ?_; rintro e w1 ⟨rfl, hb1⟩)
    go_ret
    exact ⟨rfl, hb1⟩
  obtain rfl : t = 0 := by omega
  clear h
  go_enter Try.func6, Try.ntmps6
  go_wp2_with (go_at_call 7; refine (alive2_any _).mono ?_; rintro e w1 ⟨rfl, hb1⟩)
  go_ret
  exact ⟨rfl, hb1⟩

theorem sumBursts_all (v : Value) (l : List UInt8) (a t : Nat) (w : World) (hv : IsB w v l) (ha : a < 65536) (ht : t < 4294967296) :
    Calls Try.prog 6 #[v, .int .u16 a, .int .u32 t] w fun e w' => e = .returned (.bool true) ∧ Below w.heap.size w w' := by
  by_cases h : l.length < 4 ∨ 2000 < l.length ∨ t = 0
  · exact sumBursts_out v l a t w hv ht h
  · exact sumBursts_any v l a t w hv ha (by omega) ht (by omega) (by omega)

theorem sumTells_all (v : Value) (l : List UInt8) (a : Nat) (w : World) (hv : IsB w v l) (ha : a < 65536) :
    Calls Try.prog 4 #[v, .int .u16 a] w fun e w' => e = .returned (.bool true) ∧ Below w.heap.size w w' := by
  by_cases h : l.length ≤ 1000
  · exact sumTells_any v l a w hv ha h
  obtain ⟨n, hn⟩ : ∃ n : Nat, l.length = n := ⟨_, rfl⟩
  obtain ⟨x, cap, rfl, hlc, hcm⟩ := hv.at_len hn
  unfold maxLen at hcm
  rw [hn] at h
  clear hv hn
  go_enter Try.func4, Try.ntmps4
  go_wp2_with (go_at_call 7; refine (alive2_any _).mono ?_; rintro e w1 ⟨rfl, hb1⟩)
  go_ret
  exact ⟨rfl, hb1⟩

end Go.Proofs.Ytojflnlfhicpgaa

