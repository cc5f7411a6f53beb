/- DiskNil: the walk. -/
import Derived.Test.YtnofabeajcdddaaAlive
namespace Go.Proofs.Ytnofabeajcdddaa
open Go.RowKit Go.Cor

def N1 : Dsk := ((newD 1000).create an).1
theorem n1 : ((newD 1000).create an).1 = ⟨1000, [⟨[], 0⟩], [(an, 0)], [], [⟨noName, an, 0⟩], none⟩ := by rfl
theorem n2 (l : List UInt8) (hl : l.length ≤ 300) : (⟨1000, [⟨[], 0⟩], [(an, 0)], [], [⟨noName, an, 0⟩], none⟩ : Dsk).append an l = (⟨1000, [⟨l, 0⟩], [(an, 0)], [], [⟨noName, an, 0⟩], none⟩, 0) := by
  have h : (⟨1000, [⟨[], 0⟩], [(an, 0)], [], [⟨noName, an, 0⟩], none⟩ : Dsk).append an l = if 16777216 < 0 + l.length then (_, 2) else if 1000 < 0 + l.length then (_, 11) else _ := rfl
  rw [h, if_neg (by omega), if_neg (by omega)]
  rfl
theorem n3 (l : List UInt8) : (⟨1000, [⟨l, 0⟩], [(an, 0)], [], [⟨noName, an, 0⟩], none⟩ : Dsk).read an 0 (l.length : Int) = (l, 0) := by
  have h : (⟨1000, [⟨l, 0⟩], [(an, 0)], [], [⟨noName, an, 0⟩], none⟩ : Dsk).read an 0 (l.length : Int) = if (0 : Int) < 0 ∨ (l.length : Int) < 0 then ([], 1) else if (l.length : Int) < 0 + (l.length : Int) then ([], 3) else ((l.drop 0).take (l.length : Int).toNat, 0) := rfl
  rw [h, if_neg (by omega), if_neg (by omega)]
  simp

theorem below_drewN {B : Nat} {a w : World} (h : Below B a w) (n : Nat) : Below B a (w.drewN n) := by
  induction n generalizing w with
  | zero => exact h
  | succ n ih => exact (ih h).drew

set_option maxRecDepth 100000 in
set_option maxHeartbeats 8000000 in
theorem diskNil_all (v : Value) (l : List UInt8) (w : World) (hv : IsB w v l) :
    Calls Try.prog 5 #[v] w fun e w' => e = .returned (.bool true) ∧ Below w.heap.size w w' := by
  obtain ⟨i0, hi, hz0, hz1, hz2⟩ := info_parts Try.infoU8
  obtain ⟨N, hN⟩ : ∃ N, l.length = N := ⟨_, rfl⟩
  have hlen := fun W => len_X (P := Try.prog) (isX_of_B hv) 37 3 _ Try.underlying37 W
  rw [hN] at hlen
  have HV := Lib.hid hv
  have HN := Lib.hid hN
  have HI := Lib.hid hi
  have HZ0 := Lib.hid hz0
  have HZ1 := Lib.hid hz1
  have HZ2 := Lib.hid hz2
  clear hv hN hi hz0 hz1 hz2
  by_cases h300 : 300 < N
  · have h300' : (300 : Int) < (N : Int) := by omega
    go_enter Try.func5, Try.ntmps5
    go_wp2_with fail
    refine (alive7_any _).mono ?_
    rintro e w1 ⟨rfl, hb⟩
    have HB := Lib.hid hb
    clear hb
    go_wp2
    go_ret
    exact ⟨rfl, HB.out⟩
  by_cases h0 : N = 0
  · subst h0
    have h300' : ¬ (300 : Int) < ((0 : Nat) : Int) := by omega
    go_enter Try.func5, Try.ntmps5
    go_wp2_with fail
    refine (alive7_any _).mono ?_
    rintro e w1 ⟨rfl, hb⟩
    have HB := Lib.hid hb
    clear hb
    go_wp2
    go_ret
    exact ⟨rfl, HB.out⟩
  have h300' : ¬ (300 : Int) < (N : Int) := by omega
  have h0' : ((N : Int) == 0) = false := by simp; omega
  go_enter Try.func5, Try.ntmps5
  go_wp2_with fail
  refine (alive7_any _).mono ?_
  rintro e w1 ⟨rfl, hb⟩
  have HB := Lib.hid hb
  clear hb
  go_wp2_with fail
  go_loopw [4] (fun c wr => ∃ k : Nat, k ≤ 12 ∧ c = .int .i64 k ∧ Hid (Below w.heap.size w wr)) (fun c _ => 12 - (intOf c).toNat)
  case atStart => exact ⟨0, by omega, rfl, HB⟩
  case round =>
    obtain ⟨k, hk, rfl, hB⟩ := hrel
    by_cases hlt : k < 12
    · go_wp2_with fail
      refine (do_nil k hlt _).mono ?_
      rintro e w2 ⟨rfl, hb⟩
      have HB2 := Lib.hid (hB.out.trans (hb.mono hB.out.size))
      clear hb
      go_wp2
      go_roundw
      case rel => exact ⟨k + 1, by omega, by go_num, HB2⟩
      case measure => simp [intOf]; omega
    · obtain rfl : k = 12 := by omega
      clear HB
      go_wp2_with fail
      refine (new_u 1000 _ (by decide)).mono ?_
      rintro e w2 ⟨p, rfl, hD, hp, hb⟩
      have HD2 := Lib.hid hD
      have HB2 := Lib.hid (hB.out.trans (hb.mono hB.out.size))
      have hpw : w.heap.size ≤ p := Nat.le_trans hB.out.size hp
      clear hD hb hp
      go_wp2_with fail
      refine (create_u _ p _ _ _ an HD2.out (by decide) (by decide)).mono ?_
      rintro e w3 ⟨rfl, ht⟩
      obtain ⟨S3, hD, hS, hb⟩ := ht.ge (B := w.heap.size) HB2.out.size (fun b e => by rw [e]; exact hpw)
      rw [n1] at hD
      have HD3 := Lib.hid hD
      have HS3 := Lib.hid hS
      have HB3 := Lib.hid (HB2.out.trans hb)
      clear ht hD hS hb
      go_wp2_with (at_builtin; refine wpList_append_X (by rfl) _ _ 37 37 rfl (fun _ _ _ => rfl) w3.heap.size 5 i0 _ 1 1 Try.underlying37 HI.out HZ0.out HZ1.out HZ2.out rfl (by decide) _ [] 0 rfl (World.ownsRow_lit _ #[] 0 (Nat.le_refl _) (Nat.zero_le _) rfl) v _ _ rfl (isX_of_B (HV.out.mono (HB3.out.alloc HB3.out.size _) (Nat.le_refl _))) (bvs_one l) (by unfold maxLen; rw [HN.out]; omega) (by rw [HN.out]; omega) (by simp) ?_)
      intro v4 w4 hown4 hgr4 hat4
      have hown4 : w4.ownsRow w3.heap.size 5 1 v4 N (bvs l) := by
        have h := hown4
        rw [HN.out] at h
        simpa using h
      have hB4' : Below w3.heap.size w3 w4 := ((Below.refl _ w3).alloc (Nat.le_refl _) _).grown hgr4 (by simp) (fun k hk => by
        have : some w3.heap.size = some k := hk
        cases this
        exact Nat.le_refl _)
      have HD4 := Lib.hid (HD3.out.below hB4' (Nat.le_refl _))
      have HB4 := Lib.hid (HB3.out.trans (hB4'.mono HB3.out.size))
      have HO4 := Lib.hid hown4
      have HSL3 := Lib.hid HD3.out.lt
      clear hgr4 hat4 hB4' hown4 HD3
      go_wp2_with fail
      refine (append_u _ p _ _ _ an v4 l HD4.out (by decide) (IsB.own HO4.out HN.out.symm) (by rw [HN.out]; omega)).mono ?_
      rintro e w5 ⟨rfl, ht⟩
      rw [n2 l (by rw [HN.out]; omega)] at ht
      obtain ⟨S5, hD, hK, hS5⟩ := ht
      have HD5 := Lib.hid hD
      have HO5 := Lib.hid (ownsRow_kept HO4.out hK (fun b e e2 => by have := (HO4.out.lt b e).1; have := HSL3.out b e2; omega))
      have HB5 := Lib.hid (HB4.out.trans (hK.below (B := w.heap.size) HB4.out.size (fun b hb hs => by have := HS3.out b hs; omega)))
      have HN5 := Lib.hid (fun b (hb : S5 b) => show v4.ownBlock = some b → False from fun e => by
        have h1 := HO4.out.lt b e
        rcases hS5 b hb with h2 | h2
        · have := HSL3.out b h2; omega
        · omega)
      have HW5 := Lib.hid (fun b (hb : S5 b) => show w.heap.size ≤ b from by
        rcases hS5 b hb with h2 | h2
        · exact HS3.out b h2
        · have := HB4.out.size; omega)
      clear hD hK hS5 HO4 HD4
      have hY := HO5.out
      obtain ⟨g, hgo, hidx, hcells, hfree, hst⟩ := indexAt_own hY 37 _ Try.underlying37 Try.sizeU8b 0 (by omega)
      rw [show ((0 : Nat) : Int) = 0 from rfl, Nat.zero_mul] at hidx
      rw [Nat.zero_mul] at hcells
      have kb := hcells 0 (by decide)
      rw [Nat.add_zero, bvs_get (by rw [HN.out]; omega)] at kb
      have gbf := hfree 0
      have HD6 := Lib.hid (fun u => HD5.out.kept ((Kept.refl (fun j => j = g) w5).setCell (p := ⟨g, 0, none⟩) (.inl rfl) u) (fun b hb e => HN5.out b hb (by rw [e]; exact hgo)))
      have HB6 := Lib.hid (fun u => HB5.out.setCell (p := ⟨g, 0, none⟩) (by show w.heap.size ≤ g; have := (HO5.out.lt g hgo).1; have := HB3.out.size; omega) u)
      clear hY hcells hfree hst
      go_wp2_with fail
      refine (read_u _ p S5 _ _ an 0 (N : Int) (HD6.out _) (by decide) (by decide) (by omega) (by omega)).mono ?_
      rintro e w7 ⟨y, rfl, hown, hb⟩
      have hn3 := n3 l
      rw [HN.out] at hn3
      rw [hn3] at hown ⊢
      rw [cerr_0]
      have hown7 : w7.ownsRow _ 5 1 y l.length (bvs l) := hown
      rw [HN.out] at hown7
      have HO7 := Lib.hid hown7
      have HI7 := Lib.hid (IsB.own hown7 HN.out.symm)
      have HD7 := Lib.hid ((HD6.out _).below hb (Nat.le_refl _))
      have HB7 := Lib.hid ((HB6.out _).trans (hb.mono (HB6.out _).size))
      have HG7 := Lib.hid (fun b (hb2 : y.ownBlock = some b) => show S5 b → False from fun hs => by have h1 := (hown7.lt b hb2).1; have h2 := (HD6.out (.bool true)).lt b hs; simp at h1 h2; omega)
      clear hown hown7 hb hn3 kb gbf hidx
      go_wp2_with fail
      refine (code_nil _).mono ?_
      rintro e w8 ⟨rfl, rfl⟩
      go_wp2_with fail
      refine (same_yes y v l _ HI7.out (HV.out.mono HB7.out (Nat.le_refl _)) (by rw [HN.out]; omega)).mono ?_
      rintro e w8 ⟨rfl, nd, rfl⟩
      have hb8 : Below w7.heap.size w7 (w7.drewN nd) := below_drewN (Below.refl _ _) nd
      have HO8 := Lib.hid (ownsRow_below HO7.out hb8 (Nat.le_refl _))
      have HD8 := Lib.hid (HD7.out.below hb8 (Nat.le_refl _))
      have HB8 := Lib.hid (HB7.out.trans (hb8.mono HB7.out.size))
      generalize w7.drewN nd = w8 at HO8 HD8 HB8 hb8 ⊢
      have hY := HO8.out
      obtain ⟨g2, hgo2, hidx, hcells, hfree, hst⟩ := indexAt_own hY 37 _ Try.underlying37 Try.sizeU8b 0 (by omega)
      rw [show ((0 : Nat) : Int) = 0 from rfl, Nat.zero_mul] at hidx
      rw [Nat.zero_mul] at hcells
      have kb := hcells 0 (by decide)
      rw [Nat.add_zero, bvs_get (by rw [HN.out]; omega)] at kb
      have gbf := hfree 0
      have HD9 := Lib.hid (fun u => HD8.out.kept ((Kept.refl (fun j => j = g2) w8).setCell (p := ⟨g2, 0, none⟩) (.inl rfl) u) (fun b hb e => HG7.out b (by rw [e]; exact hgo2) hb))
      have HB9 := Lib.hid (fun u => HB8.out.setCell (p := ⟨g2, 0, none⟩) (by show w.heap.size ≤ g2; have h1 := (HO7.out.lt g2 hgo2).1; have := HB5.out.size; simp at h1; omega) u)
      clear hY hcells hfree hst hb8
      go_wp2_with fail
      refine (read_u _ p S5 _ _ an 0 (N : Int) (HD9.out _) (by decide) (by decide) (by omega) (by omega)).mono ?_
      rintro e w9 ⟨z, rfl, hown, hb⟩
      have hn3 := n3 l
      rw [HN.out] at hn3
      rw [hn3] at hown ⊢
      rw [cerr_0]
      have hown9 : w9.ownsRow _ 5 1 z l.length (bvs l) := hown
      have HI9 := Lib.hid (IsB.own hown9 rfl)
      have HB10 := Lib.hid ((HB9.out _).trans (hb.mono (HB9.out _).size))
      clear hown hown9 hb hn3 kb gbf hidx
      go_wp2_with fail
      refine (same_yes z v l _ HI9.out (HV.out.mono HB10.out (Nat.le_refl _)) (by rw [HN.out]; omega)).mono ?_
      rintro e w10 ⟨rfl, nd2, rfl⟩
      have HB11 := Lib.hid (below_drewN HB10.out nd2)
      go_wp2_with fail
      refine (names_nil _).mono ?_
      rintro e w11 ⟨rfl, rfl⟩
      go_wp2_with fail
      refine (used_nil _).mono ?_
      rintro e w12 ⟨rfl, rfl⟩
      go_wp2_with fail
      refine (down_nil _).mono ?_
      rintro e w13 ⟨rfl, rfl⟩
      go_wp2
      go_ret
      exact ⟨rfl, HB11.out⟩

end Go.Proofs.Ytnofabeajcdddaa
