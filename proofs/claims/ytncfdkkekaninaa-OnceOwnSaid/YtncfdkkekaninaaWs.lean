/- Package wire by contracts: Same and Reply. -/
import Derived.Test.YtncfdkkekaninaaWn
import Derived.Test.YtncfdkkekaninaaRef14e
set_option linter.unusedVariables false
set_option linter.unusedSimpArgs false
namespace Go.Proofs.Ytncfdkkekaninaa
open Go.RowKit Go.Cor

set_option maxRecDepth 100000 in
set_option maxHeartbeats 4000000 in
theorem wsame_v0 (a b : Msg) (va vb : Value) (w : World) (ha : IsB w va a.n.data) (hb : IsB w vb b.n.data) :
    Calls Try.prog 18 #[mval a va, mval b vb] w fun e w' => e = .returned (.bool (sameM a b)) ∧ Below w.heap.size w w' := by
  obtain ⟨fr1, tt1, kd1, vo1, li1, id1, co1, has1, n1⟩ := a
  obtain ⟨fr2, tt2, kd2, vo2, li2, id2, co2, has2, n2⟩ := b
  dsimp only at ha hb
  have HSM := Lib.hid (fun wx (hx : Below w.heap.size w wx) => nsame_any n1 n2 va vb wx (ha.mono hx (Nat.le_refl _)) (hb.mono hx (Nat.le_refl _)))
  obtain ⟨B, hB⟩ : ∃ B, sameN n1 n2 = B := ⟨_, rfl⟩
  rw [hB] at HSM
  have HN := Lib.hid hB
  obtain ⟨key1, cookie1, gone1, data1⟩ := n1
  obtain ⟨key2, cookie2, gone2, data2⟩ := n2
  obtain ⟨L1, hL1⟩ : ∃ L, data1.length = L := ⟨_, rfl⟩
  obtain ⟨L2, hL2⟩ : ∃ L, data2.length = L := ⟨_, rfl⟩
  obtain ⟨x1, k1, rfl, _, _⟩ := ha.at_len hL1
  obtain ⟨x2, k2, rfl, _, _⟩ := hb.at_len hL2
  clear ha hb hB hL1 hL2
  by_cases c0 : fr1 = fr2
  case neg =>
    have hs : ∀ n1 n2, sameM ⟨fr1, tt1, kd1, vo1, li1, id1, co1, has1, n1⟩ ⟨fr2, tt2, kd2, vo2, li2, id2, co2, has2, n2⟩ = false := fun n1 n2 => by unfold sameM; simp [c0]
    have HB := Lib.hid (((Below.refl w.heap.size w).alloc (Nat.le_refl _) (.cells #[.int .i64 fr1, .int .i64 tt1, .int .i64 kd1, .int .i64 vo1, .int .i64 li1, .int .u64 (id1 : Int), .int .i64 co1, .bool has1, .int .u64 (key1 : Int), .int .u32 (cookie1 : Int), .bool gone1, .slice x1 L1 k1] 42)).alloc (by simp) (.cells #[.int .i64 fr2, .int .i64 tt2, .int .i64 kd2, .int .i64 vo2, .int .i64 li2, .int .u64 (id2 : Int), .int .i64 co2, .bool has2, .int .u64 (key2 : Int), .int .u32 (cookie2 : Int), .bool gone2, .slice x2 L2 k2] 42))
    have q2 : (fr1 == fr2) = false := beq_eq_false_iff_ne.2 c0
    have HS := Lib.hid hs
    clear hs
    go_enter Try.func18, Try.ntmps18
    go_wp2
    go_ret
    exact ⟨by rw [HS.out]; rfl, HB.out⟩
  subst c0
  by_cases c1 : tt1 = tt2
  case neg =>
    have hs : ∀ n1 n2, sameM ⟨fr1, tt1, kd1, vo1, li1, id1, co1, has1, n1⟩ ⟨fr1, tt2, kd2, vo2, li2, id2, co2, has2, n2⟩ = false := fun n1 n2 => by unfold sameM; simp [c1]
    have HB := Lib.hid (((Below.refl w.heap.size w).alloc (Nat.le_refl _) (.cells #[.int .i64 fr1, .int .i64 tt1, .int .i64 kd1, .int .i64 vo1, .int .i64 li1, .int .u64 (id1 : Int), .int .i64 co1, .bool has1, .int .u64 (key1 : Int), .int .u32 (cookie1 : Int), .bool gone1, .slice x1 L1 k1] 42)).alloc (by simp) (.cells #[.int .i64 fr1, .int .i64 tt2, .int .i64 kd2, .int .i64 vo2, .int .i64 li2, .int .u64 (id2 : Int), .int .i64 co2, .bool has2, .int .u64 (key2 : Int), .int .u32 (cookie2 : Int), .bool gone2, .slice x2 L2 k2] 42))
    have q2 : (tt1 == tt2) = false := beq_eq_false_iff_ne.2 c1
    have HS := Lib.hid hs
    clear hs
    go_enter Try.func18, Try.ntmps18
    go_wp2
    go_ret
    exact ⟨by rw [HS.out]; rfl, HB.out⟩
  subst c1
  by_cases c2 : kd1 = kd2
  case neg =>
    have hs : ∀ n1 n2, sameM ⟨fr1, tt1, kd1, vo1, li1, id1, co1, has1, n1⟩ ⟨fr1, tt1, kd2, vo2, li2, id2, co2, has2, n2⟩ = false := fun n1 n2 => by unfold sameM; simp [c2]
    have HB := Lib.hid (((Below.refl w.heap.size w).alloc (Nat.le_refl _) (.cells #[.int .i64 fr1, .int .i64 tt1, .int .i64 kd1, .int .i64 vo1, .int .i64 li1, .int .u64 (id1 : Int), .int .i64 co1, .bool has1, .int .u64 (key1 : Int), .int .u32 (cookie1 : Int), .bool gone1, .slice x1 L1 k1] 42)).alloc (by simp) (.cells #[.int .i64 fr1, .int .i64 tt1, .int .i64 kd2, .int .i64 vo2, .int .i64 li2, .int .u64 (id2 : Int), .int .i64 co2, .bool has2, .int .u64 (key2 : Int), .int .u32 (cookie2 : Int), .bool gone2, .slice x2 L2 k2] 42))
    have q2 : (kd1 == kd2) = false := beq_eq_false_iff_ne.2 c2
    have HS := Lib.hid hs
    clear hs
    go_enter Try.func18, Try.ntmps18
    go_wp2
    go_ret
    exact ⟨by rw [HS.out]; rfl, HB.out⟩
  subst c2
  by_cases c3 : vo1 = vo2
  case neg =>
    have hs : ∀ n1 n2, sameM ⟨fr1, tt1, kd1, vo1, li1, id1, co1, has1, n1⟩ ⟨fr1, tt1, kd1, vo2, li2, id2, co2, has2, n2⟩ = false := fun n1 n2 => by unfold sameM; simp [c3]
    have HB := Lib.hid (((Below.refl w.heap.size w).alloc (Nat.le_refl _) (.cells #[.int .i64 fr1, .int .i64 tt1, .int .i64 kd1, .int .i64 vo1, .int .i64 li1, .int .u64 (id1 : Int), .int .i64 co1, .bool has1, .int .u64 (key1 : Int), .int .u32 (cookie1 : Int), .bool gone1, .slice x1 L1 k1] 42)).alloc (by simp) (.cells #[.int .i64 fr1, .int .i64 tt1, .int .i64 kd1, .int .i64 vo2, .int .i64 li2, .int .u64 (id2 : Int), .int .i64 co2, .bool has2, .int .u64 (key2 : Int), .int .u32 (cookie2 : Int), .bool gone2, .slice x2 L2 k2] 42))
    have q2 : (vo1 == vo2) = false := beq_eq_false_iff_ne.2 c3
    have HS := Lib.hid hs
    clear hs
    go_enter Try.func18, Try.ntmps18
    go_wp2
    go_ret
    exact ⟨by rw [HS.out]; rfl, HB.out⟩
  subst c3
  by_cases c4 : li1 = li2
  case neg =>
    have hs : ∀ n1 n2, sameM ⟨fr1, tt1, kd1, vo1, li1, id1, co1, has1, n1⟩ ⟨fr1, tt1, kd1, vo1, li2, id2, co2, has2, n2⟩ = false := fun n1 n2 => by unfold sameM; simp [c4]
    have HB := Lib.hid (((Below.refl w.heap.size w).alloc (Nat.le_refl _) (.cells #[.int .i64 fr1, .int .i64 tt1, .int .i64 kd1, .int .i64 vo1, .int .i64 li1, .int .u64 (id1 : Int), .int .i64 co1, .bool has1, .int .u64 (key1 : Int), .int .u32 (cookie1 : Int), .bool gone1, .slice x1 L1 k1] 42)).alloc (by simp) (.cells #[.int .i64 fr1, .int .i64 tt1, .int .i64 kd1, .int .i64 vo1, .int .i64 li2, .int .u64 (id2 : Int), .int .i64 co2, .bool has2, .int .u64 (key2 : Int), .int .u32 (cookie2 : Int), .bool gone2, .slice x2 L2 k2] 42))
    have q2 : (li1 == li2) = false := beq_eq_false_iff_ne.2 c4
    have HS := Lib.hid hs
    clear hs
    go_enter Try.func18, Try.ntmps18
    go_wp2
    go_ret
    exact ⟨by rw [HS.out]; rfl, HB.out⟩
  subst c4
  by_cases c5 : id1 = id2
  case neg =>
    have hs : ∀ n1 n2, sameM ⟨fr1, tt1, kd1, vo1, li1, id1, co1, has1, n1⟩ ⟨fr1, tt1, kd1, vo1, li1, id2, co2, has2, n2⟩ = false := fun n1 n2 => by unfold sameM; simp [c5]
    have HB := Lib.hid (((Below.refl w.heap.size w).alloc (Nat.le_refl _) (.cells #[.int .i64 fr1, .int .i64 tt1, .int .i64 kd1, .int .i64 vo1, .int .i64 li1, .int .u64 (id1 : Int), .int .i64 co1, .bool has1, .int .u64 (key1 : Int), .int .u32 (cookie1 : Int), .bool gone1, .slice x1 L1 k1] 42)).alloc (by simp) (.cells #[.int .i64 fr1, .int .i64 tt1, .int .i64 kd1, .int .i64 vo1, .int .i64 li1, .int .u64 (id2 : Int), .int .i64 co2, .bool has2, .int .u64 (key2 : Int), .int .u32 (cookie2 : Int), .bool gone2, .slice x2 L2 k2] 42))
    have q1 : ¬ (id1 : Int) = (id2 : Int) := by omega
    have q2 : ((id1 : Int) == (id2 : Int)) = false := beq_eq_false_iff_ne.2 q1
    have HS := Lib.hid hs
    clear hs
    go_enter Try.func18, Try.ntmps18
    go_wp2
    go_ret
    exact ⟨by rw [HS.out]; rfl, HB.out⟩
  subst c5
  by_cases c6 : co1 = co2
  case neg =>
    have hs : ∀ n1 n2, sameM ⟨fr1, tt1, kd1, vo1, li1, id1, co1, has1, n1⟩ ⟨fr1, tt1, kd1, vo1, li1, id1, co2, has2, n2⟩ = false := fun n1 n2 => by unfold sameM; simp [c6]
    have HB := Lib.hid (((Below.refl w.heap.size w).alloc (Nat.le_refl _) (.cells #[.int .i64 fr1, .int .i64 tt1, .int .i64 kd1, .int .i64 vo1, .int .i64 li1, .int .u64 (id1 : Int), .int .i64 co1, .bool has1, .int .u64 (key1 : Int), .int .u32 (cookie1 : Int), .bool gone1, .slice x1 L1 k1] 42)).alloc (by simp) (.cells #[.int .i64 fr1, .int .i64 tt1, .int .i64 kd1, .int .i64 vo1, .int .i64 li1, .int .u64 (id1 : Int), .int .i64 co2, .bool has2, .int .u64 (key2 : Int), .int .u32 (cookie2 : Int), .bool gone2, .slice x2 L2 k2] 42))
    have q2 : (co1 == co2) = false := beq_eq_false_iff_ne.2 c6
    have HS := Lib.hid hs
    clear hs
    go_enter Try.func18, Try.ntmps18
    go_wp2
    go_ret
    exact ⟨by rw [HS.out]; rfl, HB.out⟩
  subst c6
  by_cases c7 : has1 = has2
  case neg =>
    have hs : ∀ n1 n2, sameM ⟨fr1, tt1, kd1, vo1, li1, id1, co1, has1, n1⟩ ⟨fr1, tt1, kd1, vo1, li1, id1, co1, has2, n2⟩ = false := fun n1 n2 => by unfold sameM; simp [c7]
    have HB := Lib.hid (((Below.refl w.heap.size w).alloc (Nat.le_refl _) (.cells #[.int .i64 fr1, .int .i64 tt1, .int .i64 kd1, .int .i64 vo1, .int .i64 li1, .int .u64 (id1 : Int), .int .i64 co1, .bool has1, .int .u64 (key1 : Int), .int .u32 (cookie1 : Int), .bool gone1, .slice x1 L1 k1] 42)).alloc (by simp) (.cells #[.int .i64 fr1, .int .i64 tt1, .int .i64 kd1, .int .i64 vo1, .int .i64 li1, .int .u64 (id1 : Int), .int .i64 co1, .bool has2, .int .u64 (key2 : Int), .int .u32 (cookie2 : Int), .bool gone2, .slice x2 L2 k2] 42))
    have HS := Lib.hid hs
    clear hs
    cases has1 with
    | true =>
      cases has2 with
      | true => exact absurd rfl c7
      | false =>
        go_enter Try.func18, Try.ntmps18
        go_wp2
        go_ret
        exact ⟨by rw [HS.out]; rfl, HB.out⟩
    | false =>
      cases has2 with
      | false => exact absurd rfl c7
      | true =>
        go_enter Try.func18, Try.ntmps18
        go_wp2
        go_ret
        exact ⟨by rw [HS.out]; rfl, HB.out⟩
  subst c7
  have HB := Lib.hid (((Below.refl w.heap.size w).alloc (Nat.le_refl _) (.cells #[.int .i64 fr1, .int .i64 tt1, .int .i64 kd1, .int .i64 vo1, .int .i64 li1, .int .u64 (id1 : Int), .int .i64 co1, .bool has1, .int .u64 (key1 : Int), .int .u32 (cookie1 : Int), .bool gone1, .slice x1 L1 k1] 42)).alloc (by simp) (.cells #[.int .i64 fr1, .int .i64 tt1, .int .i64 kd1, .int .i64 vo1, .int .i64 li1, .int .u64 (id1 : Int), .int .i64 co1, .bool has1, .int .u64 (key2 : Int), .int .u32 (cookie2 : Int), .bool gone2, .slice x2 L2 k2] 42))
  have HS := Lib.hid (show sameM ⟨fr1, tt1, kd1, vo1, li1, id1, co1, has1, ⟨key1, cookie1, gone1, data1⟩⟩ ⟨fr1, tt1, kd1, vo1, li1, id1, co1, has1, ⟨key2, cookie2, gone2, data2⟩⟩ = B by unfold sameM; simp [HN.out])
  cases has1 with
  | true =>
    go_enter Try.func18, Try.ntmps18
    go_wp2_with fail
    refine (HSM.out _ HB.out).mono ?_
    rintro e w1 ⟨rfl, hb1⟩
    have HB1 := Lib.hid (HB.out.trans (hb1.mono HB.out.size))
    clear hb1
    go_wp2
    go_ret
    exact ⟨by rw [HS.out]; rfl, HB1.out⟩
  | false =>
    go_enter Try.func18, Try.ntmps18
    go_wp2_with fail
    refine (HSM.out _ HB.out).mono ?_
    rintro e w1 ⟨rfl, hb1⟩
    have HB1 := Lib.hid (HB.out.trans (hb1.mono HB.out.size))
    clear hb1
    go_wp2
    go_ret
    exact ⟨by rw [HS.out]; rfl, HB1.out⟩
theorem wsame_v (a b : Msg) (xa : Option Addr) (La ca : Nat) (xb : Option Addr) (Lb cb : Nat) (w : World) (ha : IsB w (.slice xa La ca) a.n.data) (hb : IsB w (.slice xb Lb cb) b.n.data) :
    Calls Try.prog 18 #[mval a (.slice xa La ca), mval b (.slice xb Lb cb)] w fun e w' => e = .returned (.bool (sameM a b)) ∧ Below w.heap.size w w' := wsame_v0 a b _ _ w ha hb
end Go.Proofs.Ytncfdkkekaninaa
