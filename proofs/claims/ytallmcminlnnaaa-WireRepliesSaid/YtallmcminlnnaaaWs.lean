/- Package wire by contracts: Same and Reply. -/
import Derived.Test.YtallmcminlnnaaaWn
import Derived.Test.YtallmcminlnnaaaRef14e
set_option linter.unusedVariables false
set_option linter.unusedSimpArgs false
namespace Go.Proofs.Ytallmcminlnnaaa
open Go.RowKit Go.Cor

set_option maxRecDepth 100000 in
set_option maxHeartbeats 4000000 in
theorem wsame_v0 (a b : Msg) (va vb : Value) (w : World) (ha : IsB w va a.n.data) (hb : IsB w vb b.n.data) :
    Calls Try.prog 16 #[mval a va, mval b vb] w fun e w' => e = .returned (.bool (sameM a b)) ∧ Below w.heap.size w w' := by
  obtain ⟨fr1, tt1, kd1, vo1, li1, id1, co1, has1, n1⟩ := a
  obtain ⟨fr2, tt2, kd2, vo2, li2, id2, co2, has2, n2⟩ := b
  dsimp only at ha hb
  have HSM := Lib.hid (fun wx (hx : Below w.heap.size w wx) => nsame_any n1 n2 va vb wx (ha.mono hx (Nat.le_refl _)) (hb.mono hx (Nat.le_refl _)))
  obtain ⟨B, hB⟩ : ∃ B, sameN n1 n2 = B := ⟨_, rfl⟩
  rw [hB] at HSM
  have HN := Lib.hid hB
  obtain ⟨key1, cookie1, gone1, data1⟩ := n1
  obtain ⟨key2, cookie2, gone2, data2⟩ := n2
  obtain ⟨L1, hL1⟩ : ∃ L, data1.length = L := ⟨_, rfl⟩
  obtain ⟨L2, hL2⟩ : ∃ L, data2.length = L := ⟨_, rfl⟩
  obtain ⟨x1, k1, rfl, _, _⟩ := ha.at_len hL1
  obtain ⟨x2, k2, rfl, _, _⟩ := hb.at_len hL2
  clear ha hb hB hL1 hL2
  by_cases c0 : fr1 = fr2
  case neg =>
    have hs : ∀ n1 n2, sameM ⟨fr1, tt1, kd1, vo1, li1, id1, co1, has1, n1⟩ ⟨fr2, tt2, kd2, vo2, li2, id2, co2, has2, n2⟩ = false := fun n1 n2 => by unfold sameM; simp [c0]
    have HB := Lib.hid (((Below.refl w.heap.size w).alloc (Nat.le_refl _) (.cells #[.int .i64 fr1, .int .i64 tt1, .int .i64 kd1, .int .i64 vo1, .int .i64 li1, .int .u64 (id1 : Int), .int .i64 co1, .bool has1, .int .u64 (key1 : Int), .int .u32 (cookie1 : Int), .bool gone1, .slice x1 L1 k1] 29)).alloc (by simp) (.cells #[.int .i64 fr2, .int .i64 tt2, .int .i64 kd2, .int .i64 vo2, .int .i64 li2, .int .u64 (id2 : Int), .int .i64 co2, .bool has2, .int .u64 (key2 : Int), .int .u32 (cookie2 : Int), .bool gone2, .slice x2 L2 k2] 29))
    have q2 : (fr1 == fr2) = false := beq_eq_false_iff_ne.2 c0
    have HS := Lib.hid hs
    clear hs
    go_enter Try.func16, Try.ntmps16
    go_wp2
    go_ret
    exact ⟨by rw [HS.out]; rfl, HB.out⟩
  subst c0
  by_cases c1 : tt1 = tt2
  case neg =>
    have hs : ∀ n1 n2, sameM ⟨fr1, tt1, kd1, vo1, li1, id1, co1, has1, n1⟩ ⟨fr1, tt2, kd2, vo2, li2, id2, co2, has2, n2⟩ = false := fun n1 n2 => by unfold sameM; simp [c1]
    have HB := Lib.hid (((Below.refl w.heap.size w).alloc (Nat.le_refl _) (.cells #[.int .i64 fr1, .int .i64 tt1, .int .i64 kd1, .int .i64 vo1, .int .i64 li1, .int .u64 (id1 : Int), .int .i64 co1, .bool has1, .int .u64 (key1 : Int), .int .u32 (cookie1 : Int), .bool gone1, .slice x1 L1 k1] 29)).alloc (by simp) (.cells #[.int .i64 fr1, .int .i64 tt2, .int .i64 kd2, .int .i64 vo2, .int .i64 li2, .int .u64 (id2 : Int), .int .i64 co2, .bool has2, .int .u64 (key2 : Int), .int .u32 (cookie2 : Int), .bool gone2, .slice x2 L2 k2] 29))
    have q2 : (tt1 == tt2) = false := beq_eq_false_iff_ne.2 c1
    have HS := Lib.hid hs
    clear hs
    go_enter Try.func16, Try.ntmps16
    go_wp2
    go_ret
    exact ⟨by rw [HS.out]; rfl, HB.out⟩
  subst c1
  by_cases c2 : kd1 = kd2
  case neg =>
    have hs : ∀ n1 n2, sameM ⟨fr1, tt1, kd1, vo1, li1, id1, co1, has1, n1⟩ ⟨fr1, tt1, kd2, vo2, li2, id2, co2, has2, n2⟩ = false := fun n1 n2 => by unfold sameM; simp [c2]
    have HB := Lib.hid (((Below.refl w.heap.size w).alloc (Nat.le_refl _) (.cells #[.int .i64 fr1, .int .i64 tt1, .int .i64 kd1, .int .i64 vo1, .int .i64 li1, .int .u64 (id1 : Int), .int .i64 co1, .bool has1, .int .u64 (key1 : Int), .int .u32 (cookie1 : Int), .bool gone1, .slice x1 L1 k1] 29)).alloc (by simp) (.cells #[.int .i64 fr1, .int .i64 tt1, .int .i64 kd2, .int .i64 vo2, .int .i64 li2, .int .u64 (id2 : Int), .int .i64 co2, .bool has2, .int .u64 (key2 : Int), .int .u32 (cookie2 : Int), .bool gone2, .slice x2 L2 k2] 29))
    have q2 : (kd1 == kd2) = false := beq_eq_false_iff_ne.2 c2
    have HS := Lib.hid hs
    clear hs
    go_enter Try.func16, Try.ntmps16
    go_wp2
    go_ret
    exact ⟨by rw [HS.out]; rfl, HB.out⟩
  subst c2
  by_cases c3 : vo1 = vo2
  case neg =>
    have hs : ∀ n1 n2, sameM ⟨fr1, tt1, kd1, vo1, li1, id1, co1, has1, n1⟩ ⟨fr1, tt1, kd1, vo2, li2, id2, co2, has2, n2⟩ = false := fun n1 n2 => by unfold sameM; simp [c3]
    have HB := Lib.hid (((Below.refl w.heap.size w).alloc (Nat.le_refl _) (.cells #[.int .i64 fr1, .int .i64 tt1, .int .i64 kd1, .int .i64 vo1, .int .i64 li1, .int .u64 (id1 : Int), .int .i64 co1, .bool has1, .int .u64 (key1 : Int), .int .u32 (cookie1 : Int), .bool gone1, .slice x1 L1 k1] 29)).alloc (by simp) (.cells #[.int .i64 fr1, .int .i64 tt1, .int .i64 kd1, .int .i64 vo2, .int .i64 li2, .int .u64 (id2 : Int), .int .i64 co2, .bool has2, .int .u64 (key2 : Int), .int .u32 (cookie2 : Int), .bool gone2, .slice x2 L2 k2] 29))
    have q2 : (vo1 == vo2) = false := beq_eq_false_iff_ne.2 c3
    have HS := Lib.hid hs
    clear hs
    go_enter Try.func16, Try.ntmps16
    go_wp2
    go_ret
    exact ⟨by rw [HS.out]; rfl, HB.out⟩
  subst c3
  by_cases c4 : li1 = li2
  case neg =>
    have hs : ∀ n1 n2, sameM ⟨fr1, tt1, kd1, vo1, li1, id1, co1, has1, n1⟩ ⟨fr1, tt1, kd1, vo1, li2, id2, co2, has2, n2⟩ = false := fun n1 n2 => by unfold sameM; simp [c4]
    have HB := Lib.hid (((Below.refl w.heap.size w).alloc (Nat.le_refl _) (.cells #[.int .i64 fr1, .int .i64 tt1, .int .i64 kd1, .int .i64 vo1, .int .i64 li1, .int .u64 (id1 : Int), .int .i64 co1, .bool has1, .int .u64 (key1 : Int), .int .u32 (cookie1 : Int), .bool gone1, .slice x1 L1 k1] 29)).alloc (by simp) (.cells #[.int .i64 fr1, .int .i64 tt1, .int .i64 kd1, .int .i64 vo1, .int .i64 li2, .int .u64 (id2 : Int), .int .i64 co2, .bool has2, .int .u64 (key2 : Int), .int .u32 (cookie2 : Int), .bool gone2, .slice x2 L2 k2] 29))
    have q2 : (li1 == li2) = false := beq_eq_false_iff_ne.2 c4
    have HS := Lib.hid hs
    clear hs
    go_enter Try.func16, Try.ntmps16
    go_wp2
    go_ret
    exact ⟨by rw [HS.out]; rfl, HB.out⟩
  subst c4
  by_cases c5 : id1 = id2
  case neg =>
    have hs : ∀ n1 n2, sameM ⟨fr1, tt1, kd1, vo1, li1, id1, co1, has1, n1⟩ ⟨fr1, tt1, kd1, vo1, li1, id2, co2, has2, n2⟩ = false := fun n1 n2 => by unfold sameM; simp [c5]
    have HB := Lib.hid (((Below.refl w.heap.size w).alloc (Nat.le_refl _) (.cells #[.int .i64 fr1, .int .i64 tt1, .int .i64 kd1, .int .i64 vo1, .int .i64 li1, .int .u64 (id1 : Int), .int .i64 co1, .bool has1, .int .u64 (key1 : Int), .int .u32 (cookie1 : Int), .bool gone1, .slice x1 L1 k1] 29)).alloc (by simp) (.cells #[.int .i64 fr1, .int .i64 tt1, .int .i64 kd1, .int .i64 vo1, .int .i64 li1, .int .u64 (id2 : Int), .int .i64 co2, .bool has2, .int .u64 (key2 : Int), .int .u32 (cookie2 : Int), .bool gone2, .slice x2 L2 k2] 29))
    have q1 : ¬ (id1 : Int) = (id2 : Int) := by omega
    have q2 : ((id1 : Int) == (id2 : Int)) = false := beq_eq_false_iff_ne.2 q1
    have HS := Lib.hid hs
    clear hs
    go_enter Try.func16, Try.ntmps16
    go_wp2
    go_ret
    exact ⟨by rw [HS.out]; rfl, HB.out⟩
  subst c5
  by_cases c6 : co1 = co2
  case neg =>
    have hs : ∀ n1 n2, sameM ⟨fr1, tt1, kd1, vo1, li1, id1, co1, has1, n1⟩ ⟨fr1, tt1, kd1, vo1, li1, id1, co2, has2, n2⟩ = false := fun n1 n2 => by unfold sameM; simp [c6]
    have HB := Lib.hid (((Below.refl w.heap.size w).alloc (Nat.le_refl _) (.cells #[.int .i64 fr1, .int .i64 tt1, .int .i64 kd1, .int .i64 vo1, .int .i64 li1, .int .u64 (id1 : Int), .int .i64 co1, .bool has1, .int .u64 (key1 : Int), .int .u32 (cookie1 : Int), .bool gone1, .slice x1 L1 k1] 29)).alloc (by simp) (.cells #[.int .i64 fr1, .int .i64 tt1, .int .i64 kd1, .int .i64 vo1, .int .i64 li1, .int .u64 (id1 : Int), .int .i64 co2, .bool has2, .int .u64 (key2 : Int), .int .u32 (cookie2 : Int), .bool gone2, .slice x2 L2 k2] 29))
    have q2 : (co1 == co2) = false := beq_eq_false_iff_ne.2 c6
    have HS := Lib.hid hs
    clear hs
    go_enter Try.func16, Try.ntmps16
    go_wp2
    go_ret
    exact ⟨by rw [HS.out]; rfl, HB.out⟩
  subst c6
  by_cases c7 : has1 = has2
  case neg =>
    have hs : ∀ n1 n2, sameM ⟨fr1, tt1, kd1, vo1, li1, id1, co1, has1, n1⟩ ⟨fr1, tt1, kd1, vo1, li1, id1, co1, has2, n2⟩ = false := fun n1 n2 => by unfold sameM; simp [c7]
    have HB := Lib.hid (((Below.refl w.heap.size w).alloc (Nat.le_refl _) (.cells #[.int .i64 fr1, .int .i64 tt1, .int .i64 kd1, .int .i64 vo1, .int .i64 li1, .int .u64 (id1 : Int), .int .i64 co1, .bool has1, .int .u64 (key1 : Int), .int .u32 (cookie1 : Int), .bool gone1, .slice x1 L1 k1] 29)).alloc (by simp) (.cells #[.int .i64 fr1, .int .i64 tt1, .int .i64 kd1, .int .i64 vo1, .int .i64 li1, .int .u64 (id1 : Int), .int .i64 co1, .bool has2, .int .u64 (key2 : Int), .int .u32 (cookie2 : Int), .bool gone2, .slice x2 L2 k2] 29))
    have HS := Lib.hid hs
    clear hs
    cases has1 with
    | true =>
      cases has2 with
      | true => exact absurd rfl c7
      | false =>
        go_enter Try.func16, Try.ntmps16
        go_wp2
        go_ret
        exact ⟨by rw [HS.out]; rfl, HB.out⟩
    | false =>
      cases has2 with
      | false => exact absurd rfl c7
      | true =>
        go_enter Try.func16, Try.ntmps16
        go_wp2
        go_ret
        exact ⟨by rw [HS.out]; rfl, HB.out⟩
  subst c7
  have HB := Lib.hid (((Below.refl w.heap.size w).alloc (Nat.le_refl _) (.cells #[.int .i64 fr1, .int .i64 tt1, .int .i64 kd1, .int .i64 vo1, .int .i64 li1, .int .u64 (id1 : Int), .int .i64 co1, .bool has1, .int .u64 (key1 : Int), .int .u32 (cookie1 : Int), .bool gone1, .slice x1 L1 k1] 29)).alloc (by simp) (.cells #[.int .i64 fr1, .int .i64 tt1, .int .i64 kd1, .int .i64 vo1, .int .i64 li1, .int .u64 (id1 : Int), .int .i64 co1, .bool has1, .int .u64 (key2 : Int), .int .u32 (cookie2 : Int), .bool gone2, .slice x2 L2 k2] 29))
  have HS := Lib.hid (show sameM ⟨fr1, tt1, kd1, vo1, li1, id1, co1, has1, ⟨key1, cookie1, gone1, data1⟩⟩ ⟨fr1, tt1, kd1, vo1, li1, id1, co1, has1, ⟨key2, cookie2, gone2, data2⟩⟩ = B by unfold sameM; simp [HN.out])
  cases has1 with
  | true =>
    go_enter Try.func16, Try.ntmps16
    go_wp2_with fail
    refine (HSM.out _ HB.out).mono ?_
    rintro e w1 ⟨rfl, hb1⟩
    have HB1 := Lib.hid (HB.out.trans (hb1.mono HB.out.size))
    clear hb1
    go_wp2
    go_ret
    exact ⟨by rw [HS.out]; rfl, HB1.out⟩
  | false =>
    go_enter Try.func16, Try.ntmps16
    go_wp2_with fail
    refine (HSM.out _ HB.out).mono ?_
    rintro e w1 ⟨rfl, hb1⟩
    have HB1 := Lib.hid (HB.out.trans (hb1.mono HB.out.size))
    clear hb1
    go_wp2
    go_ret
    exact ⟨by rw [HS.out]; rfl, HB1.out⟩
theorem wsame_v (a b : Msg) (xa : Option Addr) (La ca : Nat) (xb : Option Addr) (Lb cb : Nat) (w : World) (ha : IsB w (.slice xa La ca) a.n.data) (hb : IsB w (.slice xb Lb cb) b.n.data) :
    Calls Try.prog 16 #[mval a (.slice xa La ca), mval b (.slice xb Lb cb)] w fun e w' => e = .returned (.bool (sameM a b)) ∧ Below w.heap.size w w' := wsame_v0 a b _ _ w ha hb
set_option maxRecDepth 100000 in
set_option maxHeartbeats 2000000 in
theorem wreply_f (m : Msg) (x : Option Addr) (L c : Nat) (code : Int) (has : Bool) (n : Ndl) (y : Option Addr) (M k : Nat) (w : World) (hn : IsB w (.slice y M k) n.data) (hl : n.data.length ≤ 1099511627776) :
    Calls Try.prog 18 #[mval m (.slice x L c), .int .i64 code, .bool has, nval n (.slice y M k)] w fun e w' => ∃ z q, e = .returned (mval ⟨m.to, m.fr, 5, m.vo, m.li, m.id, code, has, n⟩ (.slice z M q)) ∧ IsB w' (.slice z M q) n.data ∧ (∀ b, liesB (.slice z M q) n.data b → w.heap.size ≤ b) ∧ Below w.heap.size w w' := by
  obtain ⟨fr, tt, kd, vo, li, id, co, hs, key, cookie, gone, data⟩ := m
  obtain ⟨nkey, nck, ngn, nd⟩ := n
  dsimp only at hn hl
  have hM : nd.length = M := by obtain ⟨a, cp, e, _⟩ := hn; cases e; rfl
  have hX := ((Blk.new w #[.int .i64 fr, .int .i64 tt, .int .i64 kd, .int .i64 vo, .int .i64 li, .int .u64 (id : Int), .int .i64 co, .bool hs, .int .u64 (key : Int), .int .u32 (cookie : Int), .bool gone, .slice x L c] 29).alloc (.cells #[.int .u64 (nkey : Int), .int .u32 (nck : Int), .bool ngn, .slice y M k] 27)).alloc (.cells #[.int .i64 0, .int .i64 0, .int .i64 0, .int .i64 0, .int .i64 0, .int .u64 0, .int .i64 0, .bool false, .int .u64 0, .int .u32 0, .bool false, .slice none 0 0] 29)
  have hY := (Blk.new (w.alloc (.cells #[.int .i64 fr, .int .i64 tt, .int .i64 kd, .int .i64 vo, .int .i64 li, .int .u64 (id : Int), .int .i64 co, .bool hs, .int .u64 (key : Int), .int .u32 (cookie : Int), .bool gone, .slice x L c] 29)) #[.int .u64 (nkey : Int), .int .u32 (nck : Int), .bool ngn, .slice y M k] 27).alloc (.cells #[.int .i64 0, .int .i64 0, .int .i64 0, .int .i64 0, .int .i64 0, .int .u64 0, .int .i64 0, .bool false, .int .u64 0, .int .u32 0, .bool false, .slice none 0 0] 29)
  have hZ := Blk.new ((w.alloc (.cells #[.int .i64 fr, .int .i64 tt, .int .i64 kd, .int .i64 vo, .int .i64 li, .int .u64 (id : Int), .int .i64 co, .bool hs, .int .u64 (key : Int), .int .u32 (cookie : Int), .bool gone, .slice x L c] 29)).alloc (.cells #[.int .u64 (nkey : Int), .int .u32 (nck : Int), .bool ngn, .slice y M k] 27)) #[.int .i64 0, .int .i64 0, .int .i64 0, .int .i64 0, .int .i64 0, .int .u64 0, .int .i64 0, .bool false, .int .u64 0, .int .u32 0, .bool false, .slice none 0 0] 29
  rw [show (w.alloc (.cells #[.int .i64 fr, .int .i64 tt, .int .i64 kd, .int .i64 vo, .int .i64 li, .int .u64 (id : Int), .int .i64 co, .bool hs, .int .u64 (key : Int), .int .u32 (cookie : Int), .bool gone, .slice x L c] 29)).heap.size = w.heap.size + 1 by simp] at hY
  rw [show ((w.alloc (.cells #[.int .i64 fr, .int .i64 tt, .int .i64 kd, .int .i64 vo, .int .i64 li, .int .u64 (id : Int), .int .i64 co, .bool hs, .int .u64 (key : Int), .int .u32 (cookie : Int), .bool gone, .slice x L c] 29)).alloc (.cells #[.int .u64 (nkey : Int), .int .u32 (nck : Int), .bool ngn, .slice y M k] 27)).heap.size = w.heap.size + 1 + 1 by simp] at hZ
  have hB := (((Below.refl w.heap.size w).alloc (Nat.le_refl _) (.cells #[.int .i64 fr, .int .i64 tt, .int .i64 kd, .int .i64 vo, .int .i64 li, .int .u64 (id : Int), .int .i64 co, .bool hs, .int .u64 (key : Int), .int .u32 (cookie : Int), .bool gone, .slice x L c] 29)).alloc (by simp) (.cells #[.int .u64 (nkey : Int), .int .u32 (nck : Int), .bool ngn, .slice y M k] 27)).alloc (by simp; omega) (.cells #[.int .i64 0, .int .i64 0, .int .i64 0, .int .i64 0, .int .i64 0, .int .u64 0, .int .i64 0, .bool false, .int .u64 0, .int .u32 0, .bool false, .slice none 0 0] 29)
  have HC := Lib.hid (clone_S (.slice y M k) nd (((w.alloc (.cells #[.int .i64 fr, .int .i64 tt, .int .i64 kd, .int .i64 vo, .int .i64 li, .int .u64 (id : Int), .int .i64 co, .bool hs, .int .u64 (key : Int), .int .u32 (cookie : Int), .bool gone, .slice x L c] 29)).alloc (.cells #[.int .u64 (nkey : Int), .int .u32 (nck : Int), .bool ngn, .slice y M k] 27)).alloc (.cells #[.int .i64 0, .int .i64 0, .int .i64 0, .int .i64 0, .int .i64 0, .int .u64 0, .int .i64 0, .bool false, .int .u64 0, .int .u32 0, .bool false, .slice none 0 0] 29)) M (hn.mono hB (Nat.le_refl _)) hl hM)
  have HX := Lib.hid hX
  have HY := Lib.hid hY
  have HZ := Lib.hid hZ
  have HB := Lib.hid hB
  have HM := Lib.hid hM
  clear hn hl hM hX hY hZ hB
  go_enter Try.func18, Try.ntmps18
  go_wp2_with fail
  refine HC.out.mono ?_
  rintro e w4 ⟨z, q, rfl, hown, hb4⟩
  have hX4 := HX.out.below hb4 HX.out.lt
  have hY4 := HY.out.below hb4 HY.out.lt
  have hZ4 := HZ.out.below hb4 HZ.out.lt
  have hB4 := HB.out.trans (hb4.mono HB.out.size)
  have hI4 := IsB.own hown HM.out.symm
  have hlo : ∀ b, (Value.slice z M q).ownBlock = some b → w.heap.size + 1 + 1 + 1 ≤ b := fun b e => by have := (hown.lt b e).1; simpa using this
  have q3 := hY4.cell 3 rfl
  have qf := fun j => hY4.free j
  have hX5 := hX4.other (a := ⟨w.heap.size + 1, 3, none⟩) (by simp) (.slice z M q)
  have hY5 := hY4.set 3 (.slice z M q)
  simp at hY5
  have hZ5 := hZ4.other (a := ⟨w.heap.size + 1, 3, none⟩) (by simp) (.slice z M q)
  have hB5 := hB4.setCell (p := ⟨w.heap.size + 1, 3, none⟩) (by simp) (.slice z M q)
  have hI5 := hI4.kept ((Kept.refl (fun j => j = w.heap.size + 1) w4).setCell (p := ⟨w.heap.size + 1, 3, none⟩) (.inl rfl) (.slice z M q)) (fun b hb e => by have := hlo b hb.2; omega)
  obtain ⟨w5, hw5⟩ : ∃ w5, w4.setCell ⟨w.heap.size + 1, 3, none⟩ (.slice z M q) = w5 := ⟨_, rfl⟩
  rw [hw5] at hX5 hY5 hZ5 hB5 hI5
  go_upto_region 2 with fail
  try rw [hw5]
  have HX5 := Lib.hid hX5
  have HY5 := Lib.hid hY5
  have HZ5 := Lib.hid hZ5
  have HB5 := Lib.hid hB5
  have HI5 := Lib.hid hI5
  have HLO := Lib.hid hlo
  have HF := fin12 hZ5 hB5 (by omega) (.int .i64 tt) (.int .i64 fr) (.int .i64 5) (.int .i64 vo) (.int .i64 li) (.int .u64 (id : Int)) (.int .i64 code) (.bool has) (.int .u64 (nkey : Int)) (.int .u32 (nck : Int)) (.bool ngn) (.slice z M q)
  unfold set12 at HF
  have HF := Lib.hid HF
  clear hX4 hY4 hZ4 hB4 hI4 hlo q3 qf hX5 hY5 hZ5 hB5 hI5 hw5 hown hb4
  have p0 := HX5.out.cell 0 rfl
  have p1 := HX5.out.cell 1 rfl
  have p2 := HX5.out.cell 2 rfl
  have p3 := HX5.out.cell 3 rfl
  have p4 := HX5.out.cell 4 rfl
  have p5 := HX5.out.cell 5 rfl
  have p6 := HX5.out.cell 6 rfl
  have p7 := HX5.out.cell 7 rfl
  have p8 := HX5.out.cell 8 rfl
  have p9 := HX5.out.cell 9 rfl
  have p10 := HX5.out.cell 10 rfl
  have p11 := HX5.out.cell 11 rfl
  have q0 := HY5.out.cell 0 rfl
  have q1 := HY5.out.cell 1 rfl
  have q2 := HY5.out.cell 2 rfl
  have q3 := HY5.out.cell 3 rfl
  have z0 := HZ5.out.cell 0 rfl
  have z1 := HZ5.out.cell 1 rfl
  have z2 := HZ5.out.cell 2 rfl
  have z3 := HZ5.out.cell 3 rfl
  have z4 := HZ5.out.cell 4 rfl
  have z5 := HZ5.out.cell 5 rfl
  have z6 := HZ5.out.cell 6 rfl
  have z7 := HZ5.out.cell 7 rfl
  have z8 := HZ5.out.cell 8 rfl
  have z9 := HZ5.out.cell 9 rfl
  have z10 := HZ5.out.cell 10 rfl
  have z11 := HZ5.out.cell 11 rfl
  have zf := fun j => HZ5.out.free j
  go_wp2
  obtain ⟨j0, j1, j2, j3, j4, j5, j6, j7, j8, j9, j10, j11, jb, jk⟩ := HF.out
  refine bodyPost_ret (v := .agg #[.int .i64 tt, .int .i64 fr, .int .i64 5, .int .i64 vo, .int .i64 li, .int .u64 (id : Int), .int .i64 code, .bool has, .int .u64 (nkey : Int), .int .u32 (nck : Int), .bool ngn, .slice z M q]) (by simp [results, Try.results18, go_sem, j0, j1, j2, j3, j4, j5, j6, j7, j8, j9, j10, j11]) rfl ⟨z, q, rfl, HI5.out.kept jk (fun b hb e => by have := HLO.out b hb.2; omega), fun b hb => by have := HLO.out b hb.2; omega, jb⟩
theorem wreply_v (m : Msg) (x : Option Addr) (L c : Nat) (code : Int) (has : Bool) (n : Ndl) (y : Option Addr) (M k : Nat) (w : World) (hn : IsB w (.slice y M k) n.data) (hl : n.data.length ≤ 1099511627776) :
    Calls Try.prog 18 #[mval m (.slice x L c), .int .i64 code, .bool has, nval n (.slice y M k)] w fun e w' => ∃ z q, e = .returned (mval ⟨m.to, m.fr, 5, m.vo, m.li, m.id, code, has, n⟩ (.slice z M q)) ∧ IsB w' (.slice z M q) n.data ∧ Below w.heap.size w w' :=
  (wreply_f m x L c code has n y M k w hn hl).mono fun _ _ ⟨z, q, h1, h2, _, h4⟩ => ⟨z, q, h1, h2, h4⟩

end Go.Proofs.Ytallmcminlnnaaa
