/- Package corncriblaw20: TwinKeeps. -/
import Derived.Test.YtlaighghagcjjaaTb
namespace Go.Proofs.Ytlaighghagcjjaa
open Go.RowKit Go.Cor
set_option linter.unusedVariables false
set_option linter.unusedSimpArgs false

/-- The first answers. -/
def ans (f : List Cm → Nat → Nat) (L : List Cm) (K : Nat) : List Nat := (List.range K).map (f L)
theorem ans_len (f : List Cm → Nat → Nat) (L : List Cm) (K : Nat) : (ans f L K).length = K := by simp [ans]
theorem ans_get (f : List Cm → Nat → Nat) (L : List Cm) {K i : Nat} (h : i < K) : (ans f L K)[i]? = some (f L i) := by simp [ans, h]
theorem ans_succ (f : List Cm → Nat → Nat) (L : List Cm) (K : Nat) : ans f L (K + 1) = ans f L K ++ [f L K] := by simp [ans, List.range_succ]
theorem ans_congr {f : List Cm → Nat → Nat} {L M : List Cm} {K : Nat} (h : ∀ i, i < K → f L i = f M i) : ans f L K = ans f M K := by
  unfold ans
  exact List.map_congr_left fun i hi => h i (List.mem_range.1 hi)
theorem icl_len (n : Nat) : (icl n).length = 1 := rfl
theorem icl_one20 (l : List Nat) : ∀ u ∈ row icl l, u.oneCell' = true := row_mem fun x _ v hv => by
  obtain rfl := List.mem_singleton.1 hv
  rfl
/-- The law's own two rows: the first answers of log L, beside the pair's blocks S. -/
structure Nu (B : Nat) (S : Nat → Prop) (nv ev : Value) (K K2 : Nat) (L : List Cm) (wx : World) : Prop where
  n : wx.ownsRow B 3 1 nv K (row icl (ans ansN L K))
  e : wx.ownsRow B 3 1 ev K2 (row icl (ans ansK L K2))
  ns : ∀ k, nv.ownBlock = some k → ¬ S k
  es : ∀ k, ev.ownBlock = some k → ¬ S k
  ne : ∀ k, nv.ownBlock = some k → ev.ownBlock ≠ some k
section
variable {B : Nat} {S S' : Nat → Prop} {nv ev : Value} {K K2 : Nat} {L M : List Cm} {wx w' : World}
theorem Nu.nil (B : Nat) (S : Nat → Prop) (L : List Cm) (wx : World) : Nu B S (.slice none 0 0) (.slice none 0 0) 0 0 L wx :=
  ⟨World.ownsRow_nil _ _ _ _, World.ownsRow_nil _ _ _ _, (fun k h => by simp [Value.ownBlock] at h), (fun k h => by simp [Value.ownBlock] at h), (fun k h => by simp [Value.ownBlock] at h)⟩
theorem Nu.below (h : Nu B S nv ev K K2 L wx) (hb : Below wx.heap.size wx w') : Nu B S nv ev K K2 L w' :=
  ⟨ownsRow_below h.n hb (Nat.le_refl _), ownsRow_below h.e hb (Nat.le_refl _), h.ns, h.es, h.ne⟩
theorem Nu.kept {T : Nat → Prop} (h : Nu B S nv ev K K2 L wx) (hk : Kept T wx w') (hn : ∀ k, nv.ownBlock = some k → ¬ T k) (he : ∀ k, ev.ownBlock = some k → ¬ T k) : Nu B S nv ev K K2 L w' :=
  ⟨ownsRow_kept h.n hk hn, ownsRow_kept h.e hk he, h.ns, h.es, h.ne⟩
theorem Nu.call (h : Nu B S nv ev K K2 L wx) (hk : Kept S wx w') (hS : ∀ k, S' k → S k ∨ wx.heap.size ≤ k) : Nu B S' nv ev K K2 L w' :=
  ⟨ownsRow_kept h.n hk h.ns, ownsRow_kept h.e hk h.es, fun k hk1 hs => (hS k hs).elim (h.ns k hk1) (fun h1 => by have := (h.n.lt k hk1).2; omega), fun k hk1 hs => (hS k hs).elim (h.es k hk1) (fun h1 => by have := (h.e.lt k hk1).2; omega), h.ne⟩
theorem Nu.to (h : Nu B S nv ev K K L wx) (hm : L.take K = M.take K) : Nu B S nv ev K K M wx := by
  obtain ⟨h1, h2, h3, h4, h5⟩ := h
  refine ⟨?_, ?_, h3, h4, h5⟩
  · rw [← ans_congr (f := ansN) (L := L) (M := M) (K := K) (fun i hi => (ans_take hm hi).1)]; exact h1
  · rw [← ans_congr (f := ansK) (L := L) (M := M) (K := K) (fun i hi => (ans_take hm hi).2)]; exact h2
theorem Nu.appN {nv' : Value} (h : Nu B S nv ev K K2 L wx) (hg : wx.grownBy w' nv.ownBlock) (hn : w'.ownsRow B 3 1 nv' (K + 1) (row icl (ans ansN L K) ++ icl (ansN L K))) (hat : nv'.ownBlock = nv.ownBlock ∨ nv'.ownBlock = some wx.heap.size) (hS : ∀ k, S k → k < wx.heap.size) : Nu B S nv' ev (K + 1) K2 L w' := by
  have hk := (Kept.refl (fun k => nv.ownBlock = some k) wx).grown hg (fun k e => .inl e)
  refine ⟨by rw [ans_succ, row_append, row_one]; exact hn, ownsRow_kept h.e hk (fun k e e2 => h.ne k e2 e), fun k e hs => ?_, h.es, fun k e e2 => ?_⟩
  · rcases hat with h1 | h1
    · exact h.ns k (h1 ▸ e) hs
    · have h2 : wx.heap.size = k := Option.some.inj (h1.symm.trans e)
      have := hS k hs
      omega
  · rcases hat with h1 | h1
    · exact h.ne k (h1 ▸ e) e2
    · have h2 : wx.heap.size = k := Option.some.inj (h1.symm.trans e)
      have := (h.e.lt k e2).2
      omega
theorem Nu.appE {ev' : Value} (h : Nu B S nv ev K K2 L wx) (hg : wx.grownBy w' ev.ownBlock) (hn : w'.ownsRow B 3 1 ev' (K2 + 1) (row icl (ans ansK L K2) ++ icl (ansK L K2))) (hat : ev'.ownBlock = ev.ownBlock ∨ ev'.ownBlock = some wx.heap.size) (hS : ∀ k, S k → k < wx.heap.size) : Nu B S nv ev' K (K2 + 1) L w' := by
  have hk := (Kept.refl (fun k => ev.ownBlock = some k) wx).grown hg (fun k e => .inl e)
  refine ⟨ownsRow_kept h.n hk (fun k e e2 => h.ne k e e2), by rw [ans_succ, row_append, row_one]; exact hn, h.ns, fun k e hs => ?_, fun k e e2 => ?_⟩
  · rcases hat with h1 | h1
    · exact h.es k (h1 ▸ e) hs
    · have h2 : wx.heap.size = k := Option.some.inj (h1.symm.trans e)
      have := hS k hs
      omega
  · rcases hat with h1 | h1
    · exact h.ne k e (h1 ▸ e2)
    · have h2 : wx.heap.size = k := Option.some.inj (h1.symm.trans e2)
      have := (h.n.lt k e).2
      omega
end
theorem Th.grown {w wx w' : World} {g : Nat} {S : Nat → Prop} {p : Pr} {K : Nat} (h : Th w wx g S p K) {o : Option Nat} (hg : wx.grownBy w' o) (ho : ∀ k, o = some k → w.heap.size ≤ k ∧ ¬ S k) : Th w w' g S p K :=
  h.kept (T := fun k => o = some k) ((Kept.refl (fun k => o = some k) wx).grown hg (fun k e => .inl e)) (fun k hs e => (ho k e).2 hs) (fun k hk e => by have := (ho k e).1; omega)
theorem doK_lt (L : List En) (c : Cm) : doK L c < 16 := by
  unfold doK turnK
  repeat' split
  all_goals decide
theorem ansK_lt (L : List Cm) (k : Nat) : ansK L k < 16 := by
  unfold ansK
  split
  · exact doK_lt _ _
  · decide
theorem int_at {w : World} {v : Value} {l : List Nat} {K i n : Nat} (hv : IsX w 1 v K (row icl l)) (hi : i < K) (he : l[i]? = some n) :
    ∃ b o, (∀ W, (Instr.indexAt 54 v (.int .i64 (i : Int))).run Try.prog W = .ok (.pointer (some ⟨b, o, none⟩)) W) ∧ w.cell? ⟨b, o, none⟩ = some (.int .i64 (n : Int)) := by
  obtain ⟨b, o, hx, _, hc⟩ := indexAt_X (P := Try.prog) hv 54 3 Try.underlying54 Try.sizeInt19 i hi
  exact ⟨b, o, hx, by rw [show o = o + 0 from rfl, hc 0 (by decide), row_get icl_len he 0 (by decide)]; rfl⟩
theorem Try.sizeAct20 : (Try.prog.info? 35).map (·.size) = some 11 := by kernel_rfl
/-- An act of a slice of acts. -/
theorem act_at20 {w : World} {v : Value} {l : List Ac20} {i : Nat} {a : Ac20} (hv : IsX w 11 v l.length (row acl l)) (he : l[i]? = some a) :
    ∃ b o, (∀ W, (Instr.indexAt 22 v (.int .i64 (i : Int))).run Try.prog W = .ok (.pointer (some ⟨b, o, none⟩)) W) ∧ w.cell? ⟨b, o, none⟩ = some (.int .i64 a.kind) ∧ w.cell? ⟨b, o + 1, none⟩ = some (.int .i64 a.term) ∧ w.cell? ⟨b, o + 2, none⟩ = some (.int .i64 a.side) ∧ w.cell? ⟨b, o + 3, none⟩ = some (.int .i64 a.c.kind) ∧ w.cell? ⟨b, o + 4, none⟩ = some (.int .i64 a.c.vol) ∧ w.cell? ⟨b, o + 5, none⟩ = some (.int .i64 a.c.ep) ∧ w.cell? ⟨b, o + 6, none⟩ = some (.int .i64 a.c.at_) ∧ w.cell? ⟨b, o + 7, none⟩ = some (.int .i64 a.c.node) ∧ w.cell? ⟨b, o + 8, none⟩ = some (.int .i64 a.c.a) ∧ w.cell? ⟨b, o + 9, none⟩ = some (.int .i64 a.c.b) ∧ w.cell? ⟨b, o + 10, none⟩ = some (.int .i64 a.c.c) := by
  obtain ⟨b, o, hx, _, hc⟩ := indexAt_X (P := Try.prog) hv 22 35 Try.underlying22 Try.sizeAct20 i (List.getElem?_eq_some_iff.1 he).1
  have hg : ∀ j, j < 11 → w.cell? ⟨b, o + j, none⟩ = (acl a)[j]? := fun j hj => by rw [hc j hj, row_get acl_len he j hj]
  exact ⟨b, o, hx, hg 0 (by decide), hg 1 (by decide), hg 2 (by decide), hg 3 (by decide), hg 4 (by decide), hg 5 (by decide), hg 6 (by decide), hg 7 (by decide), hg 8 (by decide), hg 9 (by decide), hg 10 (by decide)⟩
theorem meas20 {n k : Nat} (h : k < n) : n - (intOf (.int .i64 ((k : Int) + 1))).toNat < n - (intOf (.int .i64 (k : Int))).toNat := by
  simp only [intOf]
  omega
set_option maxRecDepth 100000 in
set_option maxHeartbeats 8000000 in
theorem twinKeeps_all (v : Value) (l : List Ac20) (w : World) (hv : IsX w 11 v l.length (row acl l)) :
    Calls Try.prog 4 #[v] w fun e w' => e = .returned (.bool true) ∧ Below w.heap.size w w' := by
  obtain ⟨N, hN⟩ : ∃ N, l.length = N := ⟨_, rfl⟩
  rw [hN] at hv
  have hlen := fun W => len_X (P := Try.prog) hv 22 3 35 Try.underlying22 W
  have HV := Lib.hid hv
  have HN := Lib.hid hN
  clear hv hN
  obtain ⟨i0, hi0, hz0, hz1, hz2⟩ := info_parts Try.infoInt19
  have HI0 := Lib.hid hi0
  have HZ0 := Lib.hid hz0
  have HZ1 := Lib.hid hz1
  have HZ2 := Lib.hid hz2
  clear hi0 hz0 hz1 hz2
  by_cases hbig : 60 < N
  · have hbig' : (60 : Int) < (N : Int) := by omega
    go_enter Try.func4, Try.ntmps4
    go_wp2_with (go_at_call 7; refine (alive20 _).mono ?_; rintro e w1 ⟨rfl, hb1⟩)
    go_ret
    exact ⟨rfl, hb1⟩
  have hbig' : ¬ (60 : Int) < (N : Int) := by omega
  have hbd : decide ((60 : Int) < (N : Int)) = false := decide_eq_false hbig'
  have HNX := Lib.hid (show N ≤ 60 from by omega)
  clear hbig
  go_enter Try.func4, Try.ntmps4
  go_wp2_with fail
  refine (alive20 _).mono ?_
  rintro e w1 ⟨rfl, hb1⟩
  have HB1 := Lib.hid hb1
  clear hb1
  go_wp2_with fail
  refine (tnew _).mono ?_
  rintro e w2 ⟨g, S0, rfl, h2, hb2⟩
  have H2 := Lib.hid (Th.new HB1.out h2 hb2)
  clear h2 hb2
  go_wp2_with fail
  go_loopw [4, 5, 6, 7] (fun nv ev tv c wr => ∃ (i : Nat) (S : Nat → Prop) (p : Pr), i ≤ N ∧ c = .int .i64 i ∧ tv = .int .i64 (p.tm : Int) ∧ Hid (Th w wr g S p i) ∧ Hid (Nu w.heap.size S nv ev p.st p.st (p.log p.ld) wr)) (fun _ _ _ c _ => N - (intOf c).toNat)
  case atStart => exact ⟨0, S0, Pr.new, Nat.zero_le _, rfl, rfl, H2, Lib.hid (Nu.nil _ _ _ _)⟩
  case round =>
    obtain ⟨i, S, p, hi, rfl, rfl, HT, HU⟩ := hrel
    by_cases hlt : i < N
    · obtain ⟨a, ha⟩ : ∃ a, l[i]? = some a := ⟨_, List.getElem?_eq_getElem (by rw [HN.out]; exact hlt)⟩
      have hvl : IsX w 11 v l.length (row acl l) := by rw [HN.out]; exact HV.out
      obtain ⟨b, o, hidx, k0, k1, k2, k3, k4, k5, k6, k7, k8, k9, k10⟩ := act_at20 (hvl.mono HT.out.bel (Nat.le_refl _)) ha
      clear hvl ha
      obtain ⟨ak, at_, asd, ac⟩ := a
      obtain ⟨ck, cv, ce, ca, cn, c1, c2, c3⟩ := ac
      simp only at k0 k1 k2 k3 k4 k5 k6 k7 k8 k9 k10
      by_cases hk : ak < 0 ∨ 3 < ak
      · have HF := Lib.hid (HT.out.alloc (.cells #[.int .i64 ak, .int .i64 at_, .int .i64 asd, .int .i64 ck, .int .i64 cv, .int .i64 ce, .int .i64 ca, .int .i64 cn, .int .i64 c1, .int .i64 c2, .int .i64 c3] 35)).bel
        rcases hk with hk | hk
        · go_wp2
          go_ret
          exact ⟨rfl, HF.out⟩
        · have hk' : ¬ ak < 0 := by omega
          go_wp2
          go_ret
          exact ⟨rfl, HF.out⟩
      · have hk1 : ¬ ak < 0 := fun h => hk (.inl h)
        have hk2 : ¬ 3 < ak := fun h => hk (.inr h)
        clear hk
        have hX := Blk.new wr #[.int .i64 ak, .int .i64 at_, .int .i64 asd, .int .i64 ck, .int .i64 cv, .int .i64 ce, .int .i64 ca, .int .i64 cn, .int .i64 c1, .int .i64 c2, .int .i64 c3] 35
        have hT1 := HT.out.alloc (.cells #[.int .i64 ak, .int .i64 at_, .int .i64 asd, .int .i64 ck, .int .i64 cv, .int .i64 ce, .int .i64 ca, .int .i64 cn, .int .i64 c1, .int .i64 c2, .int .i64 c3] 35)
        have hU1 := HU.out.below (below_new19 wr (.cells #[.int .i64 ak, .int .i64 at_, .int .i64 asd, .int .i64 ck, .int .i64 cv, .int .i64 ce, .int .i64 ca, .int .i64 cn, .int .i64 c1, .int .i64 c2, .int .i64 c3] 35))
        obtain ⟨W1, hW1⟩ : ∃ z, wr.alloc (.cells #[.int .i64 ak, .int .i64 at_, .int .i64 asd, .int .i64 ck, .int .i64 cv, .int .i64 ce, .int .i64 ca, .int .i64 cn, .int .i64 c1, .int .i64 c2, .int .i64 c3] 35) = z := ⟨_, rfl⟩
        rw [hW1] at hX hT1 hU1
        have hXS : ¬ S wr.heap.size := fun h => by have := (HT.out.tw.lt h).2; omega
        have hXB : w.heap.size ≤ wr.heap.size := HT.out.bel.size
        have hXN : ∀ (v : Value) (n : Nat) (c : List Value), wr.ownsRow w.heap.size 3 1 v n c → v.ownBlock ≠ some wr.heap.size := fun v n c h e => by have := (h.lt _ e).2; omega
        have hXn := hXN _ _ _ HU.out.n
        have hXe := hXN _ _ _ HU.out.e
        obtain ⟨X, hXX⟩ : ∃ z, wr.heap.size = z := ⟨_, rfl⟩
        rw [hXX] at hX hXS hXB hXn hXe
        have HX1 := Lib.hid hX
        have HT1 := Lib.hid hT1
        have HU1 := Lib.hid hU1
        have HW1 := Lib.hid hW1
        have HXX := Lib.hid hXX
        have HXS := Lib.hid hXS
        have HXB := Lib.hid hXB
        have HXn := Lib.hid hXn
        have HXe := Lib.hid hXe
        clear hX hT1 hU1 hW1 hXX hXS hXB hXn hXe hXN HT HU
        go_wp2_with fail
        rw [HW1.out, HXX.out]
        refine HT1.out.lead.mono ?_
        rintro e w3 ⟨rfl, hb3⟩
        have HT3 := Lib.hid (HT1.out.below hb3)
        have HU3 := Lib.hid (HU1.out.below hb3)
        have HX3 := Lib.hid (HX1.out.below hb3 HX1.out.lt)
        clear hb3 k0 k1 k2 k3 k4 k5 k6 k7 k8 k9 k10 hidx
        have x0 : w3.cell? ⟨X, 0, none⟩ = some (.int .i64 ak) := HX3.out.cell 0 rfl
        have x1 : w3.cell? ⟨X, 1, none⟩ = some (.int .i64 at_) := HX3.out.cell 1 rfl
        have x2 : w3.cell? ⟨X, 2, none⟩ = some (.int .i64 asd) := HX3.out.cell 2 rfl
        have x3 : w3.cell? ⟨X, 3, none⟩ = some (.int .i64 ck) := HX3.out.cell 3 rfl
        have x4 : w3.cell? ⟨X, 4, none⟩ = some (.int .i64 cv) := HX3.out.cell 4 rfl
        have x5 : w3.cell? ⟨X, 5, none⟩ = some (.int .i64 ce) := HX3.out.cell 5 rfl
        have x6 : w3.cell? ⟨X, 6, none⟩ = some (.int .i64 ca) := HX3.out.cell 6 rfl
        have x7 : w3.cell? ⟨X, 7, none⟩ = some (.int .i64 cn) := HX3.out.cell 7 rfl
        have x8 : w3.cell? ⟨X, 8, none⟩ = some (.int .i64 c1) := HX3.out.cell 8 rfl
        have x9 : w3.cell? ⟨X, 9, none⟩ = some (.int .i64 c2) := HX3.out.cell 9 rfl
        have x10 : w3.cell? ⟨X, 10, none⟩ = some (.int .i64 c3) := HX3.out.cell 10 rfl
        have xf := fun j => HX3.out.free j
        go_upto_region 15 with fail
        go_cut [61] from 53 to 61 (fun dq wx => Hid (∃ D : Bool, dq = .bool D) ∧ wx = w3)
        case first =>
          by_cases h2 : ak < 2
          · go_wp2_with fail
            go_meet
            exact ⟨Lib.hid ⟨_, rfl⟩, rfl⟩
          · go_wp2_with fail
            go_meet
            exact ⟨Lib.hid ⟨_, rfl⟩, rfl⟩
        case rest =>
        obtain ⟨HD, hw3⟩ := hcut
        subst hw3
        go_wp2_with fail
        go_cut [10] from 62 to 63 (fun tq wx => ∃ t : Int, tq = .int .i64 (p.tm : Int) ∧ Hid (Th w wx g S p i) ∧ Hid (Nu w.heap.size S u4 u5 p.st p.st (p.log p.ld) wx) ∧ Hid (Blk wx X #[.int .i64 ak, .int .i64 t, .int .i64 asd, .int .i64 ck, .int .i64 cv, .int .i64 ce, .int .i64 ca, .int .i64 cn, .int .i64 c1, .int .i64 c2, .int .i64 c3] 35))
        case first =>
          have HS1 := Lib.hid (HT3.out.cell (q := ⟨X, 1, none⟩) HXB.out HXS.out (.int .i64 (p.tm : Int)))
          have HS2 := Lib.hid (HU3.out.kept ((Kept.refl (fun k => k = X) _).setCell (p := ⟨X, 1, none⟩) (.inl rfl) (.int .i64 (p.tm : Int))) (fun k hk e => HXn.out (e ▸ hk)) (fun k hk e => HXe.out (e ▸ hk)))
          have HS3 := Lib.hid (show Blk (World.setCell _ ⟨X, 1, none⟩ (.int .i64 (p.tm : Int))) X #[.int .i64 ak, .int .i64 (p.tm : Int), .int .i64 asd, .int .i64 ck, .int .i64 cv, .int .i64 ce, .int .i64 ca, .int .i64 cn, .int .i64 c1, .int .i64 c2, .int .i64 c3] 35 from by simpa using HX3.out.set 1 (.int .i64 (p.tm : Int)))
          obtain ⟨D, rfl⟩ := HD.out
          cases D
          · go_wp2_with fail
            go_meet
            exact ⟨_, rfl, HT3, HU3, HX3⟩
          · go_wp2_with fail
            go_meet
            exact ⟨_, rfl, HS1, HS2, HS3⟩
        case rest =>
          obtain ⟨t, rfl, HT4, HU4, HX4⟩ := hcut
          clear x0 x1 x2 x3 x4 x5 x6 x7 x8 x9 x10 xf
          have x0 : wc.cell? ⟨X, 0, none⟩ = some (.int .i64 ak) := HX4.out.cell 0 rfl
          have x1 : wc.cell? ⟨X, 1, none⟩ = some (.int .i64 t) := HX4.out.cell 1 rfl
          have x2 : wc.cell? ⟨X, 2, none⟩ = some (.int .i64 asd) := HX4.out.cell 2 rfl
          have x3 : wc.cell? ⟨X, 3, none⟩ = some (.int .i64 ck) := HX4.out.cell 3 rfl
          have x4 : wc.cell? ⟨X, 4, none⟩ = some (.int .i64 cv) := HX4.out.cell 4 rfl
          have x5 : wc.cell? ⟨X, 5, none⟩ = some (.int .i64 ce) := HX4.out.cell 5 rfl
          have x6 : wc.cell? ⟨X, 6, none⟩ = some (.int .i64 ca) := HX4.out.cell 6 rfl
          have x7 : wc.cell? ⟨X, 7, none⟩ = some (.int .i64 cn) := HX4.out.cell 7 rfl
          have x8 : wc.cell? ⟨X, 8, none⟩ = some (.int .i64 c1) := HX4.out.cell 8 rfl
          have x9 : wc.cell? ⟨X, 9, none⟩ = some (.int .i64 c2) := HX4.out.cell 9 rfl
          have x10 : wc.cell? ⟨X, 10, none⟩ = some (.int .i64 c3) := HX4.out.cell 10 rfl
          have hi1000 : i < 1000 := by have := HNX.out; omega
          have HI1000 := Lib.hid hi1000
          clear hi1000
          go_wp2_with fail
          refine (HT4.out.do HI1000.out ⟨ak, t, asd, ⟨ck, cv, ce, ca, cn, c1, c2, c3⟩⟩).mono ?_
          have hto := act_to HT4.out.ok ⟨ak, t, asd, ⟨ck, cv, ce, ca, cn, c1, c2, c3⟩⟩
          obtain ⟨q, hq⟩ : ∃ q, actP p ⟨ak, t, asd, ⟨ck, cv, ce, ca, cn, c1, c2, c3⟩⟩ = q := ⟨_, rfl⟩
          rw [hq] at hto ⊢
          rintro e w5 ⟨rfl, S5, h5, hS5, hk5⟩
          have HT5 := Lib.hid h5
          have HU5 := Lib.hid ((HU4.out.call hk5 hS5).to hto.pre.symm)
          have htm : decide ((q.tm : Int) < (p.tm : Int)) = false := decide_eq_false (by have := hto.tm; omega)
          have hst : decide ((q.st : Int) < (p.st : Int)) = false := decide_eq_false (by have := hto.st; omega)
          have htm2 : p.tm ≤ q.tm := hto.tm
          have hst2 : p.st ≤ q.st := hto.st
          have htm3 : decide (q.tm < p.tm) = false := decide_eq_false (by omega)
          have hst3 : decide (q.st < p.st) = false := decide_eq_false (by omega)
          have HST := Lib.hid hto.st
          clear h5 hS5 hk5 x0 x1 x2 x3 x4 x5 x6 x7 x8 x9 x10 hto hq HT4 HU4 HX4 HT3 HU3 HX3 HT1 HU1 HX1
          go_wp2_with fail
          refine HT5.out.lead.mono ?_
          rintro e w6 ⟨rfl, hb6⟩
          have HT6 := Lib.hid (HT5.out.below hb6)
          have HU6 := Lib.hid (HU5.out.below hb6)
          have hln := fun W => len_X (P := Try.prog) (IsX.own HU6.out.n) 54 3 3 Try.underlying54 W
          clear hb6
          go_wp2_with fail
          refine HT6.out.settled.mono ?_
          rintro e w7 ⟨rfl, hb7⟩
          have HT7 := Lib.hid (HT6.out.below hb7)
          have HU7 := Lib.hid (HU6.out.below hb7)
          clear hb7
          obtain ⟨L, hL⟩ : ∃ L, q.log q.ld = L := ⟨_, rfl⟩
          rw [hL] at HU7
          have HL := Lib.hid hL
          have HQB := Lib.hid (show q.st ≤ 1000 from by have h1 := HT7.out.ok.st; have h2 := HT7.out.le.log q.ld; have := HNX.out; omega)
          clear hL HT5 HU5 HT6 HU6
          go_wp2_with fail
          clear hln
          go_loopw [4, 5, 11] (fun nv ev c wr => ∃ k : Nat, k ≤ q.st ∧ c = .int .i64 k ∧ Hid (Th w wr g S5 q (i + 1)) ∧ Hid (Nu w.heap.size S5 nv ev (if k < p.st then p.st else k) (if k < p.st then p.st else k) L wr)) (fun _ _ c _ => q.st - (intOf c).toNat)
          case atStart => exact ⟨0, Nat.zero_le _, rfl, HT7, by
            have : (if 0 < p.st then p.st else 0) = p.st := by split <;> omega
            rw [this]; exact HU7⟩
          case round =>
            obtain ⟨k, hk, rfl, HTR, HUR⟩ := hrel
            by_cases hkq : k < q.st
            · have HKQ := Lib.hid hkq
              have hkq' : (k : Int) < (q.st : Int) := by omega
              have hwk : wrap64 ((k : Int) + 1) = (k : Int) + 1 := IntWalk.wrap64_in _ (by have := HQB.out; omega)
              go_wp2_with fail
              refine HTR.out.settled.mono ?_
              rintro e wa ⟨rfl, hba⟩
              have HTA := Lib.hid (HTR.out.below hba)
              have HUA := Lib.hid (HUR.out.below hba)
              clear hba HTR HUR
              go_wp2_with fail
              refine (tanswer wa _ g S5 q k HTA.out.tw HTA.out.ok (HTA.out.le.more (by have := HNX.out; omega)) HKQ.out).mono ?_
              rw [HL.out]
              rintro e wb ⟨rfl, hbb⟩
              have HTB := Lib.hid (HTA.out.below hbb)
              have HUB := Lib.hid (HUA.out.below hbb)
              have HEK := Lib.hid (show ansK L k < 16 from ansK_lt L k)
              clear hbb HTA HUA
              by_cases hkp : k < p.st
              · have HKP := Lib.hid hkp
                rw [if_pos hkp] at HUB
                have hln := fun W => len_X (P := Try.prog) (IsX.own HUB.out.n) 54 3 3 Try.underlying54 W
                have hkp' : (k : Int) < (p.st : Int) := by omega
                obtain ⟨b1, o1, hx1, hc1⟩ := int_at (IsX.own HUB.out.n) hkp (ans_get ansN L hkp)
                obtain ⟨b2, o2, hx2, hc2⟩ := int_at (IsX.own HUB.out.e) hkp (ans_get ansK L hkp)
                obtain ⟨AN, hAN⟩ : ∃ AN, ansN L k = AN := ⟨_, rfl⟩
                obtain ⟨AK, hAK⟩ : ∃ AK, ansK L k = AK := ⟨_, rfl⟩
                rw [hAN] at hc1 ⊢
                rw [hAK] at hc2 HEK ⊢
                clear hAN hAK
                go_wp2_with (go_at_call 20; refine (code_derr AK _ HEK.out).mono ?_; rintro e wd ⟨rfl, rfl⟩)
                go_roundw
                case rel => exact ⟨k + 1, HKQ.out, by go_num, HTB, by
                  have : (if k + 1 < p.st then p.st else k + 1) = p.st := by have := HKP.out; split <;> omega
                  rw [this]; exact HUB⟩
                case measure => first | exact meas20 HKQ.out | (rw [IntWalk.wrap64_in _ (by have h1 := HQB.out; have h2 := HKQ.out; omega)]; exact meas20 HKQ.out)
              · rw [if_neg hkp] at HUB
                have HKN := Lib.hid hkp
                have hln := fun W => len_X (P := Try.prog) (IsX.own HUB.out.n) 54 3 3 Try.underlying54 W
                obtain ⟨AN, hAN⟩ : ∃ AN, ansN L k = AN := ⟨_, rfl⟩
                obtain ⟨AK, hAK⟩ : ∃ AK, ansK L k = AK := ⟨_, rfl⟩
                have hkk : ¬ (k : Int) < (k : Int) := by omega
                have HSB := Lib.hid (fun k hs => (HTB.out.tw.lt (k := k) hs).2)
                have HL1 := Lib.hid (IsX.lit wb #[.int .i64 (AN : Int)] 3 1 1 rfl (by decide))
                have HU1 := Lib.hid (HUB.out.below (below_new19 wb (.cells #[.int .i64 (AN : Int)] 3)))
                have HT1 := Lib.hid (HTB.out.alloc (.cells #[.int .i64 (AN : Int)] 3))
                have HS1 := Lib.hid (show w.heap.size ≤ (wb.alloc (.cells #[.int .i64 (AN : Int)] 3)).heap.size from HT1.out.bel.size)
                rw [hAN, hAK]
                rw [hAK] at HEK
                have HAN := Lib.hid hAN
                have HAK := Lib.hid hAK
                clear hAN hAK
                go_wp2_with (first | (go_at_call 20; refine (code_derr AK _ HEK.out).mono ?_; rintro e wd ⟨rfl, rfl⟩) | (at_builtin; refine wpList_append_X (by rfl) _ _ 54 54 rfl (fun _ _ _ => rfl) w.heap.size 3 i0 _ 1 8 Try.underlying54 HI0.out HZ0.out HZ1.out HZ2.out rfl (by decide) _ _ _ rfl HU1.out.n _ 1 _ rfl HL1.out (by intro u hu; obtain rfl := List.mem_singleton.1 hu; rfl) (by have h1 := HQB.out; have h2 := HKQ.out; unfold maxLen; omega) (by have h1 := HQB.out; have h2 := HKQ.out; omega) HS1.out ?_))
                intro v6 w6 hown6 hgr6 hat6
                have HU2 := Lib.hid (HU1.out.appN hgr6 (by rw [HAN.out]; exact hown6) (by simpa using hat6) (fun k hs => (HT1.out.tw.lt (k := k) hs).2))
                have HT2 := Lib.hid (HT1.out.grown hgr6 (fun k e => ⟨(HU1.out.n.lt k e).1, HU1.out.ns k e⟩))
                clear hown6 hgr6 hat6 hln
                have HL2 := Lib.hid (IsX.lit w6 #[.int .i64 (AK : Int)] 3 1 1 rfl (by decide))
                have HU3 := Lib.hid (HU2.out.below (below_new19 w6 (.cells #[.int .i64 (AK : Int)] 3)))
                have HT3 := Lib.hid (HT2.out.alloc (.cells #[.int .i64 (AK : Int)] 3))
                have HS3 := Lib.hid (show w.heap.size ≤ (w6.alloc (.cells #[.int .i64 (AK : Int)] 3)).heap.size from HT3.out.bel.size)
                go_wp2_with (at_builtin; refine wpList_append_X (by rfl) _ _ 54 54 rfl (fun _ _ _ => rfl) w.heap.size 3 i0 _ 1 8 Try.underlying54 HI0.out HZ0.out HZ1.out HZ2.out rfl (by decide) _ _ _ rfl HU3.out.e _ 1 _ rfl HL2.out (by intro u hu; obtain rfl := List.mem_singleton.1 hu; rfl) (by have h1 := HQB.out; have h2 := HKQ.out; unfold maxLen; omega) (by have h1 := HQB.out; have h2 := HKQ.out; omega) HS3.out ?_)
                intro v7 w7 hown7 hgr7 hat7
                have HU4 := Lib.hid (HU3.out.appE hgr7 (by rw [HAK.out]; exact hown7) (by simpa using hat7) (fun k hs => (HT3.out.tw.lt (k := k) hs).2))
                have HT4 := Lib.hid (HT3.out.grown hgr7 (fun k e => ⟨(HU3.out.e.lt k e).1, HU3.out.es k e⟩))
                clear hown7 hgr7 hat7
                go_wp2
                go_roundw
                case rel => exact ⟨k + 1, HKQ.out, by go_num, HT4, by
                  have : (if k + 1 < p.st then p.st else k + 1) = k + 1 := by have := HKN.out; split <;> omega
                  rw [this]; exact HU4⟩
                case measure => first | exact meas20 HKQ.out | (rw [IntWalk.wrap64_in _ (by have h1 := HQB.out; have h2 := HKQ.out; omega)]; exact meas20 HKQ.out)
            · obtain rfl : k = q.st := by omega
              have hkq2 : ¬ ((q.st : Nat) : Int) < ((q.st : Nat) : Int) := by omega
              have hif : (if q.st < p.st then p.st else q.st) = q.st := by have := HST.out; split <;> omega
              rw [hif] at HUR
              go_wp2_with fail
              refine HTR.out.settled.mono ?_
              rintro e wa ⟨rfl, hba⟩
              have HTA := Lib.hid (HTR.out.below hba)
              have HUA := Lib.hid (HUR.out.below hba)
              clear hba HTR HUR
              rw [← HL.out] at HUA
              go_wp2
              go_roundw
              case rel => exact ⟨i + 1, S5, q, by omega, by go_num, rfl, HTA, HUA⟩
              case measure => simp [intOf]; omega
    · obtain rfl : i = N := by omega
      have HF := Lib.hid (show Below w.heap.size w wr from HT.out.bel)
      have HG := Lib.hid (fun (a b : World) (h1 : Below w.heap.size w a) (h2 : Below a.heap.size a b) => h1.trans (h2.mono h1.size))
      clear HT HU
      go_wp2_with fail
      refine (task_nil _ 1 al0).mono ?_
      rintro e wa ⟨rfl, hb⟩
      have HF1 := Lib.hid (HG.out _ _ HF.out hb)
      clear hb HF
      go_wp2_with fail
      refine (tanswer_nil _ 0).mono ?_
      rintro e wb ⟨rfl, hb⟩
      have HF2 := Lib.hid (HG.out _ _ HF1.out hb)
      clear hb HF1
      go_wp2_with fail
      refine (tlead_nil _).mono ?_
      rintro e wd ⟨rfl, hb⟩
      have HF3 := Lib.hid (HG.out _ _ HF2.out hb)
      clear hb HF2
      go_wp2_with fail
      refine (tlogs_nil _).mono ?_
      rintro e we ⟨rfl, hb⟩
      have HF4 := Lib.hid (HG.out _ _ HF3.out hb)
      clear hb HF3
      go_wp2_with (go_at_call 20; refine (code_code 15 _ (by decide) (by decide)).mono ?_; rintro e wx ⟨rfl, rfl⟩)
      refine (tship_nil _ 1).mono ?_
      rintro e wf ⟨rfl, hb⟩
      have HF5 := Lib.hid (HG.out _ _ HF4.out hb)
      clear hb HF4
      go_wp2_with (go_at_call 20; refine (code_code 15 _ (by decide) (by decide)).mono ?_; rintro e wx ⟨rfl, rfl⟩)
      refine (tfall_nil _ 0).mono ?_
      rintro e wg ⟨rfl, hb⟩
      have HF6 := Lib.hid (HG.out _ _ HF5.out hb)
      clear hb HF5
      go_wp2_with (go_at_call 20; refine (code_code 15 _ (by decide) (by decide)).mono ?_; rintro e wx ⟨rfl, rfl⟩)
      refine (trise_nil _ 0).mono ?_
      rintro e wh ⟨rfl, hb⟩
      have HF7 := Lib.hid (HG.out _ _ HF6.out hb)
      clear hb HF6
      go_wp2_with (go_at_call 20; refine (code_code 15 _ (by decide) (by decide)).mono ?_; rintro e wx ⟨rfl, rfl⟩)
      refine (tsettled_nil _).mono ?_
      rintro e wi ⟨rfl, hb⟩
      have HF8 := Lib.hid (HG.out _ _ HF7.out hb)
      clear hb HF7
      go_wp2_with fail
      refine (tmap_nil _ 0).mono ?_
      rintro e wj ⟨rfl, hb⟩
      have HF9 := Lib.hid (HG.out _ _ HF8.out hb)
      clear hb HF8
      go_wp2
      go_ret
      exact ⟨rfl, HF9.out⟩
end Go.Proofs.Ytlaighghagcjjaa
