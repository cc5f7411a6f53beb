/- Shv, Shc. -/
import Derived.Test.YtoblbipkkdiddaaGreatDoorM9
import Derived.Test.YtoblbipkkdiddaaGreatDoorM10
set_option linter.unusedVariables false
set_option linter.unusedSimpArgs false

section
namespace Go.Proofs.YtoblbipkkdiddaaGreatDoor
open Go.RowKit Go.Cor

theorem Tryz.infoNdSh : (Tryz.prog.info? 48).map (fun i => (i.zero, i.size, i.bytes)) = some (some (.agg #[.int .u64 0, .int .u32 0, .bool false, .slice none 0 0]), 4, 40) := by kernel_rfl
theorem Tryz.sizePosSh : (Tryz.prog.info? 83).map (·.size) = some 5 := by kernel_rfl
theorem row_set4' {w : World} {base g : Nat} {e : TypeId} {size : Nat} {v : Value} {n : Nat} {xs : List Value} (h : w.ownsRow base e size v n xs) (hg : g < base) (u0 u1 u2 u3 : Value) : (set4 w g u0 u1 u2 u3).ownsRow base e size v n xs := by
  unfold set4
  exact ownsRow_setCell_below (ownsRow_setCell_below (ownsRow_setCell_below (ownsRow_setCell_below h hg _) hg _) hg _) hg _
theorem twoS_facts {w w2 : World} {A B : Array Value} {TA TB : TypeId} (hb : Below ((w.alloc (.cells A TA)).alloc (.cells B TB)).heap.size ((w.alloc (.cells A TA)).alloc (.cells B TB)) w2) :
    Blk w2 w.heap.size A TA ∧ Blk w2 (w.heap.size + 1) B TB ∧ Below w.heap.size w w2 ∧ w.heap.size + 1 < w2.heap.size := by
  have h1 := (Blk.new w A TA).alloc (.cells B TB)
  have h2 := Blk.new (w.alloc (.cells A TA)) B TB
  rw [show (w.alloc (.cells A TA)).heap.size = w.heap.size + 1 by simp] at h2
  have hs := hb.size
  have e : ((w.alloc (.cells A TA)).alloc (.cells B TB)).heap.size = w.heap.size + 1 + 1 := by simp
  rw [e] at hb hs
  exact ⟨h1.below hb (by omega), h2.below hb (by omega), ((below_alloc w (.cells A TA)).alloc (by simp) (.cells B TB)).trans (hb.mono (by omega)), by omega⟩
theorem twoS_below (w : World) (A B : Array Value) (TA TB : TypeId) : Below w.heap.size w ((w.alloc (.cells A TA)).alloc (.cells B TB)) :=
  (below_alloc w (.cells A TA)).alloc (by simp) (.cells B TB)
theorem finS4 {w w2 : World} {B : Nat} {a0 a1 a2 a3 : Value} {T : TypeId} (h : Blk w2 B #[a0, a1, a2, a3] T) (hb : Below w.heap.size w w2) (hB : w.heap.size ≤ B) (u0 u1 u2 u3 : Value) :
    (set4 w2 B u0 u1 u2 u3).cell? ⟨B, 0, none⟩ = some u0 ∧ (set4 w2 B u0 u1 u2 u3).cell? ⟨B, 1, none⟩ = some u1 ∧ (set4 w2 B u0 u1 u2 u3).cell? ⟨B, 2, none⟩ = some u2 ∧
    (set4 w2 B u0 u1 u2 u3).cell? ⟨B, 3, none⟩ = some u3 ∧ Below w.heap.size w (set4 w2 B u0 u1 u2 u3) := by
  have hz := blk_set4 h u0 u1 u2 u3
  exact ⟨hz.cell 0 rfl, hz.cell 1 rfl, hz.cell 2 rfl, hz.cell 3 rfl, below_set4 hb hB⟩

set_option maxRecDepth 100000 in
set_option maxHeartbeats 1000000 in
theorem newest_gone (n : Ndl) (off g : Nat) (w : World) (hg : n.gone = true) (hd : n.data = []) :
    Calls Tryz.prog 32 #[.pointer (some ⟨g, 0, none⟩), Q.pval (posN n off)] w fun e w' => e = .returned (.tuple #[Nd.nval n (.slice none 0 0), .nilIface]) ∧ Below w.heap.size w w' := by
  obtain ⟨key, cookie, gone, data⟩ := n
  simp only at hg hd
  subst hg
  subst hd
  simp only [posN, List.length_nil]
  have HB := Lib.hid (twoS_below w #[.int .u64 (key : Int), .int .i64 (off : Int), .int .i64 0, .int .u32 (cookie : Int), .bool true] #[.int .u64 (key : Int), .int .u32 (cookie : Int), .bool true, .slice none 0 0] 83 48)
  go_enter Tryz.func32, Tryz.ntmps32
  go_wp2
  exact bodyPost_ret (v := .tuple #[.agg #[.int .u64 (key : Int), .int .u32 (cookie : Int), .bool true, .slice none 0 0], .nilIface]) (by simp [results, Tryz.results32, go_sem]) rfl ⟨rfl, HB.out⟩
set_option maxRecDepth 100000 in
set_option maxHeartbeats 1000000 in
theorem newest_ok (n : Ndl) (off : Nat) (b : List UInt8) (g p k : Nat) (S : Nat → Prop) (d : Dsk) (s : Vst) (w : World) (h : Vsp w g p S d k s) (hg : n.gone = false) (hn : s.look n.key n.cookie = 0) (hf : fnd s.idx n.key = some (posN n off)) (hv : view d (nmD s.num s.gen) = some b) (hb : off + nlen n ≤ b.length) (hl : b.length ≤ 16777216) (hd : (b.drop off).take (nlen n) = nbytes n) (hnf : n.fits) (hnc : ncheck n = 0) :
    Calls Tryz.prog 32 #[.pointer (some ⟨g, 0, none⟩), Q.pval (posN n off)] w fun e w' => ∃ x cc, e = .returned (.tuple #[Nd.nval n (.slice x n.data.length cc), .nilIface]) ∧ w'.ownsRow (w.heap.size + 1 + 1) 5 1 (.slice x n.data.length cc) n.data.length (bvs n.data) ∧ Below w.heap.size w w' := by
  have HG := Lib.hid (fun wx (hb1 : Below w.heap.size w wx) => get_w n off b n.key n.cookie g p k S d s wx (h.below hb1) hn hf hv hb hl hd hnf hnc)
  obtain ⟨L, hL⟩ : ∃ L, n.data.length = L := ⟨_, rfl⟩
  rw [hL] at HG ⊢
  simp only [posN, hL]
  obtain ⟨key, cookie, gone, data⟩ := n
  simp only at HG hg ⊢
  subst hg
  have HB0 := Lib.hid (twoS_below w #[.int .u64 (key : Int), .int .i64 (off : Int), .int .i64 (L : Int), .int .u32 (cookie : Int), .bool false] #[.int .u64 0, .int .u32 0, .bool false, .slice none 0 0] 83 48)
  clear h hn hf hv hb hl hd hnf hnc hL
  go_enter Tryz.func32, Tryz.ntmps32
  go_wp2_with fail
  refine (HG.out _ HB0.out).mono ?_
  rintro e w2 ⟨x, cc, rfl, hown, hb2⟩
  have hO := ownsRow_base hown (base' := w.heap.size + 1 + 1) (by simp)
  obtain ⟨_, hN, hB, hlt⟩ := twoS_facts hb2
  have z0 := hN.cell 0 rfl
  have z1 := hN.cell 1 rfl
  have z2 := hN.cell 2 rfl
  have z3 := hN.cell 3 rfl
  have zf := fun j => hN.free j
  have hF := finS4 hN hB (show w.heap.size ≤ w.heap.size + 1 by omega) (.int .u64 (key : Int)) (.int .u32 (cookie : Int)) (.bool false) (.slice x L cc)
  have hR := row_set4' hO (Nat.lt_succ_self (w.heap.size + 1)) (.int .u64 (key : Int)) (.int .u32 (cookie : Int)) (.bool false) (.slice x L cc)
  unfold set4 at hF hR
  have HF := Lib.hid hF
  have HR := Lib.hid hR
  clear hF hR hN hB hown hb2 hO
  go_wp2
  obtain ⟨y0, y1, y2, y3, yb⟩ := HF.out
  exact bodyPost_ret (v := .tuple #[.agg #[.int .u64 (key : Int), .int .u32 (cookie : Int), .bool false, .slice x L cc], .nilIface]) (by simp [results, Tryz.results32, go_sem, y0, y1, y2, y3]) rfl ⟨x, cc, rfl, HR.out, yb⟩
set_option maxRecDepth 100000 in
set_option maxHeartbeats 1000000 in
theorem newest_bad (n : Ndl) (off : Nat) (b : List UInt8) (g p k : Nat) (S : Nat → Prop) (d : Dsk) (s : Vst) (w : World) (h : Vsp w g p S d k s) (hg : n.gone = false) (hn : s.look n.key n.cookie = 0) (hf : fnd s.idx n.key = some (posN n off)) (hv : view d (nmD s.num s.gen) = some b) (hb : off + nlen n ≤ b.length) (hl : b.length ≤ 16777216) (hd : getCode ((b.drop off).take (nlen n)) ≠ 0) (hnd : n.data.length ≤ 4096) :
    Calls Tryz.prog 32 #[.pointer (some ⟨g, 0, none⟩), Q.pval (posN n off)] w fun e w' => ∃ A, e = .returned (.tuple #[Nd.nzero, .iface 116 (.pointer (some ⟨A, 0, none⟩))]) ∧ Below w.heap.size w w' := by
  have HG := Lib.hid (fun wx (hb1 : Below w.heap.size w wx) => get_x n off b n.key n.cookie g p k S d s wx (h.below hb1) hn hf hv hb hl hd hnd)
  obtain ⟨L, hL⟩ : ∃ L, n.data.length = L := ⟨_, rfl⟩
  simp only [posN, hL]
  obtain ⟨key, cookie, gone, data⟩ := n
  simp only at HG hg ⊢
  subst hg
  have HB0 := Lib.hid (twoS_below w #[.int .u64 (key : Int), .int .i64 (off : Int), .int .i64 (L : Int), .int .u32 (cookie : Int), .bool false] #[.int .u64 0, .int .u32 0, .bool false, .slice none 0 0] 83 48)
  clear h hn hf hv hb hl hd hnd hL
  go_enter Tryz.func32, Tryz.ntmps32
  go_wp2_with fail
  refine (HG.out _ HB0.out).mono ?_
  rintro e w2 ⟨A, rfl, hb2⟩
  obtain ⟨_, hN, hB, hlt⟩ := twoS_facts hb2
  have z0 := hN.cell 0 rfl
  have z1 := hN.cell 1 rfl
  have z2 := hN.cell 2 rfl
  have z3 := hN.cell 3 rfl
  have zf := fun j => hN.free j
  have hF := finS4 hN hB (show w.heap.size ≤ w.heap.size + 1 by omega) (.int .u64 0) (.int .u32 0) (.bool false) (.slice none 0 0)
  unfold set4 at hF
  have HF := Lib.hid hF
  clear hF hN hB hb2
  go_wp2
  obtain ⟨y0, y1, y2, y3, yb⟩ := HF.out
  exact bodyPost_ret (v := .tuple #[Nd.nzero, .iface 116 (.pointer (some ⟨A, 0, none⟩))]) (by simp [results, Tryz.results32, go_sem, y0, y1, y2, y3]) rfl ⟨A, rfl, yb⟩

/-- Which blobs of a volume are as they were written; the others are spoilt. -/
structure Spoilt (d : Dsk) (s : Vst) (b : List UInt8) (G : Ndl → Bool) : Prop where
  view : view d (nmD s.num s.gen) = some b
  len : b.length = s.size
  good : ∀ a n c, s.ns = a ++ n :: c → newest s.ns n.key = some n → n.gone = false → G n = true → (b.drop (16 + tot a)).take (nlen n) = nbytes n
  bad : ∀ a n c, s.ns = a ++ n :: c → newest s.ns n.key = some n → n.gone = false → G n = false → getCode ((b.drop (16 + tot a)).take (nlen n)) ≠ 0
def told (G : Ndl → Bool) (n : Ndl) : Bool := n.gone || G n
/-- A needle of the index, read. -/
theorem newest_at (i : Nat) (n : Ndl) (G : Ndl → Bool) (b : List UInt8) (g p k : Nat) (S : Nat → Prop) (d : Dsk) (s : Vst) (w : World) (h : Vsp w g p S d k s) (hs : Spoilt d s b G) (hi : i < s.idx.length) (hn : s.tops[i]? = some n) :
    Calls Tryz.prog 32 #[.pointer (some ⟨g, 0, none⟩), Q.pval (pat s.idx i)] w fun e w' => Below w.heap.size w w' ∧
      ((told G n = true ∧ ∃ x L cc, e = .returned (.tuple #[Nd.nval n (.slice x L cc), .nilIface]) ∧ IsB w' (.slice x L cc) n.data ∧ ∀ b, liesB (.slice x L cc) n.data b → w.heap.size + 1 + 1 ≤ b) ∨
       (told G n = false ∧ ∃ A, e = .returned (.tuple #[Nd.nzero, .iface 116 (.pointer (some ⟨A, 0, none⟩))]))) := by
  obtain ⟨m, h1, h2, h3, h4, h5⟩ := Vst.tops_get hi
  rw [hn] at h1
  cases h1
  obtain ⟨a, c, hns, hf⟩ := Vst.fnd_some h2
  have hp : pat s.idx i = posN n (16 + tot a) := by
    have e := (mem_fnd s.idx_asc).1 (pat_mem hi)
    rw [← h3, hf] at e
    exact (Option.some.inj e).symm
  have hal := h.ok.all n (by rw [hns]; simp)
  have hsz : 16 + tot a + nlen n ≤ b.length := by
    rw [hs.len]
    unfold Vst.size
    rw [hns, tot_append]
    simp only [tot]
    omega
  have hbl : b.length ≤ 16777216 := by rw [hs.len]; exact Nat.le_trans h.ok.size h.ok.most
  rw [hp]
  cases hg : n.gone with
  | true =>
    have hd : n.data = [] := List.eq_nil_of_length_eq_zero ((ncheck_ok hal.2).2 hg)
    refine (newest_gone n (16 + tot a) g w hg hd).mono ?_
    rintro e w' ⟨rfl, hb⟩
    exact ⟨hb, .inl ⟨by unfold told; rw [hg]; rfl, none, 0, 0, rfl, by rw [hd]; exact IsB.nil w', fun b hb => absurd (by rw [hd]; rfl) hb.1⟩⟩
  | false =>
    have hl : s.look n.key n.cookie = 0 := by unfold Vst.look; rw [h2]; simp [hg]
    cases hG : G n with
    | true =>
      refine (newest_ok n (16 + tot a) b g p k S d s w h hg hl hf hs.view hsz hbl (hs.good a n c hns h2 hg hG) hal.1 hal.2).mono ?_
      rintro e w' ⟨x, cc, rfl, ho, hb⟩
      exact ⟨hb, .inl ⟨by unfold told; rw [hg, hG]; rfl, x, _, cc, rfl, IsB.own ho rfl, fun b hb => (ho.lt b hb.2).1⟩⟩
    | false =>
      refine (newest_bad n (16 + tot a) b g p k S d s w h hg hl hf hs.view hsz hbl (hs.bad a n c hns h2 hg hG) (ncheck_ok hal.2).1).mono ?_
      rintro e w' ⟨A, rfl, hb⟩
      exact ⟨hb, .inr ⟨by unfold told; rw [hg, hG]; rfl, A, rfl⟩⟩

/-- Needles gathered so far: a row of the call's own, each one's bytes elsewhere. -/
structure Gath (w : World) (base : Nat) (v : Value) (qs : List (Ndl × Value)) : Prop where
  row : w.ownsRow base 48 4 v qs.length (row ncl qs)
  each : ∀ q ∈ qs, IsB w q.2 q.1.data ∧ q.2.oneCell' = true ∧ ∀ b, liesB q.2 q.1.data b → base ≤ b ∧ v.ownBlock ≠ some b
theorem Gath.nil (w : World) (base : Nat) : Gath w base (.slice none 0 0) [] := ⟨World.ownsRow_nil _ _ _ _, fun q hq => by cases hq⟩
theorem Gath.kept {T : Nat → Prop} {w w' : World} {base : Nat} {v : Value} {qs : List (Ndl × Value)} (h : Gath w base v qs) (hk : Kept T w w') (hT : ∀ b, T b → b < base) : Gath w' base v qs := by
  refine ⟨ownsRow_kept h.row hk (fun b hb ht => ?_), fun q hq => ?_⟩
  · have := (h.row.lt b hb).1
    have := hT b ht
    omega
  · obtain ⟨h1, h2, h3⟩ := h.each q hq
    exact ⟨h1.kept hk (fun b hb ht => by have := (h3 b hb).1; have := hT b ht; omega), h2, h3⟩
theorem Gath.below {w w' : World} {base B : Nat} {v : Value} {qs : List (Ndl × Value)} (h : Gath w base v qs) (hb : Below B w w') (hB : w.heap.size ≤ B) : Gath w' base v qs := h.kept (T := fun _ => False) (Kept.of_below hb hB) (fun _ h => h.elim)
theorem Gath.isN {w : World} {base : Nat} {v : Value} {qs : List (Ndl × Value)} (h : Gath w base v qs) : IsN w v qs := ⟨IsX.own h.row, fun q hq => ⟨(h.each q hq).1, (h.each q hq).2.1⟩⟩
theorem Gath.app {w w' : World} {base : Nat} {v v' : Value} {qs : List (Ndl × Value)} {q : Ndl × Value} (h : Gath w base v qs) (h1 : IsB w q.2 q.1.data) (h2 : q.2.oneCell' = true) (h3 : ∀ b, liesB q.2 q.1.data b → base ≤ b ∧ v.ownBlock ≠ some b)
    (hown : w'.ownsRow base 48 4 v' (qs.length + 1) (Go.Cor.row ncl qs ++ ncl q)) (hg : w.grownBy w' v.ownBlock) (hl : v'.ownBlock = v.ownBlock ∨ v'.ownBlock = some w.heap.size) : Gath w' base v' (qs ++ [q]) := by
  have hk : Kept (fun b => v.ownBlock = some b) w w' := (Kept.refl _ w).grown hg (fun b e => .inl e)
  refine ⟨by rw [List.length_append, row_append, row_one]; exact hown, fun r hr => ?_⟩
  have hr' : IsB w r.2 r.1.data ∧ r.2.oneCell' = true ∧ ∀ b, liesB r.2 r.1.data b → base ≤ b ∧ v.ownBlock ≠ some b := by
    rcases List.mem_append.1 hr with hr | hr
    · exact h.each r hr
    · rw [List.mem_singleton.1 hr]; exact ⟨h1, h2, h3⟩
  obtain ⟨k1, k2, k3⟩ := hr'
  refine ⟨k1.kept hk (fun b hb => (k3 b hb).2), k2, fun b hb => ⟨(k3 b hb).1, ?_⟩⟩
  rcases hl with hl | hl
  · rw [hl]; exact (k3 b hb).2
  · rw [hl]
    intro e
    have := k1.lies_lt hb
    have : w.heap.size = b := by simpa using e
    omega

/-- A load as a value. -/
abbrev loadv (x : Option Addr) (n c nx : Nat) (mr : Bool) (bad : Nat) : Value := .agg #[.slice x n c, .int .u64 (nx : Int), .bool mr, .int .i64 (bad : Int)]
/-- What Take leaves where some blobs are spoilt. -/
def TakeB (w : World) (s : Vst) (G : Ndl → Bool) (fr most : Nat) (e : Ending) (w' : World) : Prop :=
  ∃ x c qs, e = .returned (.tuple #[loadv x qs.length c (s.next fr most) (s.more fr most) ((s.load fr most).filter (fun n => !told G n)).length, .nilIface]) ∧ qs.map (·.1) = (s.load fr most).filter (told G) ∧ IsN w' (.slice x qs.length c) qs ∧ (∀ b, liesX (.slice x qs.length c) qs.length b → w.heap.size ≤ b) ∧ (∀ q ∈ qs, ∀ b, liesB q.2 q.1.data b → w.heap.size ≤ b) ∧ Below w.heap.size w w'
theorem ownBlock_n (x : Option Addr) (n m c : Nat) : (Value.slice x n c).ownBlock = (Value.slice x m c).ownBlock := by cases x <;> simp [Value.ownBlock]
theorem pat_eq {l m : List Pos} {i j : Nat} (h : l[i]? = m[j]?) : pat l i = pat m j := by unfold pat; rw [List.getD_eq_getElem?_getD, List.getD_eq_getElem?_getD, h]
set_option maxRecDepth 100000 in
set_option maxHeartbeats 4000000 in
theorem take_p (G : Ndl → Bool) (fr most : Nat) (b : List UInt8) (g p k : Nat) (S : Nat → Prop) (d : Dsk) (s : Vst) (w : World) (h : Vsp w g p S d k s) (hs : Spoilt d s b G) (h1 : 1 ≤ most) (h2 : most ≤ 64) :
    Calls Tryz.prog 12 #[.pointer (some ⟨g, 0, none⟩), .int .u64 (fr : Int), .int .i64 (most : Int)] w (TakeB w s G fr most) := by
  obtain ⟨I, hI⟩ : ∃ I, s.idx.length = I := ⟨_, rfl⟩
  obtain ⟨P, hP⟩ : ∃ P, psn s.idx fr = P := ⟨_, rfl⟩
  have hPI : P ≤ I := by rw [← hP, ← hI]; exact psn_le _ _
  obtain ⟨N, hN⟩ : ∃ N, (s.load fr most).length = N := ⟨_, rfl⟩
  have hNm : N = min most (I - P) := by rw [← hN, s.load_len, hI, hP]
  obtain ⟨l, hl⟩ : ∃ l, Q.fromL s.idx fr ((most + 1 : Nat) : Int) = l := ⟨_, rfl⟩
  have hl2 : l = (s.idx.drop P).take (most + 1) := by rw [← hl, ← hP]; rfl
  obtain ⟨K, hK⟩ : ∃ K, l.length = K := ⟨_, rfl⟩
  have hKm : K = min (most + 1) (I - P) := by rw [← hK, hl2, List.length_take, List.length_drop, hI]
  obtain ⟨lm, hlm⟩ : ∃ lm, l.take most = lm := ⟨_, rfl⟩
  have hlml : lm.length = N := by rw [← hlm, List.length_take, hK]; omega
  have HLM := Lib.hid hlml
  have HKL := Lib.hid hK
  have HLT := Lib.hid hlm
  have HKY := Lib.hid (fun wx (hb : Below w.heap.size w wx) => keys_p fr ((most + 1 : Nat) : Int) g p k S d s wx (h.below hb))
  simp only [hl, hK] at HKY
  have HAT := Lib.hid (show ∀ i, i < N → ∃ n, (s.load fr most)[i]? = some n ∧ s.tops[P + i]? = some n ∧ P + i < s.idx.length ∧ pat lm i = pat s.idx (P + i) from fun i hi => by
    obtain ⟨n, h1, _⟩ := Vst.tops_get (s := s) (i := P + i) (by omega)
    refine ⟨n, ?_, h1, by omega, pat_eq ?_⟩
    · unfold Vst.load
      rw [hP, List.getElem?_take, if_pos (by omega), List.getElem?_drop]
      exact h1
    · rw [← hlm, hl2, List.getElem?_take, if_pos (by omega), List.getElem?_take, if_pos (by omega), List.getElem?_drop])
  have HNW := Lib.hid (fun i n wx (hi : i < s.idx.length) (hn : s.tops[i]? = some n) (hb : Below w.heap.size w wx) => newest_at i n G b g p k S d s wx (h.below hb) hs hi hn)
  have HNX := Lib.hid (show P + most < I → s.more fr most = true ∧ s.next fr most = (pat l most).key ∧ K = most + 1 ∧ N = most from fun hm => by
    refine ⟨decide_eq_true (by rw [hP, hI]; exact hm), ?_, by omega, by omega⟩
    unfold Vst.next
    rw [hP, hI, if_pos hm]
    exact congrArg Pos.key (pat_eq (by rw [hl2, List.getElem?_take, if_pos (by omega), List.getElem?_drop]))
    )
  have HNN := Lib.hid (show ¬ P + most < I → s.more fr most = false ∧ s.next fr most = 0 ∧ K = N from fun hm => by
    refine ⟨decide_eq_false (by rw [hP, hI]; exact hm), ?_, by omega⟩
    unfold Vst.next
    rw [hP, hI, if_neg hm])
  have HLD := Lib.hid hN
  have hN64 : N ≤ 64 := by omega
  have hKN : K ≤ 65 := by omega
  have hNK : N ≤ K := by omega
  have e1 : IntKind.i64.wrap ((most : Int) + 1) = ((most + 1 : Nat) : Int) := by rw [IntWalk.i64_in _ (by omega)]; omega
  have hm1 : ¬ (most : Int) < 1 := by omega
  have hm2 : ¬ (64 : Int) < (most : Int) := by omega
  have HB0 := Lib.hid (twoS_below w #[.slice none 0 0, .int .u64 0, .bool false, .int .i64 0] #[.slice none 0 0, .int .u64 0, .bool false, .int .i64 0] 35 35)
  obtain ⟨i0, hi, hz0, hz1, hz2⟩ := info_parts Tryz.infoNdSh
  have HIN := Lib.hid hi
  have HZ0 := Lib.hid hz0
  have HZ1 := Lib.hid hz1
  have HZ2 := Lib.hid hz2
  have HKM := Lib.hid hKm
  clear hi hz0 hz1 hz2 h hs hI hP hPI hN hNm hl hl2 hK hKm hlm hlml
  go_enter Tryz.func12, Tryz.ntmps12
  go_wp2_with fail
  refine (HKY.out _ HB0.out).mono ?_
  rintro e w3 ⟨v', rfl, hown, hb3⟩
  obtain ⟨hX0, hX1, hB3, hlt3⟩ := twoS_facts hb3
  have hP3 : Q.IsP w3 v' l := Q.IsP.own (by exact hown) HKL.out.symm
  obtain ⟨x, c, rfl, hKc, _⟩ := IsX.slice (by exact hP3)
  rw [HKL.out] at hP3 hKc hown ⊢
  have hlen := fun W => Q.len_P (P := Tryz.prog) hP3 HKL.out 80 3 83 Tryz.underlying80 W
  have HP3 := Lib.hid hP3
  have HX0 := Lib.hid hX0
  have HX1 := Lib.hid hX1
  have HB3 := Lib.hid hB3
  have HOW := Lib.hid (show ∀ b, (Value.slice x K c).ownBlock = some b → w.heap.size + 1 + 1 ≤ b from fun b hb => by have := (hown.lt b hb).1; simpa using this)
  clear hown hb3 hP3 hX0 hX1 hB3 HKY
  go_upto_if 34 with fail
  go_cut [9] from 34 to 44 (fun x9 wx => ∃ (xl : Option Addr) (cl : Nat), x9 = .slice xl N cl ∧ Hid (Q.IsP wx (.slice xl N cl) lm) ∧ Hid (Blk wx (w.heap.size + 1) #[.slice none 0 0, .int .u64 (s.next fr most : Int), .bool (s.more fr most), .int .i64 (0 : Int)] 35) ∧ Hid (Blk wx w.heap.size #[.slice none 0 0, .int .u64 0, .bool false, .int .i64 0] 35) ∧ Hid (Below w.heap.size w wx) ∧ Hid (∀ b, (Value.slice xl N cl).ownBlock = some b → w.heap.size + 1 + 1 ≤ b))
  case first =>
    by_cases hm : P + most < I
    · obtain ⟨hmo, hnx, hKe, hNe⟩ := HNX.out hm
      obtain ⟨B, o, hidx, hp⟩ := Q.indexAt_P (P := Tryz.prog) HP3.out 80 83 Tryz.underlying80 Tryz.sizePosSh most (by rw [HKL.out]; omega)
      obtain ⟨⟨pk, po, pl, pc, pg⟩, hpp⟩ : ∃ q, pat l most = q := ⟨_, rfl⟩
      rw [hpp] at hp hnx
      obtain ⟨c0, _⟩ := hp
      dsimp only at c0 hnx
      have hsl := slice_h_X (P := Tryz.prog) 5 x K c 80 83 Tryz.underlying80 Tryz.sizePosSh most (by omega)
      have hgt : (most : Int) < (K : Int) := by omega
      have z1 := HX1.out.cell 1 rfl
      have zf := fun j => HX1.out.free j
      have hY := HX1.out.set 1 (.int .u64 (pk : Int))
      have z2 := hY.cell 2 rfl
      have yf := fun j => hY.free j
      have HY := Lib.hid (hY.set 2 (.bool true))
      clear hY
      have HK3 := Lib.hid (((Kept.refl (fun j => j = w.heap.size + 1) w3).setCell (p := ⟨w.heap.size + 1, 1, none⟩) (.inl rfl) (.int .u64 (pk : Int))).setCell (p := ⟨w.heap.size + 1, 2, none⟩) (.inl rfl) (.bool true))
      have HBY := Lib.hid ((HB3.out.setCell (p := ⟨w.heap.size + 1, 1, none⟩) (Nat.le_succ _) (.int .u64 (pk : Int))).setCell (p := ⟨w.heap.size + 1, 2, none⟩) (Nat.le_succ _) (.bool true))
      have HPY := Lib.hid (show Q.IsP w3 (.slice x N c) lm from by
        have h4 : IsX w3 5 (.slice x K c) K (row Q.pcells l) := by
          have h3 := HP3.out
          unfold Q.IsP at h3
          rw [HKL.out] at h3
          exact h3
        have h5 := IsX.take (j := N) h4 hNK
        rw [row_take (size := 5) (fun _ => rfl), show l.take N = lm by rw [hNe]; exact HLT.out] at h5
        unfold Q.IsP
        rw [HLM.out]
        exact h5)
      have HKe := Lib.hid hKe
      have HNe := Lib.hid hNe
      have HMO := Lib.hid hmo
      have HNXT := Lib.hid hnx
      clear hpp hKe hNe hmo hnx
      go_wp2_with fail
      go_meet
      refine ⟨x, c, by rw [HNe.out], ?_, ?_, ?_, HBY, Lib.hid (fun b hb => HOW.out b (by rw [ownBlock_n x K N]; exact hb))⟩
      · exact Lib.hid (IsX.kept HPY.out HK3.out (fun j hj e => by have := HOW.out j (by rw [ownBlock_n x K N]; exact hj.2); omega))
      · rw [HMO.out, HNXT.out]
        exact HY
      · exact Lib.hid ((HX0.out.other (a := ⟨w.heap.size + 1, 1, none⟩) (by simp) _).other (a := ⟨w.heap.size + 1, 2, none⟩) (by simp) _)
    · obtain ⟨hmo, hnx, hKe⟩ := HNN.out hm
      have hgt : ¬ (most : Int) < (K : Int) := by have := HKM.out; omega
      have HKe := Lib.hid hKe
      have HMO := Lib.hid hmo
      have HNXT := Lib.hid hnx
      clear hKe hmo hnx
      go_wp2_with fail
      go_meet
      refine ⟨x, c, by rw [← HKe.out], ?_, ?_, HX0, HB3, Lib.hid (fun b hb => HOW.out b (by rw [ownBlock_n x K N]; exact hb))⟩
      · rw [← HKe.out, ← HLT.out, List.take_of_length_le (by rw [HKL.out]; have := HKM.out; omega)]
        exact HP3
      · rw [HMO.out, HNXT.out]
        exact HX1
  case rest =>
    obtain ⟨xl, cl, rfl, HPc, HLc, HRc, HBc, HOc⟩ := hcut
    clear HX0 HX1 HB3 HP3 HOW hlen HNX HNN
    obtain ⟨w4, hw4⟩ : ∃ w4, w4 = wc := ⟨_, rfl⟩
    subst hw4
    have hlt4 : w.heap.size + 1 < w4.heap.size := HLc.out.lt
    have HPk := Lib.hid (fun wr (hk : Kept (fun j => j = w.heap.size + 1) w4 wr) => (show Q.IsP wr (.slice xl N cl) lm from IsX.kept HPc.out hk (fun j hj e => by have := HOc.out j hj.2; omega)))
    have hlen := fun W => Q.len_P (P := Tryz.prog) HPc.out HLM.out 80 3 83 Tryz.underlying80 W
    go_wp2_with fail
    go_loopw [47] (fun c wr => ∃ (i bd : Nat) (qs : List (Ndl × Value)) (x : Option Addr) (n cap : Nat), i ≤ N ∧ c = .int .i64 (i : Int) ∧ n ≤ i ∧ bd ≤ i ∧ Hid (qs.length = n) ∧ Hid (qs.map (·.1) = ((s.load fr most).take i).filter (told G)) ∧ Hid (bd = (((s.load fr most).take i).filter (fun n => !told G n)).length) ∧ Hid (Gath wr w4.heap.size (.slice x n cap) qs) ∧ Hid (Blk wr (w.heap.size + 1) #[.slice x n cap, .int .u64 (s.next fr most : Int), .bool (s.more fr most), .int .i64 (bd : Int)] 35) ∧ Hid (Blk wr w.heap.size #[.slice none 0 0, .int .u64 0, .bool false, .int .i64 0] 35) ∧ Hid (Below w.heap.size w wr) ∧ Hid (Kept (fun j => j = w.heap.size + 1) w4 wr)) (fun c _ => (N - intOf c).toNat)
    case atStart => exact ⟨0, 0, [], none, 0, 0, Nat.zero_le _, rfl, Nat.le_refl _, Nat.le_refl _, Lib.hid rfl, Lib.hid rfl, Lib.hid rfl, Lib.hid (Gath.nil _ _), HLc, HRc, HBc, Lib.hid (Kept.refl _ _)⟩
    case round =>
      obtain ⟨i, bd, qs, x, n, cap, hiN, rfl, hni, hbi, HQL, HQS, HBD, HG, HL, HR, HB, HK⟩ := hrel
      clear HPc HLc HRc HBc
      have HPr := Lib.hid (HPk.out wr HK.out)
      by_cases hi : i < N
      · obtain ⟨m, hm1', hm2', hm3', hm4'⟩ := HAT.out i hi
        obtain ⟨B, o, hidx, hp⟩ := Q.indexAt_P (P := Tryz.prog) HPr.out 80 83 Tryz.underlying80 Tryz.sizePosSh i (by rw [HLM.out]; exact hi)
        have HNI := Lib.hid (fun wx hb => HNW.out (P + i) m wx hm3' hm2' hb)
        rw [← hm4'] at HNI
        obtain ⟨⟨pk, po, pl, pc, pg⟩, hpp⟩ : ∃ q, pat lm i = q := ⟨_, rfl⟩
        rw [hpp] at hp HNI
        obtain ⟨c0, c1, c2, c3, c4⟩ := hp
        dsimp only at c0 c1 c2 c3 c4
        have HM := Lib.hid hm1'
        have HSN := Lib.hid (show (s.load fr most).take (i + 1) = (s.load fr most).take i ++ [m] by rw [List.take_add_one, hm1']; rfl)
        have e2 : IntKind.i64.wrap ((i : Int) + 1) = (i : Int) + 1 := IntWalk.i64_in _ (by omega)
        have HA := Lib.hid (HB.out.alloc HB.out.size (.cells #[.int .u64 (pk : Int), .int .i64 po, .int .i64 pl, .int .u32 (pc : Int), .bool pg] 83))
        clear hpp hm1' hm2' hm3' hm4'
        go_wp2_with fail
        refine (HNI.out _ HA.out).mono ?_
        rintro e w5 ⟨hb5, hcase⟩
        have hlt5 : w.heap.size + 1 < w5.heap.size := by have := hb5.size; have := HL.out.lt; simp at *; omega
        have HB5 := Lib.hid (HA.out.trans (hb5.mono HA.out.size))
        have HL5 := Lib.hid ((HL.out.alloc (.cells #[.int .u64 (pk : Int), .int .i64 po, .int .i64 pl, .int .u32 (pc : Int), .bool pg] 83)).below hb5 (by have := HL.out.lt; simp; omega))
        have HR5 := Lib.hid ((HR.out.alloc (.cells #[.int .u64 (pk : Int), .int .i64 po, .int .i64 pl, .int .u32 (pc : Int), .bool pg] 83)).below hb5 (by have := HR.out.lt; simp; omega))
        have HK5 := Lib.hid ((HK.out.alloc (.cells #[.int .u64 (pk : Int), .int .i64 po, .int .i64 pl, .int .u32 (pc : Int), .bool pg] 83)).trans (Kept.of_below (S := fun j => j = w.heap.size + 1) hb5 (Nat.le_refl _)) (fun j e _ => e))
        have HG5 := Lib.hid ((HG.out.below (below_alloc wr (.cells #[.int .u64 (pk : Int), .int .i64 po, .int .i64 pl, .int .u32 (pc : Int), .bool pg] 83)) (Nat.le_refl _)).below hb5 (Nat.le_refl _))
        clear c0 c1 c2 c3 c4 HNI hb5
        rcases hcase with ⟨ht, mx, mL, mc, rfl, hIB, hlie⟩ | ⟨ht, A, rfl⟩
        · obtain ⟨mk, mck, mg, md⟩ := m
          simp only at hIB hlie
          have hr4 := HK.out.size
          have HDS := Lib.hid (show (qs ++ [((⟨mk, mck, mg, md⟩ : Ndl), Value.slice mx mL mc)]).map (·.1) = ((s.load fr most).take (i + 1)).filter (told G) by
            rw [List.map_append, HQS.out, HSN.out, List.filter_append, List.filter_cons, if_pos ht]
            rfl)
          have HDB := Lib.hid (show bd = (((s.load fr most).take (i + 1)).filter (fun n => !told G n)).length by
            rw [HSN.out, List.filter_append, List.filter_cons, if_neg (by rw [ht]; simp), List.filter_nil, List.append_nil]
            exact HBD.out)
          have HQ6 := Lib.hid (show (qs ++ [((⟨mk, mck, mg, md⟩ : Ndl), Value.slice mx mL mc)]).length = n + 1 by rw [List.length_append, HQL.out]; rfl)
          have HI7 := Lib.hid ((hIB.mono (below_alloc w5 (.cells #[.int .u64 (mk : Int), .int .u32 (mck : Int), .bool mg, .slice mx mL mc] 48)) (Nat.le_refl _)).mono (below_alloc (w5.alloc (.cells #[.int .u64 (mk : Int), .int .u32 (mck : Int), .bool mg, .slice mx mL mc] 48)) (.cells #[.int .u64 (mk : Int), .int .u32 (mck : Int), .bool mg, .slice mx mL mc] 48)) (Nat.le_refl _))
          have HLI := Lib.hid (show ∀ b, liesB (.slice mx mL mc) md b → w4.heap.size ≤ b ∧ (Value.slice x n cap).ownBlock ≠ some b from fun b hb => by
            have h1 := hlie b hb
            simp only [World.size_alloc] at h1
            refine ⟨by omega, fun e => ?_⟩
            have := (HG.out.row.lt b e).2
            omega)
          have HO6 := Lib.hid (show (w5.alloc (.cells #[.int .u64 (mk : Int), .int .u32 (mck : Int), .bool mg, .slice mx mL mc] 48)).ownsRow w4.heap.size 48 4 (.slice x n cap) n (row ncl qs) by
            have h1 := HG5.out.row
            rw [HQL.out] at h1
            exact h1.alloc _)
          have HG7 := Lib.hid ((HG5.out.below (below_alloc w5 (.cells #[.int .u64 (mk : Int), .int .u32 (mck : Int), .bool mg, .slice mx mL mc] 48)) (Nat.le_refl _)).below (below_alloc (w5.alloc (.cells #[.int .u64 (mk : Int), .int .u32 (mck : Int), .bool mg, .slice mx mL mc] 48)) (.cells #[.int .u64 (mk : Int), .int .u32 (mck : Int), .bool mg, .slice mx mL mc] 48)) (Nat.le_refl _))
          have HL7 := Lib.hid ((HL5.out.alloc (.cells #[.int .u64 (mk : Int), .int .u32 (mck : Int), .bool mg, .slice mx mL mc] 48)).alloc (.cells #[.int .u64 (mk : Int), .int .u32 (mck : Int), .bool mg, .slice mx mL mc] 48))
          have HR7 := Lib.hid ((HR5.out.alloc (.cells #[.int .u64 (mk : Int), .int .u32 (mck : Int), .bool mg, .slice mx mL mc] 48)).alloc (.cells #[.int .u64 (mk : Int), .int .u32 (mck : Int), .bool mg, .slice mx mL mc] 48))
          have HK7 := Lib.hid ((HK5.out.alloc (.cells #[.int .u64 (mk : Int), .int .u32 (mck : Int), .bool mg, .slice mx mL mc] 48)).alloc (.cells #[.int .u64 (mk : Int), .int .u32 (mck : Int), .bool mg, .slice mx mL mc] 48))
          have HB7 := Lib.hid ((HB5.out.alloc HB5.out.size (.cells #[.int .u64 (mk : Int), .int .u32 (mck : Int), .bool mg, .slice mx mL mc] 48)).alloc (by have := HB5.out.size; simp; omega) (.cells #[.int .u64 (mk : Int), .int .u32 (mck : Int), .bool mg, .slice mx mL mc] 48))
          have z0 := HL5.out.cell 0 rfl
          have zf := fun j => HL5.out.free j
          have h5s := HK5.out.size
          clear ht hIB hlie HG5 HL5 HR5
          have hbase : w4.heap.size ≤ ((w5.alloc (.cells #[.int .u64 (mk : Int), .int .u32 (mck : Int), .bool mg, .slice mx mL mc] 48)).alloc (.cells #[.int .u64 (mk : Int), .int .u32 (mck : Int), .bool mg, .slice mx mL mc] 48)).heap.size := by simp; omega
          have hone : ∀ u ∈ [Value.int .u64 (mk : Int), .int .u32 (mck : Int), .bool mg, .slice mx mL mc], u.oneCell' = true := by intro u hu; simp only [List.mem_cons, List.not_mem_nil, or_false] at hu; rcases hu with rfl | rfl | rfl | rfl <;> rfl
          have hlit : IsX ((w5.alloc (.cells #[.int .u64 (mk : Int), .int .u32 (mck : Int), .bool mg, .slice mx mL mc] 48)).alloc (.cells #[.int .u64 (mk : Int), .int .u32 (mck : Int), .bool mg, .slice mx mL mc] 48)) 4 (.slice (some ⟨w5.heap.size + 1, 0, none⟩) 1 1) 1 [.int .u64 (mk : Int), .int .u32 (mck : Int), .bool mg, .slice mx mL mc] := by
            have h := IsX.lit (w5.alloc (.cells #[.int .u64 (mk : Int), .int .u32 (mck : Int), .bool mg, .slice mx mL mc] 48)) #[.int .u64 (mk : Int), .int .u32 (mck : Int), .bool mg, .slice mx mL mc] 48 4 1 rfl (by decide)
            rw [show (w5.alloc (.cells #[.int .u64 (mk : Int), .int .u32 (mck : Int), .bool mg, .slice mx mL mc] 48)).heap.size = w5.heap.size + 1 by simp] at h
            exact h
          have HLT9 := Lib.hid hlit
          clear hlit
          go_wp2_with (at_builtin; (refine wpList_append_X (by rfl) _ _ 33 33 rfl (fun _ _ _ => rfl) w4.heap.size 48 i0 _ 4 40 Tryz.underlying33 HIN.out HZ0.out HZ1.out HZ2.out rfl (by decide) _ (row ncl qs) n rfl (HO6.out.alloc _) _ 1 _ rfl HLT9.out hone (by unfold maxLen; omega) (by omega) hbase ?_))
          intro v6 w6 hown6 hgr6 hat6
          obtain ⟨x6, z6, rfl, _, _⟩ := ownsRow_slice hown6
          have HG8 := Lib.hid (HG7.out.app (q := (⟨mk, mck, mg, md⟩, .slice mx mL mc)) HI7.out rfl HLI.out (by rw [HQL.out]; exact hown6) hgr6 (by simpa using hat6))
          have hro := fun b (e : (Value.slice x n cap).ownBlock = some b) => (HG7.out.row.lt b e).1
          have HL8 := Lib.hid (HL7.out.grown hgr6 (fun e => by have := hro _ e; omega))
          have HR8 := Lib.hid (HR7.out.grown hgr6 (fun e => by have := hro _ e; omega))
          have HK8 := Lib.hid ((HK7.out.grown hgr6 (fun b e => .inr (hro b e))).setCell (p := ⟨w.heap.size + 1, 0, none⟩) (.inl rfl) (.slice x6 (n + 1) z6))
          have HB8 := Lib.hid ((HB7.out.grown hgr6 HB7.out.size (fun b e => by have := hro b e; omega)).setCell (p := ⟨w.heap.size + 1, 0, none⟩) (Nat.le_succ _) (.slice x6 (n + 1) z6))
          have HG9 := Lib.hid (HG8.out.kept ((Kept.refl (fun j => j = w.heap.size + 1) w6).setCell (p := ⟨w.heap.size + 1, 0, none⟩) (.inl rfl) (.slice x6 (n + 1) z6)) (fun b e => by omega))
          have HL9 := Lib.hid (HL8.out.set 0 (.slice x6 (n + 1) z6))
          have HR9 := Lib.hid (HR8.out.other (a := ⟨w.heap.size + 1, 0, none⟩) (by simp) (.slice x6 (n + 1) z6))
          have y0 := HL8.out.cell 0 rfl
          have yf := fun j => HL8.out.free j
          clear hown6 hgr6 hat6 z0 zf hro
          go_wp2
          go_roundw
          case rel => exact ⟨i + 1, bd, _, x6, n + 1, z6, by omega, by simp, by omega, by omega, HQ6, HDS, HDB, HG9, HL9, HR9, HB8, HK8⟩
          case measure => simp [intOf] <;> omega
        · have z3 := HL5.out.cell 3 rfl
          have zf := fun j => HL5.out.free j
          have e3 : IntKind.i64.wrap ((bd : Int) + 1) = (bd : Int) + 1 := IntWalk.i64_in _ (by omega)
          have HDS := Lib.hid (show qs.map (·.1) = ((s.load fr most).take (i + 1)).filter (told G) by
            rw [HQS.out, HSN.out, List.filter_append, List.filter_cons, if_neg (by rw [ht]; simp), List.filter_nil, List.append_nil])
          have HDB := Lib.hid (show bd + 1 = (((s.load fr most).take (i + 1)).filter (fun n => !told G n)).length by
            rw [HSN.out, List.filter_append, List.filter_cons, if_pos (by rw [ht]; rfl), List.length_append, ← HBD.out]
            rfl)
          have hlt8 := hlt4
          have HL9 := Lib.hid ((HL5.out.set 3 (.int .i64 ((bd : Int) + 1))).alloc (.cells #[.int .u64 0, .int .u32 0, .bool false, .slice none 0 0] 48))
          have HR9 := Lib.hid ((HR5.out.other (a := ⟨w.heap.size + 1, 3, none⟩) (by simp) (.int .i64 ((bd : Int) + 1))).alloc (.cells #[.int .u64 0, .int .u32 0, .bool false, .slice none 0 0] 48))
          have HG9 := Lib.hid (HG5.out.kept (((Kept.refl (fun j => j = w.heap.size + 1) w5).setCell (p := ⟨w.heap.size + 1, 3, none⟩) (.inl rfl) (.int .i64 ((bd : Int) + 1))).alloc (.cells #[.int .u64 0, .int .u32 0, .bool false, .slice none 0 0] 48)) (fun b e => by omega))
          have HK8 := Lib.hid ((HK5.out.setCell (p := ⟨w.heap.size + 1, 3, none⟩) (.inl rfl) (.int .i64 ((bd : Int) + 1))).alloc (.cells #[.int .u64 0, .int .u32 0, .bool false, .slice none 0 0] 48))
          have hb6 := HB5.out.setCell (p := ⟨w.heap.size + 1, 3, none⟩) (Nat.le_succ _) (.int .i64 ((bd : Int) + 1))
          have HB8 := Lib.hid (hb6.alloc hb6.size (.cells #[.int .u64 0, .int .u32 0, .bool false, .slice none 0 0] 48))
          clear ht hb6 HG5 HL5 HR5
          go_wp2
          go_roundw
          case rel => exact ⟨i + 1, bd + 1, qs, x, n, cap, by omega, by simp, by omega, by omega, HQL, HDS, HDB, HG9, HL9, HR9, HB8, HK8⟩
          case measure => simp [intOf] <;> omega
      · obtain rfl : i = N := by omega
        have HFI := Lib.hid (show (s.load fr most).take i = s.load fr most from List.take_of_length_le (by rw [HLD.out]; exact Nat.le_refl _))
        have l0 := HL.out.cell 0 rfl
        have l1 := HL.out.cell 1 rfl
        have l2 := HL.out.cell 2 rfl
        have l3 := HL.out.cell 3 rfl
        have z0 := HR.out.cell 0 rfl
        have z1 := HR.out.cell 1 rfl
        have z2 := HR.out.cell 2 rfl
        have z3 := HR.out.cell 3 rfl
        have zf := fun j => HR.out.free j
        have hF := finS4 HR.out HB.out (Nat.le_refl _) (.slice x n cap) (.int .u64 (s.next fr most : Int)) (.bool (s.more fr most)) (.int .i64 (bd : Int))
        have hk := ((((Kept.refl (fun j => j = w.heap.size) wr).setCell (p := ⟨w.heap.size, 0, none⟩) (.inl rfl) (.slice x n cap)).setCell (p := ⟨w.heap.size, 1, none⟩) (.inl rfl) (.int .u64 (s.next fr most : Int))).setCell (p := ⟨w.heap.size, 2, none⟩) (.inl rfl) (.bool (s.more fr most))).setCell (p := ⟨w.heap.size, 3, none⟩) (.inl rfl) (.int .i64 (bd : Int))
        have HGF := Lib.hid (HG.out.kept hk (fun b e => by omega))
        unfold set4 at hF
        have HF := Lib.hid hF
        clear hF hk
        go_wp2
        obtain ⟨y0, y1, y2, y3, yb⟩ := HF.out
        have hg := HGF.out
        have hq := HQL.out
        subst hq
        refine bodyPost_ret (v := .tuple #[.agg #[.slice x qs.length cap, .int .u64 (s.next fr most : Int), .bool (s.more fr most), .int .i64 (bd : Int)], .nilIface]) (by simp [results, Tryz.results12, go_sem, y0, y1, y2, y3]) rfl ⟨x, cap, qs, by rw [← HFI.out, ← HBD.out], by rw [← HFI.out]; exact HQS.out, hg.isN, fun b hb => by have := (hg.row.lt b hb.2).1; omega, fun q hq b hb => by have := ((hg.each q hq).2.2 b hb).1; omega, yb⟩

end Go.Proofs.YtoblbipkkdiddaaGreatDoor
end

section
namespace Go.Proofs.YtoblbipkkdiddaaGreatDoor
open Go.RowKit Go.Cor

theorem Tryz.sizeNdA : (Tryz.prog.info? 48).map (·.size) = some 4 := by kernel_rfl
theorem ndl_at {w : World} {v : Value} {ps : List (Ndl × Value)} (h : IsN w v ps) (T U : TypeId) (ht : Tryz.prog.underlying T = some (.slice U)) (hs : (Tryz.prog.info? U).map (·.size) = some 4) {i : Nat} {n : Ndl} {u : Value} (hx : ps[i]? = some (n, u)) :
    ∃ b o, (∀ W, (Instr.indexAt T v (.int .i64 (i : Int))).run Tryz.prog W = .ok (.pointer (some ⟨b, o, none⟩)) W) ∧ w.cell? ⟨b, o, none⟩ = some (.int .u64 (n.key : Int)) ∧ w.cell? ⟨b, o + 1, none⟩ = some (.int .u32 (n.cookie : Int)) ∧ w.cell? ⟨b, o + 2, none⟩ = some (.bool n.gone) ∧ w.cell? ⟨b, o + 3, none⟩ = some u ∧ IsB w u n.data := by
  have hi : i < ps.length := (List.getElem?_eq_some_iff.1 hx).1
  obtain ⟨b, o, hidx, _, hcell⟩ := indexAt_X h.1 T U ht hs i hi
  have g : ∀ j, j < 4 → w.cell? ⟨b, o + j, none⟩ = (ncl (n, u))[j]? := fun j hj => by
    have h1 := hcell j hj
    rw [row_get ncl_len hx j hj] at h1
    exact h1
  exact ⟨b, o, hidx, g 0 (by decide), g 1 (by decide), g 2 (by decide), g 3 (by decide), (h.2 _ (List.mem_of_getElem? hx)).1⟩
theorem Vready.kept {w w' : World} {g p k : Nat} {S T : Nat → Prop} {d : Dsk} {s : Vst} (h : Vready w g p S d k s) (hk : Kept T w w') (hT : ∀ b, S b → ¬ T b) : Vready w' g p S d k s := ⟨h.vl.kept hk hT, h.lies, h.ok, h.few, h.names⟩
/-- A volume behind calls: what it is, and what was left as it was. -/
structure VolR (w w' : World) (g p : Nat) (S S' : Nat → Prop) (d d' : Dsk) (s : Vst) (k' : Nat) (s' : Vst) : Prop where
  r : Vready w' g p S' d' k' s'
  kept : Kept S w w'
  low : ∀ b, S' b → S b ∨ w.heap.size ≤ b
  cap : d'.cap = d.cap
  names : d'.now.length = d.now.length
  used : d'.used + s.size = d.used + s'.size
theorem VolT.ready {w w' : World} {g p k' : Nat} {S : Nat → Prop} {d : Dsk} {s s' : Vst} (h : VolT w w' g p S d s k' s') (hk : k' + 12 ≤ 90000) (hn : d.now.length < 60) : ∃ S' d', VolR w w' g p S S' d d' s k' s' := by
  obtain ⟨d', ⟨S', h1, h2, h3⟩, h4, h5, h6, h7, h8, _⟩ := h
  exact ⟨S', d', ⟨⟨h1, h4, h5, hk, by rw [h7]; exact hn⟩, h2, h3, h6, h7, h8⟩⟩
theorem Vready.self {w w' : World} {g p k : Nat} {S : Nat → Prop} {d : Dsk} {s : Vst} (h : Vready w g p S d k s) (hb : Below w.heap.size w w') : VolR w w' g p S S d d s k s :=
  ⟨h.below hb, Kept.of_below hb (Nat.le_refl _), fun _ h => .inl h, rfl, rfl, rfl⟩
theorem VolR.trans {w w1 w2 : World} {g p k1 k2 : Nat} {S S1 S2 : Nat → Prop} {d d1 d2 : Dsk} {s s1 s2 : Vst} (h : VolR w w1 g p S S1 d d1 s k1 s1) (h2 : VolR w1 w2 g p S1 S2 d1 d2 s1 k2 s2) : VolR w w2 g p S S2 d d2 s k2 s2 :=
  ⟨h2.r, h.kept.trans h2.kept (fun j hj hlt => (h.low j hj).elim id (fun e => by omega)), fun b hb => (h2.low b hb).elim (fun e => h.low b e) (fun e => .inr (Nat.le_trans h.kept.size e)), h2.cap.trans h.cap, h2.names.trans h.names, by have := h.used; have := h2.used; omega⟩
theorem VolR.pre {w w1 w2 : World} {g p k : Nat} {S S' : Nat → Prop} {d d' : Dsk} {s s' : Vst} (hb : Below w.heap.size w w1) (h : VolR w1 w2 g p S S' d d' s k s') : VolR w w2 g p S S' d d' s k s' :=
  ⟨h.r, (Kept.of_below (S := S) hb (Nat.le_refl _)).trans h.kept (fun j hj _ => hj), fun b hb2 => (h.low b hb2).imp id (fun e => Nat.le_trans hb.size e), h.cap, h.names, h.used⟩
theorem VolR.post {w w1 w2 : World} {g p k : Nat} {S S' : Nat → Prop} {d d' : Dsk} {s s' : Vst} (h : VolR w w1 g p S S' d d' s k s') (hb : Below w1.heap.size w1 w2) : VolR w w2 g p S S' d d' s k s' :=
  ⟨h.r.below hb, h.kept.trans (Kept.of_below (S := fun _ => False) hb (Nat.le_refl _)) (fun _ h => h.elim), h.low, h.cap, h.names, h.used⟩

/-- What Take leaves. -/
def TakeT (w : World) (s : Vst) (fr most : Nat) (e : Ending) (w' : World) : Prop :=
  ∃ x c qs, e = .returned (.tuple #[loadv x qs.length c (s.next fr most) (s.more fr most) 0, .nilIface]) ∧ qs.map (·.1) = s.load fr most ∧ IsN w' (.slice x qs.length c) qs ∧ (∀ b, liesX (.slice x qs.length c) qs.length b → w.heap.size ≤ b) ∧ (∀ q ∈ qs, ∀ b, liesB q.2 q.1.data b → w.heap.size ≤ b) ∧ Below w.heap.size w w'
theorem take_v (fr most : Nat) (g p k : Nat) (S : Nat → Prop) (d : Dsk) (s : Vst) (w : World) (h : Vready w g p S d k s) (h1 : 1 ≤ most) (h2 : most ≤ 64) :
    Calls Tryz.prog 12 #[.pointer (some ⟨g, 0, none⟩), .int .u64 (fr : Int), .int .i64 (most : Int)] w (TakeT w s fr most) := by
  obtain ⟨X, hX, hv⟩ := h.lies.data
  have hbl : (X ++ nsB s.ns).length = s.size := by rw [List.length_append, hX, length_nsB]; rfl
  refine (take_p (fun _ => true) fr most (X ++ nsB s.ns) g p k S d s w h.sp ⟨hv, hbl, fun a n c e _ _ _ => by rw [e]; exact bytes_at hX, fun _ _ _ _ _ _ hG => by cases hG⟩ h1 h2).mono ?_
  rintro e w' ⟨x, c, qs, rfl, h3, h4, h5, h6, h7⟩
  have e1 : (s.load fr most).filter (told fun _ => true) = s.load fr most := List.filter_eq_self.2 (fun n _ => by unfold told; simp)
  have e2 : (s.load fr most).filter (fun n => !told (fun _ => true) n) = [] := List.filter_eq_nil_iff.2 (fun n _ => by unfold told; simp)
  rw [e1] at h3
  rw [e2]
  exact ⟨x, c, qs, rfl, h3, h4, h5, h6, h7⟩
set_option maxRecDepth 100000 in
set_option maxHeartbeats 1000000 in
theorem take_arg (fr most : Int) (g : Nat) (w : World) (h : most < 1 ∨ 64 < most) :
    Calls Tryz.prog 12 #[.pointer (some ⟨g, 0, none⟩), .int .u64 fr, .int .i64 most] w fun e w' => e = .returned (.tuple #[.agg #[.slice none 0 0, .int .u64 0, .bool false, .int .i64 0], ercode 1]) ∧ Below w.heap.size w w' := by
  have HB := Lib.hid (below_alloc w (.cells #[.slice none 0 0, .int .u64 0, .bool false, .int .i64 0] 35))
  rcases h with h | h
  · go_enter Tryz.func12, Tryz.ntmps12
    go_wp2
    exact bodyPost_ret (v := .tuple #[.agg #[.slice none 0 0, .int .u64 0, .bool false, .int .i64 0], ercode 1]) (by simp [results, Tryz.results12, go_sem]) rfl ⟨rfl, HB.out⟩
  · have h2 : ¬ most < 1 := by omega
    go_enter Tryz.func12, Tryz.ntmps12
    go_wp2
    exact bodyPost_ret (v := .tuple #[.agg #[.slice none 0 0, .int .u64 0, .bool false, .int .i64 0], ercode 1]) (by simp [results, Tryz.results12, go_sem]) rfl ⟨rfl, HB.out⟩
set_option maxRecDepth 100000 in
set_option maxHeartbeats 1000000 in
theorem take_nil (fr most : Int) (w : World) :
    Calls Tryz.prog 12 #[.pointer none, .int .u64 fr, .int .i64 most] w fun e w' => e = .returned (.tuple #[.agg #[.slice none 0 0, .int .u64 0, .bool false, .int .i64 0], ercode 15]) ∧ Below w.heap.size w w' := by
  have HB := Lib.hid (below_alloc w (.cells #[.slice none 0 0, .int .u64 0, .bool false, .int .i64 0] 35))
  go_enter Tryz.func12, Tryz.ntmps12
  go_wp2
  exact bodyPost_ret (v := .tuple #[.agg #[.slice none 0 0, .int .u64 0, .bool false, .int .i64 0], ercode 15]) (by simp [results, Tryz.results12, go_sem]) rfl ⟨rfl, HB.out⟩
set_option maxRecDepth 100000 in
set_option maxHeartbeats 1000000 in
theorem slay_nil (v : Value) (w : World) :
    Calls Tryz.prog 17 #[.pointer none, v] w fun e w' => e = .returned (.tuple #[.int .i64 0, ercode 15]) ∧ Below w.heap.size w w' := by
  go_enter Tryz.func17, Tryz.ntmps17
  go_wp2
  go_ret2
  exact ⟨rfl, Below.refl _ _⟩
/-- What needles laid on a volume leave. -/
def LaysT (w : World) (g p : Nat) (S : Nat → Prop) (d : Dsk) (s : Vst) (k' : Nat) (L : List Ndl) (e : Ending) (w' : World) : Prop :=
  e = .returned (.tuple #[.int .i64 ((s.lays L).2.1 : Int), cerr (s.lays L).2.2]) ∧ ∃ S' d', VolR w w' g p S S' d d' s k' (s.lays L).1
theorem VolR.more {w w' : World} {g p k k' : Nat} {S S' : Nat → Prop} {d d' : Dsk} {s s' : Vst} (h : VolR w w' g p S S' d d' s k s') (hk : k ≤ k') (hs : k' + 12 ≤ 90000) : VolR w w' g p S S' d d' s k' s' :=
  ⟨⟨h.r.vl.more hk (by omega), h.r.lies.more hk, h.r.ok, hs, h.r.names⟩, h.kept, h.low, h.cap, h.names, h.used⟩
theorem lay_grow (s : Vst) (n : Ndl) : (s.lay n).1 = s ∨ (s.lay n).1 = s.wrote n := by
  have hw : (s.write n).1 = s ∨ (s.write n).1 = s.wrote n := by
    unfold Vst.write
    split
    · exact .inl rfl
    · exact .inr rfl
  unfold Vst.lay
  split
  · exact .inl rfl
  · split
    · exact hw
    · split
      · exact .inl rfl
      · split
        · exact .inl rfl
        · split
          · exact hw
          · split
            · exact .inl rfl
            · exact .inl rfl
theorem lay_more (s : Vst) (n : Ndl) : (s.lay n).1.ns.length ≤ s.ns.length + 1 ∧ (s.lay n).1.size ≤ s.size + nlen n := by
  rcases lay_grow s n with h | h
  · rw [h]; exact ⟨Nat.le_succ _, Nat.le_add_right _ _⟩
  · rw [h, s.size_wrote]
    exact ⟨by simp [Vst.wrote], Nat.le_refl _⟩
theorem lays_cons (s : Vst) (n : Ndl) (r : List Ndl) : s.lays (n :: r) = if (s.lay n).2 ≠ 0 then ((s.lay n).1, 0, (s.lay n).2) else (((s.lay n).1.lays r).1, ((s.lay n).1.lays r).2.1 + 1, ((s.lay n).1.lays r).2.2) := rfl
/-- Where the laying of needles stands: what is left to lay on what there is now. -/
structure Lay1 (s si : Vst) (L : List Ndl) (i : Nat) : Prop where
  st : (s.lays L).1 = (si.lays (L.drop i)).1
  n : (s.lays L).2.1 = i + (si.lays (L.drop i)).2.1
  e : (s.lays L).2.2 = (si.lays (L.drop i)).2.2
theorem Lay1.next {s si : Vst} {L : List Ndl} {i : Nat} {m : Ndl} (h : Lay1 s si L i) (hm : L[i]? = some m) (hc : (si.lay m).2 = 0) : Lay1 s (si.lay m).1 L (i + 1) := by
  obtain ⟨hi, rfl⟩ := List.getElem?_eq_some_iff.1 hm
  have e : L.drop i = L[i] :: L.drop (i + 1) := List.drop_eq_getElem_cons hi
  obtain ⟨h1, h2, h3⟩ := h
  rw [e, lays_cons, if_neg (by simp [hc])] at h1 h2 h3
  simp only at h1 h2 h3
  exact ⟨h1, by rw [h2]; omega, h3⟩
theorem Lay1.stop {s si : Vst} {L : List Ndl} {i : Nat} {m : Ndl} (h : Lay1 s si L i) (hm : L[i]? = some m) (hc : (si.lay m).2 ≠ 0) : s.lays L = ((si.lay m).1, i, (si.lay m).2) := by
  obtain ⟨hi, rfl⟩ := List.getElem?_eq_some_iff.1 hm
  have e : L.drop i = L[i] :: L.drop (i + 1) := List.drop_eq_getElem_cons hi
  obtain ⟨h1, h2, h3⟩ := h
  rw [e, lays_cons, if_pos hc] at h1 h2 h3
  simp only [Nat.add_zero] at h1 h2 h3
  exact Prod.ext h1 (Prod.ext h2 h3)
theorem Lay1.all {s si : Vst} {L : List Ndl} (h : Lay1 s si L L.length) : s.lays L = (si, L.length, 0) := by
  obtain ⟨h1, h2, h3⟩ := h
  rw [List.drop_length] at h1 h2 h3
  exact Prod.ext h1 (Prod.ext h2 h3)
set_option maxRecDepth 100000 in
set_option maxHeartbeats 2000000 in
theorem slays_v (v : Value) (ps : List (Ndl × Value)) (g p k : Nat) (S : Nat → Prop) (d : Dsk) (s : Vst) (w : World) (h : Vready w g p S d k s) (hv : IsN w v ps) (hf : ∀ x ∈ ps, x.1.fits) (hS : ∀ b, liesX v ps.length b → ¬ S b) (hD : ∀ x ∈ ps, ∀ b, liesB x.2 x.1.data b → ¬ S b)
    (few : s.ns.length + ps.length + 1 < 4096) (cap : d.used + tot (ps.map (·.1)) ≤ d.cap) (hk : k + 4 * ps.length + 12 ≤ 90000) :
    Calls Tryz.prog 17 #[.pointer (some ⟨g, 0, none⟩), v] w (LaysT w g p S d s (k + 4 * ps.length) (ps.map (·.1))) := by
  obtain ⟨N, hN⟩ : ∃ N, ps.length = N := ⟨_, rfl⟩
  rw [hN] at few hk hS ⊢
  obtain ⟨L, hL⟩ : ∃ L, ps.map (·.1) = L := ⟨_, rfl⟩
  have hLl : L.length = N := by rw [← hL, List.length_map, hN]
  rw [hL] at cap ⊢
  have hlen := fun W => len_X (P := Tryz.prog) hv.1 33 3 48 Tryz.underlying33 W
  rw [hN] at hlen
  have HV := Lib.hid hv
  have HN := Lib.hid hN
  have HL := Lib.hid hL
  have HLL := Lib.hid hLl
  have HF := Lib.hid hf
  have HS := Lib.hid hS
  have HD := Lib.hid hD
  have HNL := Lib.hid few
  have HCAP := Lib.hid cap
  have HK := Lib.hid hk
  have hN4 : N < 4096 := by omega
  have H0 := Lib.hid (h.self (Below.refl _ w))
  have HLT := Lib.hid h.vl.lt
  have HUS := Lib.hid (Nat.le_refl d.used)
  clear h hv hf hS hD few cap hk hN hL hLl
  go_enter Tryz.func17, Tryz.ntmps17
  go_wp2_with fail
  go_loopw [14] (fun c wr => ∃ (i : Nat) (si : Vst) (Si : Nat → Prop) (di : Dsk), i ≤ N ∧ c = .int .i64 (i : Int) ∧ Hid (Lay1 s si L i) ∧ Hid (VolR w wr g p S Si d di s (k + 4 * i) si) ∧ Hid (si.ns.length ≤ s.ns.length + i) ∧ Hid (si.size + tot (L.drop i) ≤ s.size + tot L)) (fun c _ => (N - intOf c).toNat)
  case atStart => exact ⟨0, s, S, d, Nat.zero_le _, rfl, Lib.hid ⟨rfl, by simp, rfl⟩, H0, Lib.hid (Nat.le_refl _), Lib.hid (Nat.le_refl _)⟩
  case round =>
    obtain ⟨i, si, Si, di, hiN, rfl, H1, HR, HFW, HSZ⟩ := hrel
    clear H0
    have e2 : IntKind.i64.wrap ((i : Int) + 1) = (i : Int) + 1 := IntWalk.i64_in _ (by omega)
    by_cases hi : i < N
    · obtain ⟨⟨m, mv⟩, hpi⟩ : ∃ x, ps[i]? = some x := ⟨_, List.getElem?_eq_getElem (by rw [HN.out]; exact hi)⟩
      have hmem := List.mem_of_getElem? hpi
      obtain ⟨ma, mL, mc, hmv⟩ : ∃ a n c, mv = .slice a n c := by obtain ⟨a, c, e, _⟩ := (HV.out.2 _ hmem).1; exact ⟨a, _, c, e⟩
      subst hmv
      have hvr : IsN wr v ps := ⟨HV.out.1.kept HR.out.kept (fun b hb => HS.out b (by rw [HN.out] at hb; exact hb)), fun x hx => ⟨(HV.out.2 x hx).1.kept HR.out.kept (HD.out x hx), (HV.out.2 x hx).2⟩⟩
      obtain ⟨b1, o1, hx1, a0, a1, a2, a3, ha⟩ := ndl_at hvr 33 48 Tryz.underlying33 Tryz.sizeNdA hpi
      have hLi : L[i]? = some m := by rw [← HL.out, List.getElem?_map, hpi]; rfl
      have hdrop : tot (L.drop i) = nlen m + tot (L.drop (i + 1)) := by
        obtain ⟨hi2, e⟩ := List.getElem?_eq_some_iff.1 hLi
        rw [List.drop_eq_getElem_cons hi2, e]
        rfl
      have hba := below_alloc wr (.cells #[.int .u64 (m.key : Int), .int .u32 (m.cookie : Int), .bool m.gone, .slice ma mL mc] 48)
      have hlay := lay_v m (.slice ma mL mc) g p (k + 4 * i) Si di si (wr.alloc (.cells #[.int .u64 (m.key : Int), .int .u32 (m.cookie : Int), .bool m.gone, .slice ma mL mc] 48)) (HR.out.r.below hba) (ha.mono hba (Nat.le_refl _)) (fun b hb => fun hS => by
        rcases HR.out.low b hS with h1 | h1
        · exact HD.out _ hmem b hb h1
        · have h2 := (HV.out.2 _ hmem).1.lies_lt hb
          omega) (HF.out _ hmem) ⟨by have := HFW.out; have := HNL.out; omega, fun _ => by have := HR.out.used; have := HR.out.cap; have := HSZ.out; have := HCAP.out; omega⟩
      have HLY := Lib.hid hlay
      have HBA := Lib.hid hba
      have HLI := Lib.hid hLi
      have HDR := Lib.hid hdrop
      have hmo := lay_more si m
      have HMO := Lib.hid hmo
      by_cases hc : (si.lay m).2 = 0
      · have HNX := Lib.hid (H1.out.next hLi hc)
        rw [hc, cerr_0] at HLY
        obtain ⟨s2, hs2⟩ : ∃ s2, (si.lay m).1 = s2 := ⟨_, rfl⟩
        rw [hs2] at HNX HLY HMO
        obtain ⟨mk, mck, mg, md⟩ := m
        dsimp only at a0 a1 a2 a3
        clear ha hlay hLi hdrop hmo hc hs2 hmem hpi hvr hba
        go_wp2_with fail
        refine HLY.out.mono ?_
        rintro e w2 ⟨rfl, ht⟩
        obtain ⟨S2, d2, hr2⟩ := ht.ready (by have := HK.out; omega) HR.out.r.names
        have HR2 := Lib.hid (HR.out.trans (VolR.pre HBA.out hr2))
        clear ht hr2 a0 a1 a2 a3
        go_wp2
        go_roundw
        case rel => exact ⟨i + 1, s2, S2, d2, by omega, by simp, HNX, HR2, Lib.hid (by have := HMO.out.1; have := HFW.out; omega), Lib.hid (by have := HMO.out.2; have := HSZ.out; have := HDR.out; omega)⟩
        case measure => simp [intOf] <;> omega
      · have HST := Lib.hid (H1.out.stop hLi hc)
        rw [cerr_pos hc] at HLY
        obtain ⟨s2, hs2⟩ : ∃ s2, (si.lay m).1 = s2 := ⟨_, rfl⟩
        obtain ⟨q, hq⟩ : ∃ q, (si.lay m).2 = q := ⟨_, rfl⟩
        rw [hs2, hq] at HST HLY
        rw [hq] at hc
        have HQ := Lib.hid hc
        obtain ⟨mk, mck, mg, md⟩ := m
        dsimp only at a0 a1 a2 a3
        clear ha hlay hLi hdrop hmo HMO hc hs2 hq hmem hpi hvr hba
        go_wp2_with fail
        refine HLY.out.mono ?_
        rintro e w2 ⟨rfl, ht⟩
        obtain ⟨S2, d2, hr2⟩ := ht.ready (by have := HK.out; omega) HR.out.r.names
        have HR2 := Lib.hid ((HR.out.trans (VolR.pre HBA.out hr2)).more (show k + 4 * i + 4 ≤ k + 4 * N by omega) HK.out)
        clear ht hr2 a0 a1 a2 a3
        go_wp2
        go_ret2
        refine ⟨?_, S2, d2, ?_⟩
        · rw [HST.out]
          simp only
          rw [cerr_pos HQ.out]
          rfl
        · rw [HST.out]
          exact HR2.out
    · obtain rfl : i = N := by omega
      have HAL := Lib.hid (show s.lays L = (si, i, 0) by have h1 := H1.out; rw [← HLL.out] at h1 ⊢; exact h1.all)
      go_wp2
      go_ret2
      refine ⟨?_, Si, di, ?_⟩
      · rw [HAL.out]
        rfl
      · rw [HAL.out]
        exact HR.out
set_option maxRecDepth 100000 in
set_option maxHeartbeats 1000000 in
theorem sall_nil (v : Value) (w : World) :
    Calls Tryz.prog 20 #[.pointer none, v] w fun e w' => e = .returned (.tuple #[.int .i64 0, ercode 15]) ∧ Below w.heap.size w w' := by
  have HT := Lib.hid (take_nil 0 64 w)
  go_enter Tryz.func20, Tryz.ntmps20
  go_wp2_with fail
  go_loopw [6, 7, 8] (fun a b c wr => a = .int .i64 0 ∧ b = .int .u64 0 ∧ c = .bool true ∧ wr = w) (fun _ _ _ _ => 0)
  case atStart => exact ⟨rfl, rfl, rfl, rfl⟩
  case round =>
    obtain ⟨rfl, rfl, rfl, rfl⟩ := hrel
    go_wp2_with fail
    refine HT.out.mono ?_
    rintro e w1 ⟨rfl, hb⟩
    have HB := Lib.hid (hb.alloc hb.size (.cells #[.slice none 0 0, .int .u64 0, .bool false, .int .i64 0] 35))
    clear hb
    go_wp2
    go_ret2
    exact ⟨rfl, HB.out⟩
theorem lays_le : ∀ (L : List Ndl) (s : Vst), (s.lays L).2.1 ≤ L.length
  | [], _ => Nat.le_refl _
  | n :: r, s => by
    rw [lays_cons]
    split
    · exact Nat.zero_le _
    · have := lays_le r (s.lay n).1
      simp only [List.length_cons]
      omega
set_option maxRecDepth 100000 in
set_option maxHeartbeats 2000000 in
theorem sall_v (ga pa ka gb pb kb : Nat) (Sa Sb : Nat → Prop) (da db : Dsk) (sa sb : Vst) (w : World) (ha : Vready w ga pa Sa da ka sa) (hb : Vready w gb pb Sb db kb sb) (hab : ∀ b, Sa b → ¬ Sb b) (hI : sa.idx.length ≤ 64)
    (few : sb.ns.length + sa.idx.length + 1 < 4096) (cap : db.used + tot sa.tops ≤ db.cap) (hk : kb + 256 + 12 ≤ 90000) :
    Calls Tryz.prog 20 #[.pointer (some ⟨ga, 0, none⟩), .pointer (some ⟨gb, 0, none⟩)] w (LaysT w gb pb Sb db sb (kb + 256) sa.tops) := by
  obtain ⟨hld, hmr⟩ := sa.load_all hI
  have hTK := take_v 0 64 ga pa ka Sa da sa w ha (by decide) (by decide)
  unfold TakeT at hTK
  rw [hld, hmr] at hTK
  have HTK := Lib.hid hTK
  obtain ⟨NX, hNX⟩ : ∃ NX, sa.next 0 64 = NX := ⟨_, rfl⟩
  rw [hNX] at HTK
  have HLEN := Lib.hid sa.tops_len
  have HFIT := Lib.hid (show ∀ n ∈ sa.tops, n.fits from fun n hn => (ha.ok.all n (newest_mem (Vst.tops_mem hn)).1).1)
  have HLB := Lib.hid hb.vl.lt
  have HHB := Lib.hid hb
  have HI := Lib.hid hI
  have HFEW := Lib.hid few
  have HCAP := Lib.hid cap
  have HK := Lib.hid hk
  clear ha hb hab hI few cap hk hld hmr hTK hNX
  go_enter Tryz.func20, Tryz.ntmps20
  go_wp2_with fail
  go_loopw [6, 7, 8] (fun a b c wr => (a = .int .i64 0 ∧ b = .int .u64 0 ∧ c = .bool true ∧ wr = w) ∨ (∃ (S' : Nat → Prop) (d' : Dsk) (nx : Nat) (M : Nat), a = .int .i64 (M : Int) ∧ b = .int .u64 (nx : Int) ∧ c = .bool false ∧ Hid ((sb.lays sa.tops).2.1 = M) ∧ Hid ((sb.lays sa.tops).2.2 = 0) ∧ Hid (VolR w wr gb pb Sb S' db d' sb (kb + 256) (sb.lays sa.tops).1))) (fun _ _ c _ => match c with | .bool true => 1 | _ => 0)
  case atStart => exact .inl ⟨rfl, rfl, rfl, rfl⟩
  case round =>
    rcases hrel with ⟨rfl, rfl, rfl, rfl⟩ | ⟨S', d', nx, M, rfl, rfl, rfl, HM, HE, HR⟩
    · go_wp2_with fail
      refine HTK.out.mono ?_
      rintro e w1 ⟨x, c, qs, rfl, hqs, hN, hlx, hld, hb1⟩
      obtain ⟨Q, hQ⟩ : ∃ Q, qs.length = Q := ⟨_, rfl⟩
      have hQI : Q = sa.idx.length := by rw [← hQ, ← HLEN.out, ← hqs, List.length_map]
      have hQ64 : Q ≤ 64 := by rw [hQI]; exact HI.out
      rw [hQ] at hN hlx ⊢
      have HS1 := Lib.hid hb1.size
      have hb2 := hb1.alloc hb1.size (.cells #[.slice x Q c, .int .u64 (NX : Int), .bool false, .int .i64 0] 35)
      have hbx := Blk.new w1 #[.slice x Q c, .int .u64 (NX : Int), .bool false, .int .i64 0] 35
      have hlay := slays_v (.slice x Q c) qs gb pb kb Sb db sb (w1.alloc (.cells #[.slice x Q c, .int .u64 (NX : Int), .bool false, .int .i64 0] 35)) (HHB.out.below hb2) (hN.mono (below_alloc w1 _) (Nat.le_refl _))
        (fun q hq => HFIT.out _ (by rw [← hqs]; exact List.mem_map_of_mem hq)) (fun b hb hs => by have h1 := hlx b (by rw [← hQ]; rw [← hQ] at hb; exact hb); have h2 := HLB.out b hs; omega) (fun q hq b hb hs => by have h1 := hld q hq b hb; have h2 := HLB.out b hs; omega)
        (by rw [hQ, hQI]; exact HFEW.out) (by rw [hqs]; exact HCAP.out) (by have := HK.out; omega)
      rw [hqs, hQ] at hlay
      have HLAY := Lib.hid hlay
      have HB2 := Lib.hid hb2
      have HBX := Lib.hid hbx
      have HQ := Lib.hid hQ64
      clear hqs hN hlx hld hb1 hQ hQI hb2 hbx hlay hQ64
      go_wp2_with fail
      refine HLAY.out.mono ?_
      rintro e w2 ⟨rfl, S', d', hr⟩
      have HR := Lib.hid ((VolR.pre HB2.out hr).more (show kb + 4 * Q ≤ kb + 256 by have := HQ.out; omega) HK.out)
      have HX2 := Lib.hid (HBX.out.kept hr.kept (fun hs => by have := HLB.out _ hs; have := HS1.out; omega))
      obtain ⟨M, hM⟩ : ∃ M, (sb.lays sa.tops).2.1 = M := ⟨_, rfl⟩
      have hM64 := lays_le sa.tops sb
      rw [hM, HLEN.out] at hM64
      have e0 : IntKind.i64.wrap (M : Int) = (M : Int) := IntWalk.i64_in _ (by have := HI.out; omega)
      rw [hM]
      have HM := Lib.hid hM
      clear hr hM HTK HLAY
      by_cases hc : (sb.lays sa.tops).2.2 = 0
      · have HE := Lib.hid hc
        have y1 := HX2.out.cell 1 rfl
        have y2 := HX2.out.cell 2 rfl
        rw [hc, cerr_0]
        clear hc
        go_wp2_with fail
        go_quiet (fail)
        have HR9 := Lib.hid (HR.out.post (below_drewN (Below.refl w2.heap.size w2) nq))
        go_wp2
        go_roundw
        case rel => exact .inr ⟨S', d', NX, M, rfl, rfl, rfl, HM, HE, HR9⟩
        case measure => exact Nat.zero_lt_one
      · obtain ⟨q, hq⟩ : ∃ q, (sb.lays sa.tops).2.2 = q := ⟨_, rfl⟩
        rw [hq] at hc ⊢
        rw [cerr_pos hc]
        have HC := Lib.hid hc
        have HQQ := Lib.hid hq
        clear hc hq
        go_wp2
        go_ret2
        refine ⟨?_, S', d', HR.out⟩
        rw [HM.out, HQQ.out, cerr_pos HC.out]
        rfl
    · go_wp2
      go_ret2
      refine ⟨?_, S', d', HR.out⟩
      rw [HM.out, HE.out]
      rfl
set_option maxRecDepth 100000 in
set_option maxHeartbeats 1000000 in
theorem sbeh_nil (g : Nat) (w : World) :
    Calls Tryz.prog 19 #[.pointer (some ⟨g, 0, none⟩), .pointer none] w fun e w' => e = .returned (.tuple #[.slice none 0 0, ercode 15]) ∧ Below w.heap.size w w' := by
  go_enter Tryz.func19, Tryz.ntmps19
  go_wp2
  go_ret2
  exact ⟨rfl, Below.refl _ _⟩
/-- Has b no position of a's, or has it one where a's is gone? -/
def lackP (b : Vst) (p : Pos) : Bool := match newest b.ns p.key with
  | none => true
  | some o => p.gone && !o.gone
theorem from_one {l : List Pos} (hs : Asc l) (k : Nat) : Q.fromL l k 1 = [] ∧ fnd l k = none ∨ ∃ q, Q.fromL l k 1 = [q] ∧ (q.key ≠ k ∧ fnd l k = none ∨ q.key = k ∧ fnd l k = some q) := by
  unfold Q.fromL
  by_cases hp : psn l k < l.length
  · obtain ⟨q, hq⟩ : ∃ q, l[psn l k]? = some q := ⟨_, List.getElem?_eq_getElem hp⟩
    refine .inr ⟨q, ?_, ?_⟩
    · obtain ⟨h1, h2⟩ := List.getElem?_eq_some_iff.1 hq
      rw [List.drop_eq_getElem_cons h1, h2]
      rfl
    · by_cases hk : q.key = k
      · exact .inr ⟨hk, by unfold fnd; rw [hq]; simp [hk]⟩
      · exact .inl ⟨hk, by unfold fnd; rw [hq]; simp [hk]⟩
  · refine .inl ⟨by rw [List.drop_eq_nil_of_le (by omega)]; rfl, ?_⟩
    unfold fnd
    rw [List.getElem?_eq_none (by omega)]
    rfl
set_option maxRecDepth 100000 in
set_option maxHeartbeats 1000000 in
theorem lacks_v (p : Pos) (g pp k : Nat) (S : Nat → Prop) (d : Dsk) (s : Vst) (w : World) (h : Vready w g pp S d k s) :
    Calls Tryz.prog 40 #[.pointer (some ⟨g, 0, none⟩), Q.pval p] w fun e w' => e = .returned (.bool (lackP s p)) ∧ Below w.heap.size w w' := by
  have HKY := Lib.hid (fun wx (hb : Below w.heap.size w wx) => keys_v p.key 1 g pp k S d s wx (h.below hb))
  have hcs := from_one s.idx_asc p.key
  obtain ⟨l, hl⟩ : ∃ l, Q.fromL s.idx p.key 1 = l := ⟨_, rfl⟩
  rw [hl] at hcs
  simp only [hl] at HKY
  have hnw : (fnd s.idx p.key = none → lackP s p = true) ∧ ∀ q, fnd s.idx p.key = some q → lackP s p = (p.gone && !q.gone) := by
    constructor
    · intro hf
      cases ho : newest s.ns p.key with
      | none => unfold lackP; rw [ho]
      | some o =>
        obtain ⟨a, b, _, hf2⟩ := Vst.fnd_some ho
        rw [hf2] at hf
        cases hf
    · intro q hf
      cases ho : newest s.ns p.key with
      | none => rw [Vst.fnd_none ho] at hf; cases hf
      | some o =>
        obtain ⟨a, b, _, hf2⟩ := Vst.fnd_some ho
        rw [hf2] at hf
        cases hf
        unfold lackP
        rw [ho]
        rfl
  have HNW := Lib.hid hnw
  obtain ⟨B, hB⟩ : ∃ B, lackP s p = B := ⟨_, rfl⟩
  rw [hB] at HNW ⊢
  obtain ⟨pk, po, pl, pc, pg⟩ := p
  dsimp only at hcs HKY HNW
  have HAL := Lib.hid (below_alloc w (.cells #[.int .u64 (pk : Int), .int .i64 po, .int .i64 pl, .int .u32 (pc : Int), .bool pg] 83))
  clear h hl hnw hB
  go_enter Tryz.func40, Tryz.ntmps40
  go_wp2_with fail
  refine (HKY.out _ HAL.out).mono ?_
  rintro e w1 ⟨v', rfl, hown, hb1⟩
  have HP1 := Lib.hid (show Q.IsP w1 v' l from Q.IsP.own (by exact hown) rfl)
  have HB1 := Lib.hid (HAL.out.trans (hb1.mono HAL.out.size))
  have HX1 := Lib.hid ((Blk.new w #[.int .u64 (pk : Int), .int .i64 po, .int .i64 pl, .int .u32 (pc : Int), .bool pg] 83).below hb1 (by simp))
  have hlen := fun W => Q.len_P (P := Tryz.prog) HP1.out rfl 80 3 83 Tryz.underlying80 W
  clear hown hb1 HKY
  rcases hcs with ⟨rfl, hf⟩ | ⟨q, rfl, ⟨hq, hf⟩ | ⟨hq, hf⟩⟩
  · have HBT := Lib.hid (HNW.out.1 hf)
    simp only [List.length_nil] at hlen
    clear hf HNW
    go_wp2_with fail
    go_quiet (fail)
    go_wp2
    go_ret
    exact ⟨by rw [HBT.out]; rfl, below_drewN HB1.out _⟩
  · have HBT := Lib.hid (HNW.out.1 hf)
    obtain ⟨b, o, hidx, hp⟩ := Q.indexAt_P (P := Tryz.prog) HP1.out 80 83 Tryz.underlying80 Tryz.sizePosSh 0 (Nat.lt_succ_self 0)
    have hix : ∀ W, (Instr.indexAt 80 v' (.int .i64 0)).run Tryz.prog W = .ok (.pointer (some ⟨b, o, none⟩)) W := hidx
    obtain ⟨c0, _⟩ := hp
    have c0' : w1.cell? ⟨b, o, none⟩ = some (.int .u64 (q.key : Int)) := c0
    obtain ⟨QK, hQK⟩ : ∃ K, q.key = K := ⟨_, rfl⟩
    rw [hQK] at hq c0'
    have hk' : ¬ (QK : Int) = (pk : Int) := by omega
    have hkb : ((QK : Int) == (pk : Int)) = false := beq_eq_false_iff_ne.2 hk'
    have x0 := HX1.out.cell 0 rfl
    simp only [List.length_singleton] at hlen
    clear hf HNW hidx c0 hQK
    go_wp2_with fail
    go_quiet (fail)
    go_wp2
    go_ret
    exact ⟨by rw [HBT.out]; rfl, below_drewN HB1.out _⟩
  · have HBT := Lib.hid (HNW.out.2 q hf)
    obtain ⟨b, o, hidx, hp⟩ := Q.indexAt_P (P := Tryz.prog) HP1.out 80 83 Tryz.underlying80 Tryz.sizePosSh 0 (Nat.lt_succ_self 0)
    have hix : ∀ W, (Instr.indexAt 80 v' (.int .i64 0)).run Tryz.prog W = .ok (.pointer (some ⟨b, o, none⟩)) W := hidx
    obtain ⟨c0, _, _, _, c4⟩ := hp
    have c0' : w1.cell? ⟨b, o, none⟩ = some (.int .u64 (pk : Int)) := by rw [← hq]; exact c0
    have c4' : w1.cell? ⟨b, o + 4, none⟩ = some (.bool q.gone) := c4
    obtain ⟨qg, hqg⟩ : ∃ K, q.gone = K := ⟨_, rfl⟩
    rw [hqg] at c4' HBT
    have x0 := HX1.out.cell 0 rfl
    have x4 := HX1.out.cell 4 rfl
    simp only [List.length_singleton] at hlen
    clear hf HNW hidx c0 c4 hqg hq
    go_wp2_with fail
    go_quiet (fail)
    cases pg with
    | false =>
      go_wp2
      go_ret
      exact ⟨by rw [HBT.out]; rfl, below_drewN HB1.out _⟩
    | true =>
      go_wp2
      go_ret
      exact ⟨by rw [HBT.out]; rfl, below_drewN HB1.out _⟩
theorem Tryz.infoU64K : (Tryz.prog.info? 23).map (fun i => (i.zero, i.size, i.bytes)) = some (some (.int .u64 0), 1, 8) := by kernel_rfl
def kcl (k : Nat) : List Value := [.int .u64 (k : Int)]
set_option maxRecDepth 100000 in
set_option maxHeartbeats 2000000 in
theorem sbeh_v (ga pa ka gb pb kb : Nat) (Sa Sb : Nat → Prop) (da db : Dsk) (sa sb : Vst) (w : World) (ha : Vready w ga pa Sa da ka sa) (hb : Vready w gb pb Sb db kb sb) :
    Calls Tryz.prog 19 #[.pointer (some ⟨ga, 0, none⟩), .pointer (some ⟨gb, 0, none⟩)] w fun e w' => ∃ x c, e = .returned (.tuple #[.slice x (behindL sa sb).length c, .nilIface]) ∧ Below w.heap.size w w' := by
  have hI := sa.idx_len
  have hfew := ha.ok.few
  obtain ⟨I, hIe⟩ : ∃ I, sa.idx.length = I := ⟨_, rfl⟩
  have hky := keys_v 0 4096 ga pa ka Sa da sa w ha
  have hfl : Q.fromL sa.idx 0 4096 = sa.idx := by
    unfold Q.fromL
    rw [psn_zero, List.drop_zero]
    exact List.take_of_length_le (by show sa.idx.length ≤ 4096; omega)
  rw [hfl, hIe] at hky
  have HKY := Lib.hid hky
  have HB := Lib.hid hb
  have HI := Lib.hid hIe
  have hI4 : I < 4096 := by omega
  obtain ⟨l, hl⟩ : ∃ l, sa.idx = l := ⟨_, rfl⟩
  have hbe : behindL sa sb = (l.filter (lackP sb)).map Pos.key := by rw [← hl]; rfl
  rw [hl] at HKY HI
  rw [hbe]
  obtain ⟨i0, hi, hz0, hz1, hz2⟩ := info_parts Tryz.infoU64K
  have HIN := Lib.hid hi
  have HZ0 := Lib.hid hz0
  have HZ1 := Lib.hid hz1
  have HZ2 := Lib.hid hz2
  clear ha hb hI hfew hIe hky hfl hl hbe hi hz0 hz1 hz2
  go_enter Tryz.func19, Tryz.ntmps19
  go_wp2_with fail
  refine HKY.out.mono ?_
  rintro e w1 ⟨v', rfl, hown, hb1⟩
  have HP1 := Lib.hid (show Q.IsP w1 v' l from Q.IsP.own (by exact hown) HI.out.symm)
  have HB1 := Lib.hid hb1
  have hlen := fun W => Q.len_P (P := Tryz.prog) HP1.out HI.out 80 3 83 Tryz.underlying80 W
  clear hown hb1 HKY
  go_wp2_with fail
  go_loopw [6, 19] (fun a c wr => ∃ (i n cap : Nat) (x : Option Addr), i ≤ I ∧ n ≤ i ∧ a = .slice x n cap ∧ c = .int .i64 (i : Int) ∧ Hid (n = ((l.take i).filter (lackP sb)).length) ∧ Hid (wr.ownsRow w1.heap.size 23 1 (.slice x n cap) n (row kcl (((l.take i).filter (lackP sb)).map Pos.key))) ∧ Hid (Below w1.heap.size w1 wr)) (fun _ c _ => (I - intOf c).toNat)
  case atStart => exact ⟨0, 0, 0, none, Nat.zero_le _, Nat.le_refl _, rfl, rfl, Lib.hid rfl, Lib.hid (World.ownsRow_nil _ _ _ _), Lib.hid (Below.refl _ _)⟩
  case round =>
    obtain ⟨i, n, cap, x, hiI, hni, rfl, rfl, HN, HO, HBr⟩ := hrel
    by_cases hi : i < I
    · have HPr := Lib.hid (Q.IsP.mono HP1.out HBr.out (Nat.le_refl _))
      obtain ⟨B, o, hidx, hp⟩ := Q.indexAt_P (P := Tryz.prog) HPr.out 80 83 Tryz.underlying80 Tryz.sizePosSh i (by rw [HI.out]; exact hi)
      have hget := get_pat (show i < l.length by rw [HI.out]; exact hi)
      obtain ⟨⟨pk, po, pl, pc, pg⟩, hpp⟩ : ∃ q, pat l i = q := ⟨_, rfl⟩
      rw [hpp] at hp hget
      obtain ⟨c0, c1, c2, c3, c4⟩ := hp
      dsimp only at c0 c1 c2 c3 c4
      have HSN := Lib.hid (show l.take (i + 1) = l.take i ++ [⟨pk, po, pl, pc, pg⟩] by rw [List.take_add_one, hget]; rfl)
      have HLK := Lib.hid (fun wx (hb : Below w1.heap.size w1 wx) => lacks_v ⟨pk, po, pl, pc, pg⟩ gb pb kb Sb db sb wx ((HB.out.below HB1.out).below hb))
      obtain ⟨q, hq⟩ : ∃ q, lackP sb ⟨pk, po, pl, pc, pg⟩ = q := ⟨_, rfl⟩
      rw [hq] at HLK
      have HQ := Lib.hid hq
      have e2 : IntKind.i64.wrap ((i : Int) + 1) = (i : Int) + 1 := IntWalk.i64_in _ (by omega)
      have HA := Lib.hid (HBr.out.alloc HBr.out.size (.cells #[.int .u64 (pk : Int), .int .i64 po, .int .i64 pl, .int .u32 (pc : Int), .bool pg] 83))
      clear hpp hget hq
      go_wp2_with fail
      refine (HLK.out _ HA.out).mono ?_
      rintro e w5 ⟨rfl, hb5⟩
      have HX5 := Lib.hid ((Blk.new wr #[.int .u64 (pk : Int), .int .i64 po, .int .i64 pl, .int .u32 (pc : Int), .bool pg] 83).below hb5 (by simp))
      have HB5 := Lib.hid (HA.out.trans (hb5.mono HA.out.size))
      have HO5 := Lib.hid (ownsRow_below (HO.out.alloc (.cells #[.int .u64 (pk : Int), .int .i64 po, .int .i64 pl, .int .u32 (pc : Int), .bool pg] 83)) hb5 (Nat.le_refl _))
      have hs5 : wr.heap.size < w5.heap.size := HX5.out.lt
      clear hb5 c0 c1 c2 c3 c4 HLK
      cases q with
      | true =>
        have HN6 := Lib.hid (show n + 1 = ((l.take (i + 1)).filter (lackP sb)).length by rw [HSN.out, List.filter_append, List.filter_cons, if_pos HQ.out, List.length_append, ← HN.out]; rfl)
        have HL6 := Lib.hid (show row kcl (((l.take (i + 1)).filter (lackP sb)).map Pos.key) = row kcl (((l.take i).filter (lackP sb)).map Pos.key) ++ [.int .u64 (pk : Int)] by rw [HSN.out, List.filter_append, List.filter_cons, if_pos HQ.out, List.map_append, row_append]; rfl)
        have HL7 := Lib.hid (IsX.lit w5 #[.int .u64 (pk : Int)] 23 1 1 rfl (by decide))
        have hbase : w1.heap.size ≤ (w5.alloc (.cells #[.int .u64 (pk : Int)] 23)).heap.size := by have := HB5.out.size; simp; omega
        have hone : ∀ u ∈ [Value.int .u64 (pk : Int)], u.oneCell' = true := by intro u hu; simp only [List.mem_cons, List.not_mem_nil, or_false] at hu; rw [hu]; rfl
        have x0 := HX5.out.cell 0 rfl
        go_wp2_with (at_builtin; (refine wpList_append_X (by rfl) _ _ 57 57 rfl (fun _ _ _ => rfl) w1.heap.size 23 i0 _ 1 8 Tryz.underlying57 HIN.out HZ0.out HZ1.out HZ2.out rfl (by decide) _ _ n rfl (HO5.out.alloc _) _ 1 _ rfl HL7.out hone (by unfold maxLen; omega) (by omega) hbase ?_))
        intro v6 w6 hown6 hgr6 hat6
        obtain ⟨x6, z6, rfl, _, _⟩ := ownsRow_slice hown6
        have HB6 := Lib.hid ((HB5.out.alloc HB5.out.size _).grown hgr6 hbase (fun b e => ((HO5.out.alloc (.cells #[.int .u64 (pk : Int)] 23)).lt b e).1))
        have HO6 := Lib.hid (show w6.ownsRow w1.heap.size 23 1 (.slice x6 (n + 1) z6) (n + 1) (row kcl (((l.take (i + 1)).filter (lackP sb)).map Pos.key)) by rw [HL6.out]; exact hown6)
        clear hown6 hgr6 hat6 x0
        go_wp2
        go_roundw
        case rel => exact ⟨i + 1, n + 1, z6, x6, by omega, by omega, rfl, by simp, HN6, HO6, HB6⟩
        case measure => simp [intOf] <;> omega
      | false =>
        have HN6 := Lib.hid (show n = ((l.take (i + 1)).filter (lackP sb)).length by rw [HSN.out, List.filter_append, List.filter_cons, if_neg (by rw [HQ.out]; simp), List.filter_nil, List.append_nil]; exact HN.out)
        have HO6 := Lib.hid (show w5.ownsRow w1.heap.size 23 1 (.slice x n cap) n (row kcl (((l.take (i + 1)).filter (lackP sb)).map Pos.key)) by rw [HSN.out, List.filter_append, List.filter_cons, if_neg (by rw [HQ.out]; simp), List.filter_nil, List.append_nil]; exact HO5.out)
        go_wp2
        go_roundw
        case rel => exact ⟨i + 1, n, cap, x, by omega, by omega, rfl, by simp, HN6, HO6, HB5⟩
        case measure => simp [intOf] <;> omega
    · obtain rfl : i = I := by omega
      have HFI := Lib.hid (show l.take i = l from List.take_of_length_le (by rw [HI.out]; exact Nat.le_refl _))
      have HBF := Lib.hid (HB1.out.trans (HBr.out.mono HB1.out.size))
      go_wp2
      go_ret2
      refine ⟨x, cap, ?_, HBF.out⟩
      rw [List.length_map, ← HFI.out, ← HN.out]
      rfl

end Go.Proofs.YtoblbipkkdiddaaGreatDoor
end
