/- Package corncriblaw16: OnceOwn. -/
import Derived.Test.YtncfdkkekaninaaOa
import Derived.Test.YtncfdkkekaninaaWs
import Derived.Test.YtncfdkkekaninaaOrdE
import Derived.Test.YtncfdkkekaninaaFrz
import Derived.Deep.CutRange
import Derived.HandedShaped
set_option linter.unusedVariables false
set_option linter.unusedSimpArgs false
namespace Go.Proofs.Ytncfdkkekaninaa
open Go.RowKit Go.Cor

/-- v has L bytes that may be written. -/
def Wr8 (w : World) (v : Value) (L : Nat) : Prop := ∃ a cap, v = .slice a L cap ∧ L ≤ cap ∧ cap ≤ maxLen ∧ (L = 0 ∨ ∃ b off, a = some ⟨b, off, none⟩ ∧ (∀ i, i < L → ∃ z, w.cell? ⟨b, off + i, none⟩ = some (.int .u8 z)) ∧ ∀ j, w.frozen? ⟨b, j, none⟩ = false)
theorem Wr8.of {w : World} {v : Value} {l : List UInt8} {L : Nat} (h : IsF w v l) (hL : l.length = L) : Wr8 w v L := by
  subst hL
  obtain ⟨h1, h2⟩ := h
  obtain ⟨a, cap, rfl, k1, k2, k0, k3⟩ := h1
  refine ⟨a, cap, rfl, k1, k2, ?_⟩
  by_cases h0 : l.length = 0
  · exact .inl h0
  · rcases k3 with k3 | ⟨b, off, rfl, hc⟩
    · exact absurd k3 h0
    · exact .inr ⟨b, off, rfl, fun i hi => ⟨_, hc i hi⟩, h2 b ⟨h0, rfl⟩⟩
theorem Wr8.len {P : Program} {w : World} {v : Value} {L : Nat} (h : Wr8 w v L) (T ty U : TypeId) (ht : P.underlying T = some (.slice U)) (W : World) : (Builtin.len_ #[T] ty #[v]).run P W = .ok (.int .i64 (L : Int)) W := by
  obtain ⟨a, cap, rfl, _⟩ := h
  have ht' : P.underlying T = some (.slice (P.elem T)) := by simp [Program.elem, ht]
  exact run_len_slice (P := P) W T ty a L cap ht'
theorem Wr8.kept {S : Nat → Prop} {w w' : World} {v : Value} {L : Nat} (h : Wr8 w v L) (hk : Kept S w w') (hs : ∀ k, v.ownBlock = some k → L ≠ 0 → ¬ S k) : Wr8 w' v L := by
  obtain ⟨a, cap, rfl, k1, k2, k3⟩ := h
  refine ⟨a, cap, rfl, k1, k2, ?_⟩
  by_cases h0 : L = 0
  · exact .inl h0
  · rcases k3 with k3 | ⟨b, off, rfl, hc, hf⟩
    · exact absurd k3 h0
    · have hb : b < w.heap.size := by
        obtain ⟨z, hz⟩ := hc 0 (Nat.pos_of_ne_zero h0)
        exact cell_lt hz
      refine .inr ⟨b, off, rfl, fun i hi => ?_, fun j => (hk.frozen (p := ⟨b, j, none⟩) hb (hs b rfl h0)).trans (hf j)⟩
      obtain ⟨z, hz⟩ := hc i hi
      exact ⟨z, hk.cell hz (hs b rfl h0)⟩
theorem Wr8.at {P : Program} {w : World} {v : Value} {L : Nat} (h : Wr8 w v L) (T U : TypeId) (ht : P.underlying T = some (.slice U)) (hs : (P.info? U).map (·.size) = some 1) (i : Nat) (hi : i < L) :
    ∃ b o z, (∀ W, (Instr.indexAt T v (.int .i64 (i : Int))).run P W = .ok (.pointer (some ⟨b, o, none⟩)) W) ∧ v.ownBlock = some b ∧ w.cell? ⟨b, o, none⟩ = some (.int .u8 z) ∧ (∀ j, w.frozen? ⟨b, j, none⟩ = false) ∧ ∀ z', Wr8 (w.setCell ⟨b, o, none⟩ (.int .u8 z')) v L := by
  obtain ⟨j, hj1, hj2⟩ := Option.map_eq_some_iff.1 hs
  obtain ⟨a, cap, rfl, k1, k2, k3⟩ := h
  rcases k3 with k3 | ⟨b, off, rfl, hc, hf⟩
  · omega
  obtain ⟨z, hz⟩ := hc i hi
  refine ⟨b, off + i, z, fun W => ?_, rfl, hz, hf, fun z' => ⟨_, cap, rfl, k1, k2, .inr ⟨b, off, rfl, fun i' hi' => ?_, fun j => ?_⟩⟩⟩
  · have ht' : P.underlying T = some (.slice (P.elem T)) := by simp [Program.elem, ht]
    have he : P.elem T = U := by simp [Program.elem, ht]
    have hsz : ∀ W, (sizeOf U).run P W = .ok 1 W := fun W => by simp [sizeOf, typeInfo, hj1, hj2]
    have h0 : (0 : Int) ≤ (i : Int) := by omega
    have h1 : (i : Int) < (L : Int) := by omega
    go_simp
  · exact someInt_setCell (hc i' hi') _ z'
  · rw [World.frozen?_setCell]
    exact hf j
theorem IsB.len_is {w : World} {x : Option Addr} {n c : Nat} {l : List UInt8} (h : IsB w (.slice x n c) l) : n = l.length := by
  obtain ⟨a, cp, e, _⟩ := h
  cases e
  rfl
theorem c16_find (M : Msg) : findK M.to M.id [M] = 0 ∧ findM M.to M.id [M] = M := by
  have h : findP M.to M.id [M] = 0 := by unfold findP; rw [if_pos (hasP_self M)]
  unfold findK findM
  rw [h]
  exact ⟨rfl, rfl⟩
theorem c16_other (M : Msg) (q : Nat) (hq : q ≠ M.id) : findK M.to q [M] = 6 ∧ findM M.to q [M] = mz := by
  have h : findP M.to q [M] = -1 := by
    unfold findP
    rw [if_neg (by unfold hasP; simp; omega)]
    rfl
  unfold findK findM
  rw [h]
  exact ⟨rfl, rfl⟩
theorem c16_keep {M : Msg} (h5 : M.kd = 5) (hc : mcheck M = 0) : keepK 3 [] M = 0 ∧ keepL 3 [] M = [M] := by
  have h : keepK 3 [] M = 0 := by
    unfold keepK
    rw [if_pos h5, if_pos hc, if_neg (by show ¬ (0 : Int) ≤ -1; decide), if_neg (by decide)]
  exact ⟨h, by unfold keepL; rw [if_pos h]; rfl⟩
set_option maxRecDepth 100000 in
set_option maxHeartbeats 16000000 in
theorem onceOwn_all (m : Msg) (x : Option Addr) (L c : Nat) (w : World) (hm0 : IsB w (.slice x L c) m.n.data) (hmf0 : m.n.fits) (hid0 : m.id < 18446744073709551616) :
    Calls Try.prog 4 #[mval m (.slice x L c)] w fun e w' => e = .returned (.bool true) ∧ Below w.heap.size w w' := by
  obtain ⟨i0, hi0, hz0, hz1, hz2⟩ := info_parts Try.infoU8
  obtain ⟨M, hM⟩ : ∃ M : Msg, M = ⟨m.fr, m.to, 5, m.vo, m.li, m.id, m.co, m.has, m.n⟩ := ⟨_, rfl⟩
  have hm : IsB w (.slice x L c) M.n.data := by rw [hM]; exact hm0
  have hmf : M.n.fits := by rw [hM]; exact hmf0
  have hid : M.id < 18446744073709551616 := by rw [hM]; exact hid0
  have hk5 : M.kd = 5 := by rw [hM]
  have hL : M.n.data.length = L := (IsB.len_is hm).symm
  have HM := Lib.hid hM
  have HA := Lib.hid (fun wx => alive16 wx)
  have hB0 := below_new16 w (.cells #[.int .i64 m.fr, .int .i64 m.to, .int .i64 m.kd, .int .i64 m.vo, .int .i64 m.li, .int .u64 (m.id : Int), .int .i64 m.co, .bool m.has, .int .u64 (m.n.key : Int), .int .u32 (m.n.cookie : Int), .bool m.n.gone, .slice x L c] 36)
  have hX0 := Blk.new w #[.int .i64 m.fr, .int .i64 m.to, .int .i64 m.kd, .int .i64 m.vo, .int .i64 m.li, .int .u64 (m.id : Int), .int .i64 m.co, .bool m.has, .int .u64 (m.n.key : Int), .int .u32 (m.n.cookie : Int), .bool m.n.gone, .slice x L c] 36
  obtain ⟨w0, hw0⟩ : ∃ z, w.alloc (.cells #[.int .i64 m.fr, .int .i64 m.to, .int .i64 m.kd, .int .i64 m.vo, .int .i64 m.li, .int .u64 (m.id : Int), .int .i64 m.co, .bool m.has, .int .u64 (m.n.key : Int), .int .u32 (m.n.cookie : Int), .bool m.n.gone, .slice x L c] 36) = z := ⟨_, rfl⟩
  rw [hw0] at hB0 hX0
  have HW0 := Lib.hid hw0
  have HX0 := Lib.hid hX0
  have HB0 := Lib.hid hB0
  clear hw0 hX0 hB0 hm0 hmf0 hid0 hM
  by_cases h1 : 300 < L
  · have k1 : (300 : Int) < (L : Int) := by omega
    clear hm hmf hid hL hk5
    go_enter Try.func4, Try.ntmps4
    go_wp2_with fail
    rw [HW0.out]
    refine (HA.out _).mono ?_
    rintro e w1 ⟨rfl, hb⟩
    have hX1 := HX0.out.below hb HX0.out.lt
    have hB1 := HB0.out.trans (hb.mono HB0.out.size)
    have pc := hX1.cell 2 rfl
    have pf := fun j => hX1.free j
    have hX1s := hX1.set 2 (.int .i64 5)
    simp at hX1s
    have hB1s := hB1.setCell (p := ⟨w.heap.size, 2, none⟩) (Nat.le_refl _) (.int .i64 5)
    obtain ⟨w1s, hw1s⟩ : ∃ z, w1.setCell ⟨w.heap.size, 2, none⟩ (.int .i64 5) = z := ⟨_, rfl⟩
    rw [hw1s] at hX1s hB1s
    have HX1 := Lib.hid (show Blk w1s w.heap.size #[.int .i64 M.fr, .int .i64 M.to, .int .i64 M.kd, .int .i64 M.vo, .int .i64 M.li, .int .u64 (M.id : Int), .int .i64 M.co, .bool M.has, .int .u64 (M.n.key : Int), .int .u32 (M.n.cookie : Int), .bool M.n.gone, .slice x L c] 36 from by rw [HM.out]; exact hX1s)
    have HB1 := Lib.hid hB1s
    have HW1S := Lib.hid hw1s
    clear hb hX1 hB1 hX1s hB1s hw1s
    go_upto_region 4 with fail
    rw [HW1S.out]
    clear pc pf
    have p0 := HX1.out.cell 0 rfl
    have p1 := HX1.out.cell 1 rfl
    have p2 := HX1.out.cell 2 rfl
    have p3 := HX1.out.cell 3 rfl
    have p4 := HX1.out.cell 4 rfl
    have p5 := HX1.out.cell 5 rfl
    have p6 := HX1.out.cell 6 rfl
    have p7 := HX1.out.cell 7 rfl
    have p8 := HX1.out.cell 8 rfl
    have p9 := HX1.out.cell 9 rfl
    have p10 := HX1.out.cell 10 rfl
    have p11 := HX1.out.cell 11 rfl
    go_wp2
    go_ret
    exact ⟨rfl, HB1.out⟩
  have k1 : ¬ (300 : Int) < (L : Int) := by omega
  have HC1 := Lib.hid (fun wx (hb : Below w.heap.size w wx) => rcheck_any M (.slice x L c) wx (hm.mono hb (Nat.le_refl _)) (by omega))
  obtain ⟨C1, hC1⟩ : ∃ C, mcheck M = C := ⟨_, rfl⟩
  rw [hC1] at HC1
  by_cases h2 : C1 = 0
  case neg =>
    have k2 : ((C1 : Int) != 0) = true := bne_iff_ne.2 (by omega)
    clear hm hmf hid hL hC1 h1 hk5
    go_enter Try.func4, Try.ntmps4
    go_wp2_with fail
    rw [HW0.out]
    refine (HA.out _).mono ?_
    rintro e w1 ⟨rfl, hb⟩
    have hX1 := HX0.out.below hb HX0.out.lt
    have hB1 := HB0.out.trans (hb.mono HB0.out.size)
    have pc := hX1.cell 2 rfl
    have pf := fun j => hX1.free j
    have hX1s := hX1.set 2 (.int .i64 5)
    simp at hX1s
    have hB1s := hB1.setCell (p := ⟨w.heap.size, 2, none⟩) (Nat.le_refl _) (.int .i64 5)
    obtain ⟨w1s, hw1s⟩ : ∃ z, w1.setCell ⟨w.heap.size, 2, none⟩ (.int .i64 5) = z := ⟨_, rfl⟩
    rw [hw1s] at hX1s hB1s
    have HX1 := Lib.hid (show Blk w1s w.heap.size #[.int .i64 M.fr, .int .i64 M.to, .int .i64 M.kd, .int .i64 M.vo, .int .i64 M.li, .int .u64 (M.id : Int), .int .i64 M.co, .bool M.has, .int .u64 (M.n.key : Int), .int .u32 (M.n.cookie : Int), .bool M.n.gone, .slice x L c] 36 from by rw [HM.out]; exact hX1s)
    have HB1 := Lib.hid hB1s
    have HW1S := Lib.hid hw1s
    clear hb hX1 hB1 hX1s hB1s hw1s
    go_upto_region 4 with fail
    rw [HW1S.out]
    clear pc pf
    have p0 := HX1.out.cell 0 rfl
    have p1 := HX1.out.cell 1 rfl
    have p2 := HX1.out.cell 2 rfl
    have p3 := HX1.out.cell 3 rfl
    have p4 := HX1.out.cell 4 rfl
    have p5 := HX1.out.cell 5 rfl
    have p6 := HX1.out.cell 6 rfl
    have p7 := HX1.out.cell 7 rfl
    have p8 := HX1.out.cell 8 rfl
    have p9 := HX1.out.cell 9 rfl
    have p10 := HX1.out.cell 10 rfl
    have p11 := HX1.out.cell 11 rfl
    go_wp2_with fail
    refine (HC1.out _ HB1.out).mono ?_
    rintro e w2 ⟨rfl, hb⟩
    have HB2 := Lib.hid (HB1.out.trans (hb.mono HB1.out.size))
    clear hb p0 p1 p2 p3 p4 p5 p6 p7 p8 p9 p10 p11
    go_wp2
    go_ret
    exact ⟨rfl, HB2.out⟩
  subst h2
  have HVM := Lib.hid (fun (wx : World) (hb : Below w.heap.size w wx) => hm.mono hb (Nat.le_refl _))
  have HLL := Lib.hid hL
  have hwfa := mcheck_wf hC1
  have hwfu := wfU_of hid
  have HS := Lib.hid (fun (wx : World) (g : Nat) (S : Nat → Prop) (y : Option Addr) (k : Nat) (h : Ht w wx g S 3 []) (hy : IsB wx (.slice y L k) M.n.data) => show Calls Try.prog 12 #[.pointer (some ⟨g, 0, none⟩), mval M (.slice y L k)] wx fun e w' => e = .returned .nilIface ∧ TbT wx w.heap.size g S 3 [M] w' from by
    have h9 := okeep_any wx h.tb M y L k hy hmf hid
    rw [(c16_keep hk5 hC1).1, (c16_keep hk5 hC1).2, cerr_0] at h9
    exact h9)
  have HFD := Lib.hid (fun (wx : World) (g : Nat) (S : Nat → Prop) (h : Ht w wx g S 3 [M]) => show Calls Try.prog 17 #[.pointer (some ⟨g, 0, none⟩), .int .i64 M.to, .int .u64 (M.id : Int)] wx fun e w' => ∃ px pc, e = .returned (.tuple #[mval M (.slice px L pc), .nilIface]) ∧ IsF w' (.slice px L pc) M.n.data ∧ (∀ b, liesB (.slice px L pc) M.n.data b → wx.heap.size ≤ b) ∧ Below wx.heap.size wx w' from by
    have h9 := ofind_any wx h.tb M.to M.id hwfa hwfu
    rw [(c16_find M).1, (c16_find M).2, cerr_0] at h9
    refine h9.mono ?_
    rintro e w' ⟨z, n, c, q1, q2, q3, q4⟩
    have e9 := (IsB.len_is q2.1).trans hL
    rw [e9] at q1 q2 q3
    exact ⟨z, c, q1, q2, q3, q4⟩)
  obtain ⟨Q, hQ⟩ : ∃ Q : Nat, (M.id + 1) % 18446744073709551616 = Q := ⟨_, rfl⟩
  have hQU : IntKind.u64.wrap ((M.id : Int) + 1) = (Q : Int) := by
    rw [← hQ]
    by_cases h9 : M.id + 1 < 18446744073709551616
    · rw [IntWalk.u64_in _ (by omega)]; omega
    · have h8 : M.id = 18446744073709551615 := by omega
      rw [h8]; rfl
  have HFH := Lib.hid (fun (wx : World) (g : Nat) (S : Nat → Prop) (h : Ht w wx g S 3 [M]) => show Calls Try.prog 17 #[.pointer (some ⟨g, 0, none⟩), .int .i64 M.to, .int .u64 (Q : Int)] wx fun e w' => ∃ hx hc, e = .returned (.tuple #[.agg #[.int .i64 0, .int .i64 0, .int .i64 0, .int .i64 0, .int .i64 0, .int .u64 0, .int .i64 0, .bool false, .int .u64 0, .int .u32 0, .bool false, .slice hx 0 hc], err 6]) ∧ Below wx.heap.size wx w' from by
    have h9 := ofind_any wx h.tb M.to Q hwfa (wfU_of (by omega))
    rw [(c16_other M Q (by omega)).1, (c16_other M Q (by omega)).2, cerr_pos (by decide)] at h9
    refine h9.mono ?_
    rintro e w' ⟨z, n, c, q1, q2, q3, q4⟩
    have e9 : n = 0 := IsB.len_is q2.1
    rw [e9] at q1
    exact ⟨z, c, q1, q4⟩)
  have HFN := Lib.hid (fun (wx : World) => show Calls Try.prog 17 #[.pointer none, .int .i64 1, .int .u64 1] wx fun e w' => e = .returned (.tuple #[.agg #[.int .i64 0, .int .i64 0, .int .i64 0, .int .i64 0, .int .i64 0, .int .u64 0, .int .i64 0, .bool false, .int .u64 0, .int .u32 0, .bool false, .slice none 0 0], err 15]) ∧ Below wx.heap.size wx w' from ofind_nil 1 1 wx)
  have HO1 := Lib.hid (fun wx => of_any14 M x L c wx)
  have HSM := Lib.hid (fun (wx : World) (tx : Option Addr) (tc : Nat) (hb : Below w.heap.size w wx) (ht : IsB wx (.slice tx L tc) M.n.data) => show Calls Try.prog 19 #[mval M (.slice tx L tc), mval M (.slice x L c)] wx fun e w' => e = .returned (.bool true) ∧ Below wx.heap.size wx w' from by
    have h9 := rsame_any M M (.slice tx L tc) (.slice x L c) wx ht (hm.mono hb (Nat.le_refl _)) (by omega)
    rwa [show sameM M M = true from (sameM_eq M M).2 rfl] at h9)
  clear hm hmf hid hL hC1 h1 hk5 hwfa hwfu hQ
  go_enter Try.func4, Try.ntmps4
  go_wp2_with fail
  rw [HW0.out]
  refine (HA.out _).mono ?_
  rintro e w1 ⟨rfl, hb⟩
  have hX1 := HX0.out.below hb HX0.out.lt
  have hB1 := HB0.out.trans (hb.mono HB0.out.size)
  have pc := hX1.cell 2 rfl
  have pf := fun j => hX1.free j
  have hX1s := hX1.set 2 (.int .i64 5)
  simp at hX1s
  have hB1s := hB1.setCell (p := ⟨w.heap.size, 2, none⟩) (Nat.le_refl _) (.int .i64 5)
  obtain ⟨w1s, hw1s⟩ : ∃ z, w1.setCell ⟨w.heap.size, 2, none⟩ (.int .i64 5) = z := ⟨_, rfl⟩
  rw [hw1s] at hX1s hB1s
  have HX1 := Lib.hid (show Blk w1s w.heap.size #[.int .i64 M.fr, .int .i64 M.to, .int .i64 M.kd, .int .i64 M.vo, .int .i64 M.li, .int .u64 (M.id : Int), .int .i64 M.co, .bool M.has, .int .u64 (M.n.key : Int), .int .u32 (M.n.cookie : Int), .bool M.n.gone, .slice x L c] 36 from by rw [HM.out]; exact hX1s)
  have HB1 := Lib.hid hB1s
  have HW1S := Lib.hid hw1s
  clear hb hX1 hB1 hX1s hB1s hw1s
  go_upto_region 4 with fail
  rw [HW1S.out]
  clear pc pf
  have p0 := HX1.out.cell 0 rfl
  have p1 := HX1.out.cell 1 rfl
  have p2 := HX1.out.cell 2 rfl
  have p3 := HX1.out.cell 3 rfl
  have p4 := HX1.out.cell 4 rfl
  have p5 := HX1.out.cell 5 rfl
  have p6 := HX1.out.cell 6 rfl
  have p7 := HX1.out.cell 7 rfl
  have p8 := HX1.out.cell 8 rfl
  have p9 := HX1.out.cell 9 rfl
  have p10 := HX1.out.cell 10 rfl
  have p11 := HX1.out.cell 11 rfl
  go_wp2_with fail
  refine (HC1.out _ HB1.out).mono ?_
  rintro e w2 ⟨rfl, hb⟩
  have HB2 := Lib.hid (HB1.out.trans (hb.mono HB1.out.size))
  have HX2 := Lib.hid (HX1.out.below hb HX1.out.lt)
  clear hb
  clear p0 p1 p2 p3 p4 p5 p6 p7 p8 p9 p10 p11
  go_wp2_with fail
  refine (onew_ht 3 w w2 HB2.out (by decide)).mono ?_
  rintro e w3 ⟨g, S3, rfl, h3, hn3, hb⟩
  have HX3 := Lib.hid (HX2.out.below hb HX2.out.lt)
  have HN3 := Lib.hid (show ¬ S3 w.heap.size from fun e => by have := HX2.out.lt; have := hn3 _ e; omega)
  have HH3 := Lib.hid h3
  clear hb h3 hn3
  have p0 := HX3.out.cell 0 rfl
  have p1 := HX3.out.cell 1 rfl
  have p2 := HX3.out.cell 2 rfl
  have p3 := HX3.out.cell 3 rfl
  have p4 := HX3.out.cell 4 rfl
  have p5 := HX3.out.cell 5 rfl
  have p6 := HX3.out.cell 6 rfl
  have p7 := HX3.out.cell 7 rfl
  have p8 := HX3.out.cell 8 rfl
  have p9 := HX3.out.cell 9 rfl
  have p10 := HX3.out.cell 10 rfl
  have p11 := HX3.out.cell 11 rfl
  go_wp2_with fail
  refine (HO1.out _).mono ?_
  rintro e w4 ⟨rfl, hb⟩
  have hH4 := HH3.out.below hb
  have HX5 := Lib.hid ((HX3.out.below hb HX3.out.lt).alloc (.cells #[.int .i64 M.fr, .int .i64 M.to, .int .i64 M.kd, .int .i64 M.vo, .int .i64 M.li, .int .u64 (M.id : Int), .int .i64 M.co, .bool M.has, .int .u64 (M.n.key : Int), .int .u32 (M.n.cookie : Int), .bool M.n.gone, .slice x L c] 42))
  have HH5 := Lib.hid (hH4.alloc (.cells #[.int .i64 M.fr, .int .i64 M.to, .int .i64 M.kd, .int .i64 M.vo, .int .i64 M.li, .int .u64 (M.id : Int), .int .i64 M.co, .bool M.has, .int .u64 (M.n.key : Int), .int .u32 (M.n.cookie : Int), .bool M.n.gone, .slice x L c] 42))
  have hY5 := Blk.new w4 #[.int .i64 M.fr, .int .i64 M.to, .int .i64 M.kd, .int .i64 M.vo, .int .i64 M.li, .int .u64 (M.id : Int), .int .i64 M.co, .bool M.has, .int .u64 (M.n.key : Int), .int .u32 (M.n.cookie : Int), .bool M.n.gone, .slice x L c] 42
  have hN5 := hH4.new (Nat.le_refl w4.heap.size)
  obtain ⟨w5, hw5⟩ : ∃ z, w4.alloc (.cells #[.int .i64 M.fr, .int .i64 M.to, .int .i64 M.kd, .int .i64 M.vo, .int .i64 M.li, .int .u64 (M.id : Int), .int .i64 M.co, .bool M.has, .int .u64 (M.n.key : Int), .int .u32 (M.n.cookie : Int), .bool M.n.gone, .slice x L c] 42) = z := ⟨_, rfl⟩
  obtain ⟨X4, hX4⟩ : ∃ z, w4.heap.size = z := ⟨_, rfl⟩
  have hlt4 : w.heap.size < X4 := by have h8 := HX3.out.lt; have h9 := hb.size; omega
  rw [hw5] at HX5 HH5 hY5
  rw [hX4] at hY5 hN5
  have HW5 := Lib.hid hw5
  have HX4 := Lib.hid hX4
  have HY5 := Lib.hid hY5
  have HN5 := Lib.hid hN5
  have HLT4 := Lib.hid hlt4
  clear hb hH4 hw5 hX4 hY5 hN5 hlt4
  clear p0 p1 p2 p3 p4 p5 p6 p7 p8 p9 p10 p11
  go_upto_region 8 with fail
  try rw [HW5.out]
  try rw [HX4.out]
  have HV7 := Lib.hid (HVM.out _ HH5.out.bel)
  have p0 := HX5.out.cell 0 rfl
  have p1 := HX5.out.cell 1 rfl
  have p2 := HX5.out.cell 2 rfl
  have p3 := HX5.out.cell 3 rfl
  have p4 := HX5.out.cell 4 rfl
  have p5 := HX5.out.cell 5 rfl
  have p6 := HX5.out.cell 6 rfl
  have p7 := HX5.out.cell 7 rfl
  have p8 := HX5.out.cell 8 rfl
  have p9 := HX5.out.cell 9 rfl
  have p10 := HX5.out.cell 10 rfl
  have p11 := HX5.out.cell 11 rfl
  have z1 : w.heap.size < w5.heap.size := HX5.out.lt
  have z4 : X4 < w5.heap.size := HY5.out.lt
  go_wp2_with (at_builtin; refine wpList_append_B (by rfl) _ _ 32 rfl w5.heap.size 5 i0 Try.underlying32 hi0 hz0 hz1 hz2 _ [] 0 rfl (World.ownsRow_lit _ #[] 0 (Nat.le_refl _) (Nat.zero_le _) rfl) rfl _ M.n.data rfl (HV7.out.mono (below_new16 w5 _) (Nat.le_refl _)) (by simp; have := HLL.out; omega) (by simp) ?_)
  intro v7 w7 hown7 hb7
  rw [HLL.out] at hown7
  obtain ⟨y, k, rfl⟩ : ∃ y k, v7 = .slice y L k := by
    obtain ⟨y, k, e, _⟩ := Go.Cor.ownsRow_slice hown7
    exact ⟨y, k, e⟩
  have hB57 : Below w5.heap.size w5 w7 := (below_new16 w5 (.cells #[] 5)).trans hb7
  have hY7 := HY5.out.below hB57 HY5.out.lt
  have hX7 := HX5.out.below hB57 HX5.out.lt
  have hH7 := HH5.out.below hB57
  have hyb : ∀ b, (Value.slice y L k).ownBlock = some b → w5.heap.size ≤ b := fun b hb => (hown7.lt b hb).1
  have hYs := hY7.set 11 (.slice y L k)
  simp at hYs
  have hK8 := (Kept.refl (fun j => j = X4) w7).setCell (p := ⟨X4, 11, none⟩) (.inl rfl) (.slice y L k)
  have HX8 := Lib.hid (hX7.kept hK8 (fun e => by have := HLT4.out; omega))
  have HH8 := Lib.hid (hH7.kept hK8 (fun q hq e => HN5.out (e ▸ hq)) (fun q hq e => by have := HLT4.out; omega))
  have HO8 := Lib.hid (ownsRow_kept hown7 hK8 (fun q hq e => by have := hyb q hq; omega))
  have HYB := Lib.hid hyb
  have yf := fun j => hY7.free j
  have yc := hY7.cell 11 rfl
  obtain ⟨w8, hw8⟩ : ∃ z, w7.setCell ⟨X4, 11, none⟩ (.slice y L k) = z := ⟨_, rfl⟩
  rw [hw8] at HX8 HH8 HO8 hYs
  have HW8 := Lib.hid hw8
  have HY8 := Lib.hid hYs
  clear hown7 hb7 hB57 hX7 hH7 hyb hYs hK8 hw8 hY7 z1 z4
  clear p0 p1 p2 p3 p4 p5 p6 p7 p8 p9 p10 p11
  go_upto_region 9 with fail
  rw [HW8.out]
  clear yf yc
  have p0 := HY8.out.cell 0 rfl
  have p1 := HY8.out.cell 1 rfl
  have p2 := HY8.out.cell 2 rfl
  have p3 := HY8.out.cell 3 rfl
  have p4 := HY8.out.cell 4 rfl
  have p5 := HY8.out.cell 5 rfl
  have p6 := HY8.out.cell 6 rfl
  have p7 := HY8.out.cell 7 rfl
  have p8 := HY8.out.cell 8 rfl
  have p9 := HY8.out.cell 9 rfl
  have p10 := HY8.out.cell 10 rfl
  have p11 := HY8.out.cell 11 rfl
  go_wp2_with fail
  refine (HS.out w8 g _ y k HH8.out (IsB.own HO8.out HLL.out.symm)).mono ?_
  rintro e w9 ⟨rfl, ht⟩
  obtain ⟨S9, h9, hk9, hs9⟩ := HH8.out.call ht
  have hnx1 := HN3.out
  have hny : ∀ b, (Value.slice y L k).ownBlock = some b → ¬ S3 b := fun b hb e => by have h8 := HYB.out b hb; have h7 := HH5.out.lt e; omega
  have HX9 := Lib.hid (HX8.out.kept hk9 hnx1)
  have HY9 := Lib.hid (HY8.out.kept hk9 HN5.out)
  have HW9 := Lib.hid ((Wr8.of (IsF.own HO8.out HLL.out.symm) HLL.out).kept hk9 (fun b hb _ => hny b hb))
  have HNX9 := Lib.hid (hs9 _ HX8.out.lt hnx1)
  have HNY9 := Lib.hid (hs9 _ HY8.out.lt HN5.out)
  have HNB9 := Lib.hid (show ∀ b, (Value.slice y L k).ownBlock = some b → L ≠ 0 → ¬ S9 b ∧ w.heap.size ≤ b ∧ b ≠ X4 ∧ b ≠ w.heap.size from fun b hb hl => by
    have h8 := HYB.out b hb
    have h7 := HLT4.out
    have h6 := HY5.out.lt
    exact ⟨hs9 b (HO8.out.lt b hb).2 (hny b hb), by omega, by omega, by omega⟩)
  have HH9 := Lib.hid h9
  have HZ45 := Lib.hid (show w.heap.size < X4 ∧ X4 < w5.heap.size from ⟨HLT4.out, HY5.out.lt⟩)
  clear ht h9 hk9 hs9 hnx1 hny
  clear p0 p1 p2 p3 p4 p5 p6 p7 p8 p9 p10 p11
  go_wp2_with fail
  go_loopw [7] (fun q wr => ∃ i : Nat, i ≤ L ∧ q = .int .i64 i ∧ Hid (Ht w wr g S9 3 [M]) ∧ Hid (Wr8 wr (.slice y L k) L) ∧ Hid (Blk wr X4 #[.int .i64 M.fr, .int .i64 M.to, .int .i64 M.kd, .int .i64 M.vo, .int .i64 M.li, .int .u64 (M.id : Int), .int .i64 M.co, .bool M.has, .int .u64 (M.n.key : Int), .int .u32 (M.n.cookie : Int), .bool M.n.gone, .slice y L k] 42) ∧ Hid (Blk wr w.heap.size #[.int .i64 M.fr, .int .i64 M.to, .int .i64 M.kd, .int .i64 M.vo, .int .i64 M.li, .int .u64 (M.id : Int), .int .i64 M.co, .bool M.has, .int .u64 (M.n.key : Int), .int .u32 (M.n.cookie : Int), .bool M.n.gone, .slice x L c] 36)) (fun q _ => L - (intOf q).toNat)
  case atStart => exact ⟨0, Nat.zero_le _, rfl, HH9, HW9, HY9, HX9⟩
  case round =>
    obtain ⟨i, hiL, rfl, HHr, HWr, HBr, E0⟩ := hrel
    have bc := HBr.out.cell 11 rfl
    have hlen := fun W => HWr.out.len (P := Try.prog) 32 3 5 Try.underlying32 W
    by_cases hlt : i < L
    · obtain ⟨b, o, z, hidx, hob, hcb, hfb, hput⟩ := HWr.out.at (P := Try.prog) 32 5 Try.underlying32 Try.sizeU8 i hlt
      have hfo := hfb o
      have HPUT := Lib.hid hput
      have hbd := HNB9.out b hob (by omega)
      have hK := fun v => (Kept.refl (fun j => j = b) wr.drew).setCell (p := ⟨b, o, none⟩) (.inl rfl) v
      have HK := Lib.hid hK
      have HBD := Lib.hid hbd
      have S0 : wr.drew.cell? ⟨X4, 11, none⟩ = some (.slice y L k) ∧ wr.drew.cell? ⟨b, o, none⟩ = some (.int .u8 z) := ⟨bc, hcb⟩
      clear hput hbd hK hfb
      go_upto_region 13 with fail
      clear bc hcb hlen
      refine AnyE.start (S := (fun wx => wx.cell? ⟨X4, 11, none⟩ = some (.slice y L k) ∧ wx.cell? ⟨b, o, none⟩ = some (.int .u8 z))) 12 (by kernel_rfl) (S0) (fun hHeld => ?_)
      refine AnyE.take (i := 0) (v := ?_) rfl (by kernel_rfl) (by kernel_rfl) (by kernel_rfl) (by kernel_rfl) (fun _ _ _ h => h) (Or.inl ⟨by rfl, ?_⟩) (by assumption) ?_
      rotate_left 1
      · intro w hSw
        (try dsimp only at hSw)
        go_simp
        all_goals (with_reducible rfl)
      try simp only [Act.put, List.getElem_toArray, List.getElem_cons_zero, List.getElem_cons_succ, List.setIfInBounds_toArray, List.set_cons_zero, List.set_cons_succ]
      refine AnyE.take (i := 1) (v := ?_) rfl (by kernel_rfl) (by kernel_rfl) (by kernel_rfl) (by kernel_rfl) (fun _ _ _ h => h) (Or.inl ⟨by rfl, ?_⟩) (by assumption) ?_
      rotate_left 1
      · intro w hSw
        (try dsimp only at hSw)
        go_simp
        all_goals (with_reducible rfl)
      try simp only [Act.put, List.getElem_toArray, List.getElem_cons_zero, List.getElem_cons_succ, List.setIfInBounds_toArray, List.set_cons_zero, List.set_cons_succ]
      refine AnyE.take (i := 2) (v := ?_) rfl (by kernel_rfl) (by kernel_rfl) (by kernel_rfl) (by kernel_rfl) (fun _ _ _ h => h) (Or.inl ⟨by rfl, ?_⟩) (by assumption) ?_
      rotate_left 1
      · intro w hSw
        (try dsimp only at hSw)
        go_simp
        all_goals (with_reducible rfl)
      try simp only [Act.put, List.getElem_toArray, List.getElem_cons_zero, List.getElem_cons_succ, List.setIfInBounds_toArray, List.set_cons_zero, List.set_cons_succ]
      refine AnyE.take (i := 3) (v := ?_) rfl (by kernel_rfl) (by kernel_rfl) (by kernel_rfl) (by kernel_rfl) (fun _ _ _ h => h) (Or.inl ⟨by rfl, ?_⟩) (by assumption) ?_
      rotate_left 1
      · intro w hSw
        (try dsimp only at hSw)
        go_simp
        all_goals (with_reducible rfl)
      try simp only [Act.put, List.getElem_toArray, List.getElem_cons_zero, List.getElem_cons_succ, List.setIfInBounds_toArray, List.set_cons_zero, List.set_cons_succ]
      refine AnyE.take (i := 4) (v := ?_) rfl (by kernel_rfl) (by kernel_rfl) (by kernel_rfl) (by kernel_rfl) (fun _ _ _ h => h) (Or.inl ⟨by rfl, ?_⟩) (by assumption) ?_
      rotate_left 1
      · intro w hSw
        (try dsimp only at hSw)
        go_simp
        all_goals (with_reducible rfl)
      try simp only [Act.put, List.getElem_toArray, List.getElem_cons_zero, List.getElem_cons_succ, List.setIfInBounds_toArray, List.set_cons_zero, List.set_cons_succ]
      refine AnyE.take (i := 5) (v := ?_) rfl (by kernel_rfl) (by kernel_rfl) (by kernel_rfl) (by kernel_rfl) (fun _ _ _ h => h) (Or.inl ⟨by rfl, ?_⟩) (by assumption) ?_
      rotate_left 1
      · intro w hSw
        (try dsimp only at hSw)
        go_simp
        all_goals (with_reducible rfl)
      try simp only [Act.put, List.getElem_toArray, List.getElem_cons_zero, List.getElem_cons_succ, List.setIfInBounds_toArray, List.set_cons_zero, List.set_cons_succ]
      refine AnyE.take (i := 6) (v := ?_) rfl (by kernel_rfl) (by kernel_rfl) (by kernel_rfl) (by kernel_rfl) (fun _ _ _ h => h) (Or.inl ⟨by rfl, ?_⟩) (by assumption) ?_
      rotate_left 1
      · intro w hSw
        (try dsimp only at hSw)
        go_simp
        all_goals (with_reducible rfl)
      try simp only [Act.put, List.getElem_toArray, List.getElem_cons_zero, List.getElem_cons_succ, List.setIfInBounds_toArray, List.set_cons_zero, List.set_cons_succ]
      refine AnyE.take (i := 7) (v := ?_) rfl (by kernel_rfl) (by kernel_rfl) (by kernel_rfl) (by kernel_rfl) (fun _ _ _ h => h) (Or.inl ⟨by rfl, ?_⟩) (by assumption) ?_
      rotate_left 1
      · intro w hSw
        (try dsimp only at hSw)
        go_simp
        all_goals (with_reducible rfl)
      try simp only [Act.put, List.getElem_toArray, List.getElem_cons_zero, List.getElem_cons_succ, List.setIfInBounds_toArray, List.set_cons_zero, List.set_cons_succ]
      refine AnyE.take (i := 8) (v := ?_) rfl (by kernel_rfl) (by kernel_rfl) (by kernel_rfl) (by kernel_rfl) (fun _ _ _ h => h) (Or.inl ⟨by rfl, ?_⟩) (by assumption) ?_
      rotate_left 1
      · intro w hSw
        (try dsimp only at hSw)
        go_simp
        all_goals (with_reducible rfl)
      try simp only [Act.put, List.getElem_toArray, List.getElem_cons_zero, List.getElem_cons_succ, List.setIfInBounds_toArray, List.set_cons_zero, List.set_cons_succ]
      refine AnyE.take (i := 9) (v := ?_) rfl (by kernel_rfl) (by kernel_rfl) (by kernel_rfl) (by kernel_rfl) (fun _ _ _ h => h) (Or.inl ⟨by rfl, ?_⟩) (by assumption) ?_
      rotate_left 1
      · intro w hSw
        (try dsimp only at hSw)
        go_simp
        all_goals (with_reducible rfl)
      try simp only [Act.put, List.getElem_toArray, List.getElem_cons_zero, List.getElem_cons_succ, List.setIfInBounds_toArray, List.set_cons_zero, List.set_cons_succ]
      refine AnyE.take (i := 10) (v := ?_) rfl (by kernel_rfl) (by kernel_rfl) (by kernel_rfl) (by kernel_rfl) (fun _ _ _ h => h) (Or.inl ⟨by rfl, ?_⟩) (by assumption) ?_
      rotate_left 1
      · intro w hSw
        (try dsimp only at hSw)
        go_simp
        all_goals (with_reducible rfl)
      try simp only [Act.put, List.getElem_toArray, List.getElem_cons_zero, List.getElem_cons_succ, List.setIfInBounds_toArray, List.set_cons_zero, List.set_cons_succ]
      refine AnyE.take (i := 11) (v := ?_) rfl (by kernel_rfl) (by kernel_rfl) (by kernel_rfl) (by kernel_rfl) (fun _ _ _ h => h) (Or.inl ⟨by rfl, ?_⟩) (by assumption) ?_
      rotate_left 1
      · intro w hSw
        (try dsimp only at hSw)
        go_simp
        all_goals (with_reducible rfl)
      try simp only [Act.put, List.getElem_toArray, List.getElem_cons_zero, List.getElem_cons_succ, List.setIfInBounds_toArray, List.set_cons_zero, List.set_cons_succ]
      refine AnyE.next (rs := [12]) (by kernel_rfl) (by simp) ?_
      refine AllE.last rfl (fun K hK => ?_)
      go_simp
      refine hK.out _ _ ?_
      clear hK K
      try simp only [Act.put, List.getElem_toArray, List.getElem_cons_zero, List.getElem_cons_succ, List.setIfInBounds_toArray, List.set_cons_zero, List.set_cons_succ]
      refine AnyE.done (by kernel_rfl) ?_ _
      have HH' := Lib.hid (fun v => HHr.out.kept (Kept.undrew (HK.out v)) (fun q hq e => HBD.out.1 (e ▸ hq)) (fun q hq e => by have h8 := HBD.out.2.1; omega))
      have HB' := Lib.hid (fun v => HBr.out.kept (Kept.undrew (HK.out v)) (fun e => HBD.out.2.2.1 e.symm))
      have E0' := Lib.hid (fun v => E0.out.kept (Kept.undrew (HK.out v)) (fun e => HBD.out.2.2.2 e.symm))
      go_wp2
      go_roundw
      case rel => exact ⟨i + 1, by omega, by go_num, Lib.hid (HH'.out _), Lib.hid (HPUT.out _), Lib.hid (HB'.out _), Lib.hid (E0'.out _)⟩
      case measure => simp [intOf]; omega
    · obtain ⟨wq, hwq⟩ : ∃ z, z = wr := ⟨_, rfl⟩
      subst hwq
      have p1 := E0.out.cell 1 rfl
      have p5 := E0.out.cell 5 rfl
      go_wp2_with fail
      refine (HFD.out wq g S9 HHr.out).mono ?_
      rintro e w10 ⟨px, pc, rfl, hf10, hl10, hb⟩
      have hH10 := HHr.out.below hb
      have HX11 := Lib.hid ((E0.out.below hb E0.out.lt).alloc (.cells #[.int .i64 M.fr, .int .i64 M.to, .int .i64 M.kd, .int .i64 M.vo, .int .i64 M.li, .int .u64 (M.id : Int), .int .i64 M.co, .bool M.has, .int .u64 (M.n.key : Int), .int .u32 (M.n.cookie : Int), .bool M.n.gone, .slice px L pc] 42))
      have HB11 := Lib.hid ((HBr.out.below hb HBr.out.lt).alloc (.cells #[.int .i64 M.fr, .int .i64 M.to, .int .i64 M.kd, .int .i64 M.vo, .int .i64 M.li, .int .u64 (M.id : Int), .int .i64 M.co, .bool M.has, .int .u64 (M.n.key : Int), .int .u32 (M.n.cookie : Int), .bool M.n.gone, .slice px L pc] 42))
      have HH11 := Lib.hid (hH10.alloc (.cells #[.int .i64 M.fr, .int .i64 M.to, .int .i64 M.kd, .int .i64 M.vo, .int .i64 M.li, .int .u64 (M.id : Int), .int .i64 M.co, .bool M.has, .int .u64 (M.n.key : Int), .int .u32 (M.n.cookie : Int), .bool M.n.gone, .slice px L pc] 42))
      have hY11 := Blk.new w10 #[.int .i64 M.fr, .int .i64 M.to, .int .i64 M.kd, .int .i64 M.vo, .int .i64 M.li, .int .u64 (M.id : Int), .int .i64 M.co, .bool M.has, .int .u64 (M.n.key : Int), .int .u32 (M.n.cookie : Int), .bool M.n.gone, .slice px L pc] 42
      have HW11 := Lib.hid ((Wr8.of hf10 HLL.out).kept (Kept.of_below (S := fun _ => False) (below_new16 w10 (.cells #[.int .i64 M.fr, .int .i64 M.to, .int .i64 M.kd, .int .i64 M.vo, .int .i64 M.li, .int .u64 (M.id : Int), .int .i64 M.co, .bool M.has, .int .u64 (M.n.key : Int), .int .u32 (M.n.cookie : Int), .bool M.n.gone, .slice px L pc] 42)) (Nat.le_refl _)) (fun _ _ _ h => h))
      have hlies : ∀ b, (Value.slice px L pc).ownBlock = some b → L ≠ 0 → liesB (.slice px L pc) M.n.data b := fun b hb hl => ⟨by rw [HLL.out]; exact hl, hb⟩
      obtain ⟨X7, hX7⟩ : ∃ z, w10.heap.size = z := ⟨_, rfl⟩
      have HNB11 := Lib.hid (show ∀ b, (Value.slice px L pc).ownBlock = some b → L ≠ 0 → ¬ S9 b ∧ w.heap.size ≤ b ∧ b ≠ X7 ∧ b ≠ w.heap.size ∧ b ≠ X4 from fun b hb hl => by
        have h8 := hl10 b (hlies b hb hl)
        have h7 := hf10.1.lies_lt (hlies b hb hl)
        have h6 := HBr.out.lt
        have h5 := HLT4.out
        exact ⟨HHr.out.new h8, by omega, by omega, by omega, by omega⟩)
      have HX7L := Lib.hid (show X4 < X7 by have h6 := HBr.out.lt; have h7 := hb.size; omega)
      obtain ⟨w11, hw11⟩ : ∃ z, w10.alloc (.cells #[.int .i64 M.fr, .int .i64 M.to, .int .i64 M.kd, .int .i64 M.vo, .int .i64 M.li, .int .u64 (M.id : Int), .int .i64 M.co, .bool M.has, .int .u64 (M.n.key : Int), .int .u32 (M.n.cookie : Int), .bool M.n.gone, .slice px L pc] 42) = z := ⟨_, rfl⟩
      rw [hw11] at HX11 HB11 HH11 hY11 HW11
      rw [hX7] at hY11
      have HWE11 := Lib.hid hw11
      have HXE7 := Lib.hid hX7
      have HY11 := Lib.hid hY11
      clear hb hH10 hY11 hlies hw11 hX7 hf10 hl10 bc hlen hlt hiL HHr HWr HBr E0 p1 p5
      go_upto_region 15 with fail
      try rw [HWE11.out]
      try rw [HXE7.out]
      go_wp2_with fail
      go_loopw [10] (fun q wr => ∃ i : Nat, i ≤ L ∧ q = .int .i64 i ∧ Hid (Ht w wr g S9 3 [M]) ∧ Hid (Wr8 wr (.slice px L pc) L) ∧ Hid (Blk wr X7 #[.int .i64 M.fr, .int .i64 M.to, .int .i64 M.kd, .int .i64 M.vo, .int .i64 M.li, .int .u64 (M.id : Int), .int .i64 M.co, .bool M.has, .int .u64 (M.n.key : Int), .int .u32 (M.n.cookie : Int), .bool M.n.gone, .slice px L pc] 42) ∧ Hid (Blk wr w.heap.size #[.int .i64 M.fr, .int .i64 M.to, .int .i64 M.kd, .int .i64 M.vo, .int .i64 M.li, .int .u64 (M.id : Int), .int .i64 M.co, .bool M.has, .int .u64 (M.n.key : Int), .int .u32 (M.n.cookie : Int), .bool M.n.gone, .slice x L c] 36) ∧ Hid (Blk wr X4 #[.int .i64 M.fr, .int .i64 M.to, .int .i64 M.kd, .int .i64 M.vo, .int .i64 M.li, .int .u64 (M.id : Int), .int .i64 M.co, .bool M.has, .int .u64 (M.n.key : Int), .int .u32 (M.n.cookie : Int), .bool M.n.gone, .slice y L k] 42)) (fun q _ => L - (intOf q).toNat)
      case atStart => exact ⟨0, Nat.zero_le _, rfl, HH11, HW11, HY11, HX11, HB11⟩
      case round =>
        obtain ⟨i, hiL, rfl, HHr, HWr, HBr, E0, E1⟩ := hrel
        have bc := HBr.out.cell 11 rfl
        have hlen := fun W => HWr.out.len (P := Try.prog) 32 3 5 Try.underlying32 W
        by_cases hlt : i < L
        · obtain ⟨b, o, z, hidx, hob, hcb, hfb, hput⟩ := HWr.out.at (P := Try.prog) 32 5 Try.underlying32 Try.sizeU8 i hlt
          have hfo := hfb o
          have HPUT := Lib.hid hput
          have hbd := HNB11.out b hob (by omega)
          have hK := fun v => (Kept.refl (fun j => j = b) wr.drew).setCell (p := ⟨b, o, none⟩) (.inl rfl) v
          have HK := Lib.hid hK
          have HBD := Lib.hid hbd
          have S0 : wr.drew.cell? ⟨X7, 11, none⟩ = some (.slice px L pc) ∧ wr.drew.cell? ⟨b, o, none⟩ = some (.int .u8 z) := ⟨bc, hcb⟩
          clear hput hbd hK hfb
          go_upto_region 18 with fail
          clear bc hcb hlen
          refine AnyE.start (S := (fun wx => wx.cell? ⟨X7, 11, none⟩ = some (.slice px L pc) ∧ wx.cell? ⟨b, o, none⟩ = some (.int .u8 z))) 12 (by kernel_rfl) (S0) (fun hHeld => ?_)
          refine AnyE.take (i := 0) (v := ?_) rfl (by kernel_rfl) (by kernel_rfl) (by kernel_rfl) (by kernel_rfl) (fun _ _ _ h => h) (Or.inl ⟨by rfl, ?_⟩) (by assumption) ?_
          rotate_left 1
          · intro w hSw
            (try dsimp only at hSw)
            go_simp
            all_goals (with_reducible rfl)
          try simp only [Act.put, List.getElem_toArray, List.getElem_cons_zero, List.getElem_cons_succ, List.setIfInBounds_toArray, List.set_cons_zero, List.set_cons_succ]
          refine AnyE.take (i := 1) (v := ?_) rfl (by kernel_rfl) (by kernel_rfl) (by kernel_rfl) (by kernel_rfl) (fun _ _ _ h => h) (Or.inl ⟨by rfl, ?_⟩) (by assumption) ?_
          rotate_left 1
          · intro w hSw
            (try dsimp only at hSw)
            go_simp
            all_goals (with_reducible rfl)
          try simp only [Act.put, List.getElem_toArray, List.getElem_cons_zero, List.getElem_cons_succ, List.setIfInBounds_toArray, List.set_cons_zero, List.set_cons_succ]
          refine AnyE.take (i := 2) (v := ?_) rfl (by kernel_rfl) (by kernel_rfl) (by kernel_rfl) (by kernel_rfl) (fun _ _ _ h => h) (Or.inl ⟨by rfl, ?_⟩) (by assumption) ?_
          rotate_left 1
          · intro w hSw
            (try dsimp only at hSw)
            go_simp
            all_goals (with_reducible rfl)
          try simp only [Act.put, List.getElem_toArray, List.getElem_cons_zero, List.getElem_cons_succ, List.setIfInBounds_toArray, List.set_cons_zero, List.set_cons_succ]
          refine AnyE.take (i := 3) (v := ?_) rfl (by kernel_rfl) (by kernel_rfl) (by kernel_rfl) (by kernel_rfl) (fun _ _ _ h => h) (Or.inl ⟨by rfl, ?_⟩) (by assumption) ?_
          rotate_left 1
          · intro w hSw
            (try dsimp only at hSw)
            go_simp
            all_goals (with_reducible rfl)
          try simp only [Act.put, List.getElem_toArray, List.getElem_cons_zero, List.getElem_cons_succ, List.setIfInBounds_toArray, List.set_cons_zero, List.set_cons_succ]
          refine AnyE.take (i := 4) (v := ?_) rfl (by kernel_rfl) (by kernel_rfl) (by kernel_rfl) (by kernel_rfl) (fun _ _ _ h => h) (Or.inl ⟨by rfl, ?_⟩) (by assumption) ?_
          rotate_left 1
          · intro w hSw
            (try dsimp only at hSw)
            go_simp
            all_goals (with_reducible rfl)
          try simp only [Act.put, List.getElem_toArray, List.getElem_cons_zero, List.getElem_cons_succ, List.setIfInBounds_toArray, List.set_cons_zero, List.set_cons_succ]
          refine AnyE.take (i := 5) (v := ?_) rfl (by kernel_rfl) (by kernel_rfl) (by kernel_rfl) (by kernel_rfl) (fun _ _ _ h => h) (Or.inl ⟨by rfl, ?_⟩) (by assumption) ?_
          rotate_left 1
          · intro w hSw
            (try dsimp only at hSw)
            go_simp
            all_goals (with_reducible rfl)
          try simp only [Act.put, List.getElem_toArray, List.getElem_cons_zero, List.getElem_cons_succ, List.setIfInBounds_toArray, List.set_cons_zero, List.set_cons_succ]
          refine AnyE.take (i := 6) (v := ?_) rfl (by kernel_rfl) (by kernel_rfl) (by kernel_rfl) (by kernel_rfl) (fun _ _ _ h => h) (Or.inl ⟨by rfl, ?_⟩) (by assumption) ?_
          rotate_left 1
          · intro w hSw
            (try dsimp only at hSw)
            go_simp
            all_goals (with_reducible rfl)
          try simp only [Act.put, List.getElem_toArray, List.getElem_cons_zero, List.getElem_cons_succ, List.setIfInBounds_toArray, List.set_cons_zero, List.set_cons_succ]
          refine AnyE.take (i := 7) (v := ?_) rfl (by kernel_rfl) (by kernel_rfl) (by kernel_rfl) (by kernel_rfl) (fun _ _ _ h => h) (Or.inl ⟨by rfl, ?_⟩) (by assumption) ?_
          rotate_left 1
          · intro w hSw
            (try dsimp only at hSw)
            go_simp
            all_goals (with_reducible rfl)
          try simp only [Act.put, List.getElem_toArray, List.getElem_cons_zero, List.getElem_cons_succ, List.setIfInBounds_toArray, List.set_cons_zero, List.set_cons_succ]
          refine AnyE.take (i := 8) (v := ?_) rfl (by kernel_rfl) (by kernel_rfl) (by kernel_rfl) (by kernel_rfl) (fun _ _ _ h => h) (Or.inl ⟨by rfl, ?_⟩) (by assumption) ?_
          rotate_left 1
          · intro w hSw
            (try dsimp only at hSw)
            go_simp
            all_goals (with_reducible rfl)
          try simp only [Act.put, List.getElem_toArray, List.getElem_cons_zero, List.getElem_cons_succ, List.setIfInBounds_toArray, List.set_cons_zero, List.set_cons_succ]
          refine AnyE.take (i := 9) (v := ?_) rfl (by kernel_rfl) (by kernel_rfl) (by kernel_rfl) (by kernel_rfl) (fun _ _ _ h => h) (Or.inl ⟨by rfl, ?_⟩) (by assumption) ?_
          rotate_left 1
          · intro w hSw
            (try dsimp only at hSw)
            go_simp
            all_goals (with_reducible rfl)
          try simp only [Act.put, List.getElem_toArray, List.getElem_cons_zero, List.getElem_cons_succ, List.setIfInBounds_toArray, List.set_cons_zero, List.set_cons_succ]
          refine AnyE.take (i := 10) (v := ?_) rfl (by kernel_rfl) (by kernel_rfl) (by kernel_rfl) (by kernel_rfl) (fun _ _ _ h => h) (Or.inl ⟨by rfl, ?_⟩) (by assumption) ?_
          rotate_left 1
          · intro w hSw
            (try dsimp only at hSw)
            go_simp
            all_goals (with_reducible rfl)
          try simp only [Act.put, List.getElem_toArray, List.getElem_cons_zero, List.getElem_cons_succ, List.setIfInBounds_toArray, List.set_cons_zero, List.set_cons_succ]
          refine AnyE.take (i := 11) (v := ?_) rfl (by kernel_rfl) (by kernel_rfl) (by kernel_rfl) (by kernel_rfl) (fun _ _ _ h => h) (Or.inl ⟨by rfl, ?_⟩) (by assumption) ?_
          rotate_left 1
          · intro w hSw
            (try dsimp only at hSw)
            go_simp
            all_goals (with_reducible rfl)
          try simp only [Act.put, List.getElem_toArray, List.getElem_cons_zero, List.getElem_cons_succ, List.setIfInBounds_toArray, List.set_cons_zero, List.set_cons_succ]
          refine AnyE.next (rs := [12]) (by kernel_rfl) (by simp) ?_
          refine AllE.last rfl (fun K hK => ?_)
          go_simp
          refine hK.out _ _ ?_
          clear hK K
          try simp only [Act.put, List.getElem_toArray, List.getElem_cons_zero, List.getElem_cons_succ, List.setIfInBounds_toArray, List.set_cons_zero, List.set_cons_succ]
          refine AnyE.done (by kernel_rfl) ?_ _
          have HH' := Lib.hid (fun v => HHr.out.kept (Kept.undrew (HK.out v)) (fun q hq e => HBD.out.1 (e ▸ hq)) (fun q hq e => by have h8 := HBD.out.2.1; omega))
          have HB' := Lib.hid (fun v => HBr.out.kept (Kept.undrew (HK.out v)) (fun e => HBD.out.2.2.1 e.symm))
          have E0' := Lib.hid (fun v => E0.out.kept (Kept.undrew (HK.out v)) (fun e => HBD.out.2.2.2.1 e.symm))
          have E1' := Lib.hid (fun v => E1.out.kept (Kept.undrew (HK.out v)) (fun e => HBD.out.2.2.2.2 e.symm))
          go_wp2
          go_roundw
          case rel => exact ⟨i + 1, by omega, by go_num, Lib.hid (HH'.out _), Lib.hid (HPUT.out _), Lib.hid (HB'.out _), Lib.hid (E0'.out _), Lib.hid (E1'.out _)⟩
          case measure => simp [intOf]; omega
        · obtain ⟨wv, hwv⟩ : ∃ z, z = wr := ⟨_, rfl⟩
          subst hwv
          have p1 := E0.out.cell 1 rfl
          have p5 := E0.out.cell 5 rfl
          go_wp2_with fail
          refine (HFD.out wv g S9 HHr.out).mono ?_
          rintro e w13 ⟨tx, tc, rfl, hi13, _, hb⟩
          have hH14 := (HHr.out.below hb).alloc (.cells #[.int .i64 M.fr, .int .i64 M.to, .int .i64 M.kd, .int .i64 M.vo, .int .i64 M.li, .int .u64 (M.id : Int), .int .i64 M.co, .bool M.has, .int .u64 (M.n.key : Int), .int .u32 (M.n.cookie : Int), .bool M.n.gone, .slice tx L tc] 42)
          have hX14 := (E0.out.below hb E0.out.lt).alloc (.cells #[.int .i64 M.fr, .int .i64 M.to, .int .i64 M.kd, .int .i64 M.vo, .int .i64 M.li, .int .u64 (M.id : Int), .int .i64 M.co, .bool M.has, .int .u64 (M.n.key : Int), .int .u32 (M.n.cookie : Int), .bool M.n.gone, .slice tx L tc] 42)
          have hY14 := (E1.out.below hb E1.out.lt).alloc (.cells #[.int .i64 M.fr, .int .i64 M.to, .int .i64 M.kd, .int .i64 M.vo, .int .i64 M.li, .int .u64 (M.id : Int), .int .i64 M.co, .bool M.has, .int .u64 (M.n.key : Int), .int .u32 (M.n.cookie : Int), .bool M.n.gone, .slice tx L tc] 42)
          have hT14 := Blk.new w13 #[.int .i64 M.fr, .int .i64 M.to, .int .i64 M.kd, .int .i64 M.vo, .int .i64 M.li, .int .u64 (M.id : Int), .int .i64 M.co, .bool M.has, .int .u64 (M.n.key : Int), .int .u32 (M.n.cookie : Int), .bool M.n.gone, .slice tx L tc] 42
          have hI14 := hi13.1.mono (below_new16 w13 (.cells #[.int .i64 M.fr, .int .i64 M.to, .int .i64 M.kd, .int .i64 M.vo, .int .i64 M.li, .int .u64 (M.id : Int), .int .i64 M.co, .bool M.has, .int .u64 (M.n.key : Int), .int .u32 (M.n.cookie : Int), .bool M.n.gone, .slice tx L tc] 42)) (Nat.le_refl _)
          obtain ⟨w14, hw14⟩ : ∃ z, w13.alloc (.cells #[.int .i64 M.fr, .int .i64 M.to, .int .i64 M.kd, .int .i64 M.vo, .int .i64 M.li, .int .u64 (M.id : Int), .int .i64 M.co, .bool M.has, .int .u64 (M.n.key : Int), .int .u32 (M.n.cookie : Int), .bool M.n.gone, .slice tx L tc] 42) = z := ⟨_, rfl⟩
          obtain ⟨Z, hZ⟩ : ∃ z, w13.heap.size = z := ⟨_, rfl⟩
          rw [hw14] at hH14 hX14 hY14 hT14 hI14
          rw [hZ] at hT14
          have HW14 := Lib.hid hw14
          have HZ := Lib.hid hZ
          have HH14 := Lib.hid hH14
          have HX14 := Lib.hid hX14
          have HY14 := Lib.hid hY14
          have HT14 := Lib.hid hT14
          have HI14 := Lib.hid hI14
          clear hb hw14 hZ hi13 hH14 hX14 hY14 hT14 hI14 bc hlen hlt hiL HHr HWr HBr E0 E1 p1 p5
          go_upto_region 20 with fail
          try rw [HW14.out]
          try rw [HZ.out]
          have p1 := HX14.out.cell 1 rfl
          have p5 := HX14.out.cell 5 rfl
          go_wp2_with fail
          refine (HFH.out w14 g S9 HH14.out).mono ?_
          rintro e w15 ⟨hx, hc, rfl, hb⟩
          have HB15 := Lib.hid (hb.alloc hb.size (.cells #[.int .i64 0, .int .i64 0, .int .i64 0, .int .i64 0, .int .i64 0, .int .u64 0, .int .i64 0, .bool false, .int .u64 0, .int .u32 0, .bool false, .slice hx 0 hc] 42))
          obtain ⟨w16, hw16⟩ : ∃ z, w15.alloc (.cells #[.int .i64 0, .int .i64 0, .int .i64 0, .int .i64 0, .int .i64 0, .int .u64 0, .int .i64 0, .bool false, .int .u64 0, .int .u32 0, .bool false, .slice hx 0 hc] 42) = z := ⟨_, rfl⟩
          obtain ⟨Z13, hZ13⟩ : ∃ z, w15.heap.size = z := ⟨_, rfl⟩
          rw [hw16] at HB15
          have HW16 := Lib.hid hw16
          have HZ13 := Lib.hid hZ13
          clear hb hw16 hZ13 p1 p5 hQU
          go_upto_region 21 with fail
          try rw [HW16.out]
          try rw [HZ13.out]
          go_wp2_with fail
          refine (oclear_nil w16).mono ?_
          rintro e wz ⟨rfl, rfl⟩
          go_wp2_with fail
          refine (HFN.out _).mono ?_
          rintro e w17 ⟨rfl, hb⟩
          have HB17 := Lib.hid ((HB15.out.trans (hb.mono HB15.out.size)).alloc (HB15.out.trans (hb.mono HB15.out.size)).size (.cells #[.int .i64 0, .int .i64 0, .int .i64 0, .int .i64 0, .int .i64 0, .int .u64 0, .int .i64 0, .bool false, .int .u64 0, .int .u32 0, .bool false, .slice none 0 0] 42))
          obtain ⟨w18, hw18⟩ : ∃ z, w17.alloc (.cells #[.int .i64 0, .int .i64 0, .int .i64 0, .int .i64 0, .int .i64 0, .int .u64 0, .int .i64 0, .bool false, .int .u64 0, .int .u32 0, .bool false, .slice none 0 0] 42) = z := ⟨_, rfl⟩
          obtain ⟨Z15, hZ15⟩ : ∃ z, w17.heap.size = z := ⟨_, rfl⟩
          rw [hw18] at HB17
          have HW18 := Lib.hid hw18
          have HZ15 := Lib.hid hZ15
          clear hb hw18 hZ15
          go_upto_region 24 with fail
          try rw [HW18.out]
          try rw [HZ15.out]
          have HBZ := Lib.hid (HH14.out.bel.trans (HB17.out.mono HH14.out.bel.size))
          have HTO := Lib.hid (fun wx => to_any M tx L tc wx)
          have HUX := Lib.hid (show Below w18.heap.size w18 w18.drew from (Below.refl _ _).drew)
          have hx18 := HX14.out.below HB17.out HX14.out.lt
          have hy18 := HY14.out.below HB17.out HY14.out.lt
          have ht18 := HT14.out.below HB17.out HT14.out.lt
          have HI18 := Lib.hid (HI14.out.mono HB17.out (Nat.le_refl _))
          have HC1 := Lib.hid (fun (wx : World) (hb : Below w18.heap.size w18 wx) => show wx.cell? ⟨w.heap.size, 0, none⟩ = some (.int .i64 M.fr) ∧ wx.cell? ⟨w.heap.size, 1, none⟩ = some (.int .i64 M.to) ∧ wx.cell? ⟨w.heap.size, 2, none⟩ = some (.int .i64 M.kd) ∧ wx.cell? ⟨w.heap.size, 3, none⟩ = some (.int .i64 M.vo) ∧ wx.cell? ⟨w.heap.size, 4, none⟩ = some (.int .i64 M.li) ∧ wx.cell? ⟨w.heap.size, 5, none⟩ = some (.int .u64 (M.id : Int)) ∧ wx.cell? ⟨w.heap.size, 6, none⟩ = some (.int .i64 M.co) ∧ wx.cell? ⟨w.heap.size, 7, none⟩ = some (.bool M.has) ∧ wx.cell? ⟨w.heap.size, 8, none⟩ = some (.int .u64 (M.n.key : Int)) ∧ wx.cell? ⟨w.heap.size, 9, none⟩ = some (.int .u32 (M.n.cookie : Int)) ∧ wx.cell? ⟨w.heap.size, 10, none⟩ = some (.bool M.n.gone) ∧ wx.cell? ⟨w.heap.size, 11, none⟩ = some (.slice x L c) from
            have h := hx18.below hb hx18.lt
            ⟨h.cell 0 rfl, h.cell 1 rfl, h.cell 2 rfl, h.cell 3 rfl, h.cell 4 rfl, h.cell 5 rfl, h.cell 6 rfl, h.cell 7 rfl, h.cell 8 rfl, h.cell 9 rfl, h.cell 10 rfl, h.cell 11 rfl⟩)
          have HC4 := Lib.hid (fun (wx : World) (hb : Below w18.heap.size w18 wx) => show wx.cell? ⟨X4, 0, none⟩ = some (.int .i64 M.fr) ∧ wx.cell? ⟨X4, 1, none⟩ = some (.int .i64 M.to) ∧ wx.cell? ⟨X4, 2, none⟩ = some (.int .i64 M.kd) ∧ wx.cell? ⟨X4, 3, none⟩ = some (.int .i64 M.vo) ∧ wx.cell? ⟨X4, 4, none⟩ = some (.int .i64 M.li) ∧ wx.cell? ⟨X4, 5, none⟩ = some (.int .u64 (M.id : Int)) ∧ wx.cell? ⟨X4, 6, none⟩ = some (.int .i64 M.co) ∧ wx.cell? ⟨X4, 7, none⟩ = some (.bool M.has) ∧ wx.cell? ⟨X4, 8, none⟩ = some (.int .u64 (M.n.key : Int)) ∧ wx.cell? ⟨X4, 9, none⟩ = some (.int .u32 (M.n.cookie : Int)) ∧ wx.cell? ⟨X4, 10, none⟩ = some (.bool M.n.gone) ∧ wx.cell? ⟨X4, 11, none⟩ = some (.slice y L k) from
            have h := hy18.below hb hy18.lt
            ⟨h.cell 0 rfl, h.cell 1 rfl, h.cell 2 rfl, h.cell 3 rfl, h.cell 4 rfl, h.cell 5 rfl, h.cell 6 rfl, h.cell 7 rfl, h.cell 8 rfl, h.cell 9 rfl, h.cell 10 rfl, h.cell 11 rfl⟩)
          have HC10 := Lib.hid (fun (wx : World) (hb : Below w18.heap.size w18 wx) => show wx.cell? ⟨Z, 0, none⟩ = some (.int .i64 M.fr) ∧ wx.cell? ⟨Z, 1, none⟩ = some (.int .i64 M.to) ∧ wx.cell? ⟨Z, 2, none⟩ = some (.int .i64 M.kd) ∧ wx.cell? ⟨Z, 3, none⟩ = some (.int .i64 M.vo) ∧ wx.cell? ⟨Z, 4, none⟩ = some (.int .i64 M.li) ∧ wx.cell? ⟨Z, 5, none⟩ = some (.int .u64 (M.id : Int)) ∧ wx.cell? ⟨Z, 6, none⟩ = some (.int .i64 M.co) ∧ wx.cell? ⟨Z, 7, none⟩ = some (.bool M.has) ∧ wx.cell? ⟨Z, 8, none⟩ = some (.int .u64 (M.n.key : Int)) ∧ wx.cell? ⟨Z, 9, none⟩ = some (.int .u32 (M.n.cookie : Int)) ∧ wx.cell? ⟨Z, 10, none⟩ = some (.bool M.n.gone) ∧ wx.cell? ⟨Z, 11, none⟩ = some (.slice tx L tc) from
            have h := ht18.below hb ht18.lt
            ⟨h.cell 0 rfl, h.cell 1 rfl, h.cell 2 rfl, h.cell 3 rfl, h.cell 4 rfl, h.cell 5 rfl, h.cell 6 rfl, h.cell 7 rfl, h.cell 8 rfl, h.cell 9 rfl, h.cell 10 rfl, h.cell 11 rfl⟩)
          clear hx18 hy18 ht18
          refine wp_region_held_drew (S := (fun wx => Below w18.heap.size w18 wx)) (by kernel_rfl) (HUX.out) (fun hHeld => ?_)
          obtain ⟨q0w, hq0w⟩ : ∃ q, w18.drew = q := ⟨_, rfl⟩
          rw [hq0w] at HUX hHeld
          rw [hq0w]
          clear hq0w
          refine wpAnyH_take (i := 0) (v := ?_) rfl (by kernel_rfl) (by kernel_rfl) (by kernel_rfl) (fun _ _ _ h => h) (Or.inl ⟨by rfl, ?_⟩) (by assumption) ?_
          rotate_left 1
          · intro w hSw
            (try dsimp only at hSw)
            go_simp
            all_goals (with_reducible rfl)
          try simp only [Act.put, List.getElem_toArray, List.getElem_cons_zero, List.getElem_cons_succ, List.setIfInBounds_toArray, List.set_cons_zero, List.set_cons_succ]
          refine wpAnyH_take (i := 2) (v := ?_) rfl (by kernel_rfl) (by kernel_rfl) (by kernel_rfl) (fun _ _ _ h => h) (Or.inl ⟨by rfl, ?_⟩) (by assumption) ?_
          rotate_left 1
          · intro w hSw
            (try dsimp only at hSw)
            go_simp
            all_goals (with_reducible rfl)
          try simp only [Act.put, List.getElem_toArray, List.getElem_cons_zero, List.getElem_cons_succ, List.setIfInBounds_toArray, List.set_cons_zero, List.set_cons_succ]
          refine wpAnyH_take (i := 5) (v := ?_) rfl (by kernel_rfl) (by kernel_rfl) (by kernel_rfl) (fun _ _ _ h => h) (Or.inl ⟨by rfl, ?_⟩) (by assumption) ?_
          rotate_left 1
          · intro w hSw
            (try dsimp only at hSw)
            go_simp
            all_goals (with_reducible rfl)
          try simp only [Act.put, List.getElem_toArray, List.getElem_cons_zero, List.getElem_cons_succ, List.setIfInBounds_toArray, List.set_cons_zero, List.set_cons_succ]
          refine wpAnyH_ready (rs := [1]) (by kernel_rfl) (by simp) ?_
          refine AllReadyH.cons rfl (fun K hK => ?_) AllReadyH.nil
          go_simp
          refine (code_nil _).mono ?_
          rintro e u ⟨rfl, rfl⟩
          refine hK.out _ _ (by first | exact hHeld | exact HUX.out) (fun hHeld => ?_)
          clear hK K
          try simp only [Act.put, List.getElem_toArray, List.getElem_cons_zero, List.getElem_cons_succ, List.setIfInBounds_toArray, List.set_cons_zero, List.set_cons_succ]
          refine wpAnyH_ready (rs := [3]) (by kernel_rfl) (by simp) ?_
          refine AllReadyH.cons rfl (fun K hK => ?_) AllReadyH.nil
          go_simp
          refine (code_nil _).mono ?_
          rintro e u ⟨rfl, rfl⟩
          refine hK.out _ _ (by first | exact hHeld | exact HUX.out) (fun hHeld => ?_)
          clear hK K
          try simp only [Act.put, List.getElem_toArray, List.getElem_cons_zero, List.getElem_cons_succ, List.setIfInBounds_toArray, List.set_cons_zero, List.set_cons_succ]
          refine wpAnyH_take (i := 4) (v := ?_) rfl (by kernel_rfl) (by kernel_rfl) (by kernel_rfl) (fun _ _ _ h => h) (Or.inl ⟨by rfl, ?_⟩) (by assumption) ?_
          rotate_left 1
          · intro w hSw
            (try dsimp only at hSw)
            go_simp
            all_goals (with_reducible rfl)
          try simp only [Act.put, List.getElem_toArray, List.getElem_cons_zero, List.getElem_cons_succ, List.setIfInBounds_toArray, List.set_cons_zero, List.set_cons_succ]
          refine wpAnyH_ready (rs := [6]) (by kernel_rfl) (by simp) ?_
          refine AllReadyH.cons rfl (fun K hK => ?_) AllReadyH.nil
          go_simp
          refine (code_nil _).mono ?_
          rintro e u ⟨rfl, rfl⟩
          refine hK.out _ _ (by first | exact hHeld | exact HUX.out) (fun hHeld => ?_)
          clear hK K
          try simp only [Act.put, List.getElem_toArray, List.getElem_cons_zero, List.getElem_cons_succ, List.setIfInBounds_toArray, List.set_cons_zero, List.set_cons_succ]
          refine wpAnyH_take (i := 7) (v := ?_) rfl (by kernel_rfl) (by kernel_rfl) (by kernel_rfl) (fun _ _ _ h => h) (Or.inl ⟨by rfl, ?_⟩) (by assumption) ?_
          rotate_left 1
          · intro w hSw
            (try dsimp only at hSw)
            go_simp
            all_goals (with_reducible rfl)
          try simp only [Act.put, List.getElem_toArray, List.getElem_cons_zero, List.getElem_cons_succ, List.setIfInBounds_toArray, List.set_cons_zero, List.set_cons_succ]
          refine wpAnyH_take (i := 8) (v := ?_) rfl (by kernel_rfl) (by kernel_rfl) (by kernel_rfl) (fun _ _ _ h => h) (Or.inl ⟨by rfl, ?_⟩) (by assumption) ?_
          rotate_left 1
          · intro w hSw
            (try dsimp only at hSw)
            go_simp
            all_goals (with_reducible rfl)
          try simp only [Act.put, List.getElem_toArray, List.getElem_cons_zero, List.getElem_cons_succ, List.setIfInBounds_toArray, List.set_cons_zero, List.set_cons_succ]
          refine wpAnyH_take (i := 9) (v := ?_) rfl (by kernel_rfl) (by kernel_rfl) (by kernel_rfl) (fun _ _ _ h => h) (Or.inl ⟨by rfl, ?_⟩) (by assumption) ?_
          rotate_left 1
          · intro w hSw
            (try dsimp only at hSw)
            go_simp
            all_goals (with_reducible rfl)
          try simp only [Act.put, List.getElem_toArray, List.getElem_cons_zero, List.getElem_cons_succ, List.setIfInBounds_toArray, List.set_cons_zero, List.set_cons_succ]
          refine wpAnyH_take (i := 10) (v := ?_) rfl (by kernel_rfl) (by kernel_rfl) (by kernel_rfl) (fun _ _ _ h => h) (Or.inl ⟨by rfl, ?_⟩) (by assumption) ?_
          rotate_left 1
          · intro w hSw
            obtain ⟨p0, p1, p2, p3, p4, p5, p6, p7, p8, p9, p10, p11⟩ := HC10.out w hSw
            go_simp
            all_goals (with_reducible rfl)
          try simp only [Act.put, List.getElem_toArray, List.getElem_cons_zero, List.getElem_cons_succ, List.setIfInBounds_toArray, List.set_cons_zero, List.set_cons_succ]
          refine wpAnyH_take (i := 12) (v := ?_) rfl (by kernel_rfl) (by kernel_rfl) (by kernel_rfl) (fun _ _ _ h => h) (Or.inl ⟨by rfl, ?_⟩) (by assumption) ?_
          rotate_left 1
          · intro w hSw
            obtain ⟨p0, p1, p2, p3, p4, p5, p6, p7, p8, p9, p10, p11⟩ := HC1.out w hSw
            go_simp
            all_goals (with_reducible rfl)
          try simp only [Act.put, List.getElem_toArray, List.getElem_cons_zero, List.getElem_cons_succ, List.setIfInBounds_toArray, List.set_cons_zero, List.set_cons_succ]
          refine wpAnyH_ready (rs := [11]) (by kernel_rfl) (by simp) ?_
          refine AllReadyH.cons rfl (fun K hK => ?_) AllReadyH.nil
          go_simp
          refine (HTO.out _).mono ?_
          rintro e u1 ⟨rfl, hbx⟩
          have HUn := Lib.hid (HUX.out.trans (hbx.mono HUX.out.size))
          clear hbx HUX
          have HUX := HUn
          clear HUn
          refine hK.out _ _ (by first | exact hHeld | exact HUX.out) (fun hHeld => ?_)
          clear hK K
          try simp only [Act.put, List.getElem_toArray, List.getElem_cons_zero, List.getElem_cons_succ, List.setIfInBounds_toArray, List.set_cons_zero, List.set_cons_succ]
          refine wpAnyH_ready (rs := [13]) (by kernel_rfl) (by simp) ?_
          refine AllReadyH.cons rfl (fun K hK => ?_) AllReadyH.nil
          go_simp
          refine (HSM.out _ tx tc (HBZ.out.trans (HUX.out.mono HBZ.out.size)) (HI18.out.mono HUX.out (Nat.le_refl _))).mono ?_
          rintro e u1 ⟨rfl, hbx⟩
          have HUn := Lib.hid (HUX.out.trans (hbx.mono HUX.out.size))
          clear hbx HUX
          have HUX := HUn
          clear HUn
          refine hK.out _ _ (by first | exact hHeld | exact HUX.out) (fun hHeld => ?_)
          clear hK K
          try simp only [Act.put, List.getElem_toArray, List.getElem_cons_zero, List.getElem_cons_succ, List.setIfInBounds_toArray, List.set_cons_zero, List.set_cons_succ]
          refine wpAnyH_take (i := 14) (v := ?_) rfl (by kernel_rfl) (by kernel_rfl) (by kernel_rfl) (fun _ _ _ h => h) (Or.inl ⟨by rfl, ?_⟩) (by assumption) ?_
          rotate_left 1
          · intro w hSw
            (try dsimp only at hSw)
            go_simp
            all_goals (with_reducible rfl)
          try simp only [Act.put, List.getElem_toArray, List.getElem_cons_zero, List.getElem_cons_succ, List.setIfInBounds_toArray, List.set_cons_zero, List.set_cons_succ]
          refine wpAnyH_take (i := 15) (v := ?_) rfl (by kernel_rfl) (by kernel_rfl) (by kernel_rfl) (fun _ _ _ h => h) (Or.inl ⟨by rfl, ?_⟩) (by assumption) ?_
          rotate_left 1
          · intro w hSw
            (try dsimp only at hSw)
            go_simp
            all_goals (with_reducible rfl)
          try simp only [Act.put, List.getElem_toArray, List.getElem_cons_zero, List.getElem_cons_succ, List.setIfInBounds_toArray, List.set_cons_zero, List.set_cons_succ]
          refine wpAnyH_take (i := 16) (v := ?_) rfl (by kernel_rfl) (by kernel_rfl) (by kernel_rfl) (fun _ _ _ h => h) (Or.inl ⟨by rfl, ?_⟩) (by assumption) ?_
          rotate_left 1
          · intro w hSw
            (try dsimp only at hSw)
            go_simp
            all_goals (with_reducible rfl)
          try simp only [Act.put, List.getElem_toArray, List.getElem_cons_zero, List.getElem_cons_succ, List.setIfInBounds_toArray, List.set_cons_zero, List.set_cons_succ]
          refine wpAnyH_ready (rs := [17]) (by kernel_rfl) (by simp) ?_
          refine AllReadyH.cons rfl (fun K hK => ?_) AllReadyH.nil
          go_simp
          refine (code_code 6 _ (by decide) (by decide)).mono ?_
          rintro e u ⟨rfl, rfl⟩
          refine hK.out _ _ (by first | exact hHeld | exact HUX.out) (fun hHeld => ?_)
          clear hK K
          try simp only [Act.put, List.getElem_toArray, List.getElem_cons_zero, List.getElem_cons_succ, List.setIfInBounds_toArray, List.set_cons_zero, List.set_cons_succ]
          refine wpAnyH_take (i := 18) (v := ?_) rfl (by kernel_rfl) (by kernel_rfl) (by kernel_rfl) (fun _ _ _ h => h) (Or.inl ⟨by rfl, ?_⟩) (by assumption) ?_
          rotate_left 1
          · intro w hSw
            (try dsimp only at hSw)
            go_simp
            all_goals (with_reducible rfl)
          try simp only [Act.put, List.getElem_toArray, List.getElem_cons_zero, List.getElem_cons_succ, List.setIfInBounds_toArray, List.set_cons_zero, List.set_cons_succ]
          refine wpAnyH_take (i := 19) (v := ?_) rfl (by kernel_rfl) (by kernel_rfl) (by kernel_rfl) (fun _ _ _ h => h) (Or.inl ⟨by rfl, ?_⟩) (by assumption) ?_
          rotate_left 1
          · intro w hSw
            (try dsimp only at hSw)
            go_simp
            all_goals (with_reducible rfl)
          try simp only [Act.put, List.getElem_toArray, List.getElem_cons_zero, List.getElem_cons_succ, List.setIfInBounds_toArray, List.set_cons_zero, List.set_cons_succ]
          refine wpAnyH_take (i := 20) (v := ?_) rfl (by kernel_rfl) (by kernel_rfl) (by kernel_rfl) (fun _ _ _ h => h) (Or.inl ⟨by rfl, ?_⟩) (by assumption) ?_
          rotate_left 1
          · intro w hSw
            (try dsimp only at hSw)
            go_simp
            all_goals (with_reducible rfl)
          try simp only [Act.put, List.getElem_toArray, List.getElem_cons_zero, List.getElem_cons_succ, List.setIfInBounds_toArray, List.set_cons_zero, List.set_cons_succ]
          refine wpAnyH_take (i := 21) (v := ?_) rfl (by kernel_rfl) (by kernel_rfl) (by kernel_rfl) (fun _ _ _ h => h) (Or.inl ⟨by rfl, ?_⟩) (by assumption) ?_
          rotate_left 1
          · intro w hSw
            (try dsimp only at hSw)
            go_simp
            all_goals (with_reducible rfl)
          try simp only [Act.put, List.getElem_toArray, List.getElem_cons_zero, List.getElem_cons_succ, List.setIfInBounds_toArray, List.set_cons_zero, List.set_cons_succ]
          refine wpAnyH_ready (rs := [22]) (by kernel_rfl) (by simp) ?_
          refine AllReadyH.cons rfl (fun K hK => ?_) AllReadyH.nil
          go_simp
          refine (code_code 15 _ (by decide) (by decide)).mono ?_
          rintro e u ⟨rfl, rfl⟩
          refine hK.out _ _ (by first | exact hHeld | exact HUX.out) (fun hHeld => ?_)
          clear hK K
          try simp only [Act.put, List.getElem_toArray, List.getElem_cons_zero, List.getElem_cons_succ, List.setIfInBounds_toArray, List.set_cons_zero, List.set_cons_succ]
          refine wpAnyH_take (i := 23) (v := ?_) rfl (by kernel_rfl) (by kernel_rfl) (by kernel_rfl) (fun _ _ _ h => h) (Or.inl ⟨by rfl, ?_⟩) (by assumption) ?_
          rotate_left 1
          · intro w hSw
            (try dsimp only at hSw)
            go_simp
            all_goals (with_reducible rfl)
          try simp only [Act.put, List.getElem_toArray, List.getElem_cons_zero, List.getElem_cons_succ, List.setIfInBounds_toArray, List.set_cons_zero, List.set_cons_succ]
          refine wpAnyH_take (i := 24) (v := ?_) rfl (by kernel_rfl) (by kernel_rfl) (by kernel_rfl) (fun _ _ _ h => h) (Or.inl ⟨by rfl, ?_⟩) (by assumption) ?_
          rotate_left 1
          · intro w hSw
            (try dsimp only at hSw)
            go_simp
            all_goals (with_reducible rfl)
          try simp only [Act.put, List.getElem_toArray, List.getElem_cons_zero, List.getElem_cons_succ, List.setIfInBounds_toArray, List.set_cons_zero, List.set_cons_succ]
          refine wpAnyH_take (i := 25) (v := ?_) rfl (by kernel_rfl) (by kernel_rfl) (by kernel_rfl) (fun _ _ _ h => h) (Or.inl ⟨by rfl, ?_⟩) (by assumption) ?_
          rotate_left 1
          · intro w hSw
            (try dsimp only at hSw)
            go_simp
            all_goals (with_reducible rfl)
          try simp only [Act.put, List.getElem_toArray, List.getElem_cons_zero, List.getElem_cons_succ, List.setIfInBounds_toArray, List.set_cons_zero, List.set_cons_succ]
          refine wpAnyH_take (i := 26) (v := ?_) rfl (by kernel_rfl) (by kernel_rfl) (by kernel_rfl) (fun _ _ _ h => h) (Or.inl ⟨by rfl, ?_⟩) (by assumption) ?_
          rotate_left 1
          · intro w hSw
            (try dsimp only at hSw)
            go_simp
            all_goals (with_reducible rfl)
          try simp only [Act.put, List.getElem_toArray, List.getElem_cons_zero, List.getElem_cons_succ, List.setIfInBounds_toArray, List.set_cons_zero, List.set_cons_succ]
          refine wpAnyH_take (i := 27) (v := ?_) rfl (by kernel_rfl) (by kernel_rfl) (by kernel_rfl) (fun _ _ _ h => h) (Or.inl ⟨by rfl, ?_⟩) (by assumption) ?_
          rotate_left 1
          · intro w hSw
            obtain ⟨p0, p1, p2, p3, p4, p5, p6, p7, p8, p9, p10, p11⟩ := HC4.out w hSw
            go_simp
            all_goals (with_reducible rfl)
          try simp only [Act.put, List.getElem_toArray, List.getElem_cons_zero, List.getElem_cons_succ, List.setIfInBounds_toArray, List.set_cons_zero, List.set_cons_succ]
          refine wpAnyH_ready (rs := [28]) (by kernel_rfl) (by simp) ?_
          refine AllReadyH.cons rfl (fun K hK => ?_) AllReadyH.nil
          go_simp
          refine (okeep_none M y L k _).mono ?_
          rintro e u1 ⟨rfl, hbx⟩
          have HUn := Lib.hid (HUX.out.trans (hbx.mono HUX.out.size))
          clear hbx HUX
          have HUX := HUn
          clear HUn
          refine hK.out _ _ (by first | exact hHeld | exact HUX.out) (fun hHeld => ?_)
          clear hK K
          try simp only [Act.put, List.getElem_toArray, List.getElem_cons_zero, List.getElem_cons_succ, List.setIfInBounds_toArray, List.set_cons_zero, List.set_cons_succ]
          refine wpAnyH_ready (rs := [29]) (by kernel_rfl) (by simp) ?_
          refine AllReadyH.cons rfl (fun K hK => ?_) AllReadyH.nil
          go_simp
          refine (code_code 15 _ (by decide) (by decide)).mono ?_
          rintro e u ⟨rfl, rfl⟩
          refine hK.out _ _ (by first | exact hHeld | exact HUX.out) (fun hHeld => ?_)
          clear hK K
          try simp only [Act.put, List.getElem_toArray, List.getElem_cons_zero, List.getElem_cons_succ, List.setIfInBounds_toArray, List.set_cons_zero, List.set_cons_succ]
          refine wpAnyH_take (i := 30) (v := ?_) rfl (by kernel_rfl) (by kernel_rfl) (by kernel_rfl) (fun _ _ _ h => h) (Or.inl ⟨by rfl, ?_⟩) (by assumption) ?_
          rotate_left 1
          · intro w hSw
            (try dsimp only at hSw)
            go_simp
            all_goals (with_reducible rfl)
          try simp only [Act.put, List.getElem_toArray, List.getElem_cons_zero, List.getElem_cons_succ, List.setIfInBounds_toArray, List.set_cons_zero, List.set_cons_succ]
          refine wpAnyH_take (i := 31) (v := ?_) rfl (by kernel_rfl) (by kernel_rfl) (by kernel_rfl) (fun _ _ _ h => h) (Or.inl ⟨by rfl, ?_⟩) (by assumption) ?_
          rotate_left 1
          · intro w hSw
            (try dsimp only at hSw)
            go_simp
            all_goals (with_reducible rfl)
          try simp only [Act.put, List.getElem_toArray, List.getElem_cons_zero, List.getElem_cons_succ, List.setIfInBounds_toArray, List.set_cons_zero, List.set_cons_succ]
          refine wpAnyH_take (i := 32) (v := ?_) rfl (by kernel_rfl) (by kernel_rfl) (by kernel_rfl) (fun _ _ _ h => h) (Or.inl ⟨by rfl, ?_⟩) (by assumption) ?_
          rotate_left 1
          · intro w hSw
            (try dsimp only at hSw)
            go_simp
            all_goals (with_reducible rfl)
          try simp only [Act.put, List.getElem_toArray, List.getElem_cons_zero, List.getElem_cons_succ, List.setIfInBounds_toArray, List.set_cons_zero, List.set_cons_succ]
          refine wpAnyH_take (i := 33) (v := ?_) rfl (by kernel_rfl) (by kernel_rfl) (by kernel_rfl) (fun _ _ _ h => h) (Or.inl ⟨by rfl, ?_⟩) (by assumption) ?_
          rotate_left 1
          · intro w hSw
            (try dsimp only at hSw)
            go_simp
            all_goals (with_reducible rfl)
          try simp only [Act.put, List.getElem_toArray, List.getElem_cons_zero, List.getElem_cons_succ, List.setIfInBounds_toArray, List.set_cons_zero, List.set_cons_succ]
          refine wpAnyH_ready (rs := [34]) (by kernel_rfl) (by simp) ?_
          refine AllReadyH.cons rfl (fun K hK => ?_) AllReadyH.nil
          go_simp
          refine (olen_nil _).mono ?_
          rintro e u ⟨rfl, rfl⟩
          refine hK.out _ _ (by first | exact hHeld | exact HUX.out) (fun hHeld => ?_)
          clear hK K
          try simp only [Act.put, List.getElem_toArray, List.getElem_cons_zero, List.getElem_cons_succ, List.setIfInBounds_toArray, List.set_cons_zero, List.set_cons_succ]
          refine wpAnyH_take (i := 35) (v := ?_) rfl (by kernel_rfl) (by kernel_rfl) (by kernel_rfl) (fun _ _ _ h => h) (Or.inl ⟨by rfl, ?_⟩) (by assumption) ?_
          rotate_left 1
          · intro w hSw
            (try dsimp only at hSw)
            go_simp
            all_goals (with_reducible rfl)
          try simp only [Act.put, List.getElem_toArray, List.getElem_cons_zero, List.getElem_cons_succ, List.setIfInBounds_toArray, List.set_cons_zero, List.set_cons_succ]
          refine wpAnyH_take (i := 36) (v := ?_) rfl (by kernel_rfl) (by kernel_rfl) (by kernel_rfl) (fun _ _ _ h => h) (Or.inl ⟨by rfl, ?_⟩) (by assumption) ?_
          rotate_left 1
          · intro w hSw
            (try dsimp only at hSw)
            go_simp
            all_goals (with_reducible rfl)
          try simp only [Act.put, List.getElem_toArray, List.getElem_cons_zero, List.getElem_cons_succ, List.setIfInBounds_toArray, List.set_cons_zero, List.set_cons_succ]
          refine wpAnyH_take (i := 37) (v := ?_) rfl (by kernel_rfl) (by kernel_rfl) (by kernel_rfl) (fun _ _ _ h => h) (Or.inl ⟨by rfl, ?_⟩) (by assumption) ?_
          rotate_left 1
          · intro w hSw
            (try dsimp only at hSw)
            go_simp
            all_goals (with_reducible rfl)
          try simp only [Act.put, List.getElem_toArray, List.getElem_cons_zero, List.getElem_cons_succ, List.setIfInBounds_toArray, List.set_cons_zero, List.set_cons_succ]
          refine wpAnyH_take (i := 38) (v := ?_) rfl (by kernel_rfl) (by kernel_rfl) (by kernel_rfl) (fun _ _ _ h => h) (Or.inl ⟨by rfl, ?_⟩) (by assumption) ?_
          rotate_left 1
          · intro w hSw
            (try dsimp only at hSw)
            go_simp
            all_goals (with_reducible rfl)
          try simp only [Act.put, List.getElem_toArray, List.getElem_cons_zero, List.getElem_cons_succ, List.setIfInBounds_toArray, List.set_cons_zero, List.set_cons_succ]
          refine wpAnyH_ready (rs := [39]) (by kernel_rfl) (by simp) ?_
          refine AllReadyH.cons rfl (fun K hK => ?_) AllReadyH.nil
          go_simp
          refine (oroom_nil _).mono ?_
          rintro e u1 ⟨rfl, hbx⟩
          have HUn := Lib.hid (HUX.out.trans (hbx.mono HUX.out.size))
          clear hbx HUX
          have HUX := HUn
          clear HUn
          refine hK.out _ _ (by first | exact hHeld | exact HUX.out) (fun hHeld => ?_)
          clear hK K
          try simp only [Act.put, List.getElem_toArray, List.getElem_cons_zero, List.getElem_cons_succ, List.setIfInBounds_toArray, List.set_cons_zero, List.set_cons_succ]
          refine wpAnyH_take (i := 40) (v := ?_) rfl (by kernel_rfl) (by kernel_rfl) (by kernel_rfl) (fun _ _ _ h => h) (Or.inl ⟨by rfl, ?_⟩) (by assumption) ?_
          rotate_left 1
          · intro w hSw
            (try dsimp only at hSw)
            go_simp
            all_goals (with_reducible rfl)
          try simp only [Act.put, List.getElem_toArray, List.getElem_cons_zero, List.getElem_cons_succ, List.setIfInBounds_toArray, List.set_cons_zero, List.set_cons_succ]
          refine wpAnyH_take (i := 41) (v := ?_) rfl (by kernel_rfl) (by kernel_rfl) (by kernel_rfl) (fun _ _ _ h => h) (Or.inl ⟨by rfl, ?_⟩) (by assumption) ?_
          rotate_left 1
          · intro w hSw
            (try dsimp only at hSw)
            go_simp
            all_goals (with_reducible rfl)
          try simp only [Act.put, List.getElem_toArray, List.getElem_cons_zero, List.getElem_cons_succ, List.setIfInBounds_toArray, List.set_cons_zero, List.set_cons_succ]
          refine wpAnyH_ready (rs := [42]) (by kernel_rfl) (by simp) ?_
          refine AllReadyH.cons rfl (fun K hK => ?_) AllReadyH.nil
          go_simp
          refine hK.out _ _ (hHeld) (fun hHeld => ?_)
          clear hK K
          try simp only [Act.put, List.getElem_toArray, List.getElem_cons_zero, List.getElem_cons_succ, List.setIfInBounds_toArray, List.set_cons_zero, List.set_cons_succ]
          refine wpAnyH_done (by kernel_rfl) ?_ _
          go_wp2
          go_ret
          exact ⟨rfl, HBZ.out.trans (HUX.out.mono HBZ.out.size)⟩

end Go.Proofs.Ytncfdkkekaninaa
