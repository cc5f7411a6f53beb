/- Zo. -/
import Derived.Test.YtllbngopfganjaaGreatDoorM17
import Derived.Test.YtllbngopfganjaaGreatDoorM11
import Derived.Test.YtllbngopfganjaaGreatDoorM3
import Derived.Deep.CutRange
set_option linter.unusedVariables false
set_option linter.unusedSimpArgs false

section
namespace Go.Proofs.YtllbngopfganjaaGreatDoor.Nd
open Go.RowKit Go.Cor

/-- A law's world, begun at a: a node, and nothing turned that there was. -/
structure Hz (a w : World) (g : Nat) (S : Nat → Prop) (n : NodeP) (r : Nat) : Prop where
  nd : NodeZ w a.heap.size g S n r
  bel : Below a.heap.size a w
  pos : 0 < a.heap.size
  le : laidE w
section
variable {a w w' : World} {g : Nat} {S S' : Nat → Prop} {n n' : NodeP} {r r' : Nat}
theorem Hz.kept {T : Nat → Prop} (h : Hz a w g S n r) (hk : Kept T w w') (hT : ∀ k, S k → ¬ T k) (ha : ∀ k, k < a.heap.size → ¬ T k) : Hz a w' g S n r := ⟨h.nd.kept hk hT, hk.below_trans h.bel h.bel.size ha, h.pos, hk.cell h.le (ha 0 h.pos)⟩
theorem Hz.below (h : Hz a w g S n r) (hb : Below w.heap.size w w') : Hz a w' g S n r := h.kept (T := fun _ => False) (Kept.of_below hb (Nat.le_refl _)) (fun _ _ h => h) (fun _ _ h => h)
theorem Hz.alloc (h : Hz a w g S n r) (o : Obj) : Hz a (w.alloc o) g S n r := h.below (below_new16 w o)
theorem Hz.new (h : Hz a w g S n r) {k : Nat} (hk : w.heap.size ≤ k) : ¬ S k := fun e => by have := (h.nd.at k e).2; omega
theorem Hz.old (h : Hz a w g S n r) {k : Nat} (hk : k < a.heap.size) : ¬ S k := fun e => by have := (h.nd.at k e).1; omega
theorem Hz.call (h : Hz a w g S n r) (h1 : NodeZ w' a.heap.size g S' n' r') (hk : Kept S w w') : Hz a w' g S' n' r' := ⟨h1, hk.below_trans h.bel h.bel.size (fun k hk => h.old hk), h.pos, hk.cell h.le (h.old h.pos)⟩
end
/-- A box that isn't the node's; bytes that aren't. -/
structure Bx (w : World) (S : Nat → Prop) (X : Nat) (cs : Array Value) (T : TypeId) : Prop where
  b : Blk w X cs T
  n : ¬ S X
structure Dx (w : World) (S : Nat → Prop) (v : Value) (l : List UInt8) : Prop where
  b : IsB w v l
  n : ∀ k, liesB v l k → ¬ S k
section
variable {w w' : World} {S S' : Nat → Prop} {X : Nat} {cs : Array Value} {T : TypeId} {v : Value} {l : List UInt8}
theorem Bx.call (h : Bx w S X cs T) (hk : Kept S w w') (hs : ∀ k, S' k → S k ∨ w.heap.size ≤ k) : Bx w' S' X cs T := ⟨h.b.kept hk h.n, fun e => by
  rcases hs X e with h1 | h1
  · exact h.n h1
  · have := h.b.lt; omega⟩
theorem Bx.below (h : Bx w S X cs T) (hb : Below w.heap.size w w') : Bx w' S X cs T := ⟨h.b.below hb h.b.lt, h.n⟩
theorem Dx.call (h : Dx w S v l) (hk : Kept S w w') (hs : ∀ k, S' k → S k ∨ w.heap.size ≤ k) : Dx w' S' v l := ⟨h.b.kept hk h.n, fun k hk2 e => by
  rcases hs k e with h1 | h1
  · exact h.n k hk2 h1
  · have := h.b.lies_lt hk2; omega⟩
theorem Dx.below (h : Dx w S v l) (hb : Below w.heap.size w w') : Dx w' S v l := ⟨h.b.mono hb (Nat.le_refl _), h.n⟩
end
theorem cell_on17 {w w' : World} {p : Addr} {v : Value} (hb : Below w.heap.size w w') (h : w.cell? p = some v) : w'.cell? p = some v := (hb.cell (cell_lt h)).trans h
theorem k4_any (t : Nat) (w : World) (ht : t < 256) : Calls Tryz.prog 15 #[.int .u8 (t : Int)] w fun e w' => e = .returned (.int .i64 ((t : Int) % 4)) ∧ w = w' := by
  go_enter Tryz.func15, Tryz.ntmps15
  go_wp2
  go_ret
  exact ⟨rfl, rfl⟩
theorem Tryz.infoLive (a b c d e f h : Value) (W : World) (hb : e.oneCell' = true) : (Instr.field 50 (.agg #[a, b, c, d, e, f, h]) 4).run Tryz.prog W = .ok e W := by
  cases e <;> first | (cases hb; done) | kernel_rfl
def mZ : Msg := ⟨0, 1, 1, 1, 0, 0, 0, true, ⟨1, 0, false, []⟩⟩
def aZ : Msg := ⟨1, 0, 5, 1, 0, 0, 0, false, nz⟩
def nZ : NodeP := ⟨1, 0, (vst0 1 1000 0).wrote ⟨1, 0, false, []⟩, [aZ]⟩
theorem doZ : doN (vst0 1 1000 0) mZ = ((vst0 1 1000 0).wrote ⟨1, 0, false, []⟩, 0, none) := by
  have hp : (vst0 1 1000 0).put ⟨1, 0, false, []⟩ = ((vst0 1 1000 0).wrote ⟨1, 0, false, []⟩, 0) := rfl
  unfold doN
  rw [if_neg (by decide), if_neg (by decide), if_pos (show mZ.kd = 1 from rfl)]
  show (((vst0 1 1000 0).put ⟨1, 0, false, []⟩).1, ((vst0 1 1000 0).put ⟨1, 0, false, []⟩).2, tellN ((vst0 1 1000 0).put ⟨1, 0, false, []⟩).1 1 ((vst0 1 1000 0).put ⟨1, 0, false, []⟩).2) = _
  rw [hp]
  rfl
theorem kZ : handK ⟨1, 0, vst0 1 1000 0, []⟩ mZ = 0 := by decide
theorem bZ : newB ⟨1, 0, vst0 1 1000 0, []⟩ mZ = true := by decide
theorem newZ : newM ⟨1, 0, vst0 1 1000 0, []⟩ mZ = aZ := by
  unfold newM
  rw [show (⟨1, 0, vst0 1 1000 0, []⟩ : NodeP).v = vst0 1 1000 0 from rfl, doZ]
  rfl
theorem mZ_1 : handM ⟨1, 0, vst0 1 1000 0, []⟩ mZ = aZ := by
  unfold handM
  rw [kZ, if_neg (by decide), if_neg (by decide), if_neg (by decide), if_neg (by decide)]
  exact newZ
theorem nZ_1 : handN ⟨1, 0, vst0 1 1000 0, []⟩ mZ = nZ := by
  rw [handN_new bZ, newZ, show (⟨1, 0, vst0 1 1000 0, []⟩ : NodeP).v = vst0 1 1000 0 from rfl, doZ]
  rfl
theorem kZ_2 : handK nZ mZ = 0 := by rw [← nZ_1, handK_again]; exact kZ
theorem mZ_2 : handM nZ mZ = aZ := by rw [← nZ_1, handM_again]; exact mZ_1
theorem nZ_2 : handN nZ mZ = nZ := by rw [← nZ_1, handN_again]
theorem liveZ : ((nZ.v.idx.length : Nat) : Int) - (Q.goneN nZ.v.idx : Int) = 1 := by decide
set_option maxRecDepth 100000 in
set_option maxHeartbeats 8000000 in
theorem alive17 (w : World) (hg : laidE w) :
    Calls Tryz.prog 4 #[] w fun e w' => e = .returned (.bool true) ∧ Below w.heap.size w w' := by
  have HPO := Lib.hid (cell_lt hg)
  have HGL := Lib.hid hg
  clear hg
  go_enter Tryz.func4, Tryz.ntmps4
  go_wp2_with fail
  refine (znew 1 5000 w (by decide) (by decide) (by decide)).mono ?_
  rintro e w1 ⟨g, S0, rfl, h0, hb1⟩
  have HZ0 := Lib.hid (zmake h0 1000 12 (by decide) (by decide) (by decide) (by decide))
  have HO0 := Lib.hid (fun k (hk : S0 k) => h0.at k hk)
  have HB1 := Lib.hid hb1
  clear h0 hb1
  go_wp2_with fail
  refine HZ0.out.mono ?_
  rintro e w2 ⟨rfl, S2, h2, hs2, hk2⟩
  have HH2 := Lib.hid (show Hz w w2 g S2 ⟨1, 0, vst0 1 1000 0, []⟩ 12 from ⟨h2, hk2.below_trans HB1.out HB1.out.size (fun k hk e => by have := HO0.out k e; omega), HPO.out, hk2.cell (cell_on17 HB1.out HGL.out) (fun e => by have := (HO0.out 0 e).1; have := HPO.out; omega)⟩)
  clear h2 hs2 hk2
  have hz_ := HH2.out.alloc (.cells #[.int .i64 0, .int .i64 1, .int .i64 1, .int .i64 1, .int .i64 0, .int .u64 0, .int .i64 0, .bool true, .int .u64 1, .int .u32 0, .bool false, .slice none 0 0] 45)
  have hx_ := Blk.new w2 #[.int .i64 0, .int .i64 1, .int .i64 1, .int .i64 1, .int .i64 0, .int .u64 0, .int .i64 0, .bool true, .int .u64 1, .int .u32 0, .bool false, .slice none 0 0] 45
  have hn_ := HH2.out.new (Nat.le_refl w2.heap.size)
  have hb_ := below_new16 w2 (.cells #[.int .i64 0, .int .i64 1, .int .i64 1, .int .i64 1, .int .i64 0, .int .u64 0, .int .i64 0, .bool true, .int .u64 1, .int .u32 0, .bool false, .slice none 0 0] 45)
  obtain ⟨w3, hw_⟩ : ∃ z, w2.alloc (.cells #[.int .i64 0, .int .i64 1, .int .i64 1, .int .i64 1, .int .i64 0, .int .u64 0, .int .i64 0, .bool true, .int .u64 1, .int .u32 0, .bool false, .slice none 0 0] 45) = z := ⟨_, rfl⟩
  obtain ⟨X4, hX_⟩ : ∃ z, w2.heap.size = z := ⟨_, rfl⟩
  rw [hw_] at hz_ hx_ hb_
  rw [hX_] at hx_ hn_
  have HH3 := Lib.hid hz_
  have HBX4 := Lib.hid (show Bx w3 S2 X4 #[.int .i64 0, .int .i64 1, .int .i64 1, .int .i64 1, .int .i64 0, .int .u64 0, .int .i64 0, .bool true, .int .u64 1, .int .u32 0, .bool false, .slice none 0 0] 45 from ⟨hx_, hn_⟩)
  have HWw3 := Lib.hid hw_
  have HXX4 := Lib.hid hX_
  have HBEw3 := Lib.hid (And.intro hX_ hb_)
  clear hz_ hx_ hn_ hb_ hw_ hX_
  go_upto_region 4 with fail
  try rw [HWw3.out]
  try rw [HXX4.out]
  have p0 := HBX4.out.b.cell 0 rfl
  have p1 := HBX4.out.b.cell 1 rfl
  have p2 := HBX4.out.b.cell 2 rfl
  have p3 := HBX4.out.b.cell 3 rfl
  have p4 := HBX4.out.b.cell 4 rfl
  have p5 := HBX4.out.b.cell 5 rfl
  have p6 := HBX4.out.b.cell 6 rfl
  have p7 := HBX4.out.b.cell 7 rfl
  have p8 := HBX4.out.b.cell 8 rfl
  have p9 := HBX4.out.b.cell 9 rfl
  have p10 := HBX4.out.b.cell 10 rfl
  have p11 := HBX4.out.b.cell 11 rfl
  have HS := Lib.hid (show Calls Tryz.prog 9 #[.pointer (some ⟨g, 0, none⟩), .agg #[.int .i64 0, .int .i64 1, .int .i64 1, .int .i64 1, .int .i64 0, .int .u64 0, .int .i64 0, .bool true, .int .u64 1, .int .u32 0, .bool false, .slice none 0 0]] w3 fun e w' => ∃ ax ac, e = .returned (.tuple #[.agg #[.int .i64 1, .int .i64 0, .int .i64 5, .int .i64 1, .int .i64 0, .int .u64 0, .int .i64 0, .bool false, .int .u64 0, .int .u32 0, .bool false, .slice ax 0 ac], .nilIface]) ∧ ∃ S', NodeZ w' w.heap.size g S' nZ 11 ∧ (∀ k, S' k → S2 k ∨ w3.heap.size ≤ k) ∧ Kept S2 w3 w' ∧ Dx w' S' (.slice ax 0 ac) [] from by
    have h := zhandle HH3.out.nd mZ none 0 0 (IsB.nil _) (fun b hb => absurd rfl hb.1) ⟨by decide, by decide⟩ (by decide) (by decide) HH3.out.le HH3.out.pos
    rw [mZ_1, kZ, nZ_1, cerr_0] at h
    refine h.mono ?_
    rintro e w' ⟨x0, n0, c0, q1, q2, S', q3, q4, q5, q6⟩
    have e9 : n0 = 0 := by obtain ⟨a, cp, e, _⟩ := q2; cases e; rfl
    subst e9
    exact ⟨x0, c0, q1, S', q3, q4, q5, q2, fun k hk => (q6 k hk).2⟩)
  go_wp2_with fail
  refine HS.out.mono ?_
  rintro e w4 ⟨ax, ac, rfl, S4, h4, hs4, hk4, hd4⟩
  have HH4 := Lib.hid (HH3.out.call h4 hk4)
  have HB4a := Lib.hid (HBX4.out.call hk4 hs4)
  have HD4 := Lib.hid hd4
  clear h4 hs4 hk4 hd4
  clear p0 p1 p2 p3 p4 p5 p6 p7 p8 p9 p10 p11
  have hz_ := HH4.out.alloc (.cells #[.int .i64 1, .int .i64 0, .int .i64 5, .int .i64 1, .int .i64 0, .int .u64 0, .int .i64 0, .bool false, .int .u64 0, .int .u32 0, .bool false, .slice ax 0 ac] 45)
  have hx_ := Blk.new w4 #[.int .i64 1, .int .i64 0, .int .i64 5, .int .i64 1, .int .i64 0, .int .u64 0, .int .i64 0, .bool false, .int .u64 0, .int .u32 0, .bool false, .slice ax 0 ac] 45
  have hn_ := HH4.out.new (Nat.le_refl w4.heap.size)
  have hb_ := below_new16 w4 (.cells #[.int .i64 1, .int .i64 0, .int .i64 5, .int .i64 1, .int .i64 0, .int .u64 0, .int .i64 0, .bool false, .int .u64 0, .int .u32 0, .bool false, .slice ax 0 ac] 45)
  have HB4b := Lib.hid (HB4a.out.below hb_)
  have HD5 := Lib.hid (HD4.out.below hb_)
  obtain ⟨w5, hw_⟩ : ∃ z, w4.alloc (.cells #[.int .i64 1, .int .i64 0, .int .i64 5, .int .i64 1, .int .i64 0, .int .u64 0, .int .i64 0, .bool false, .int .u64 0, .int .u32 0, .bool false, .slice ax 0 ac] 45) = z := ⟨_, rfl⟩
  obtain ⟨X5, hX_⟩ : ∃ z, w4.heap.size = z := ⟨_, rfl⟩
  rw [hw_] at hz_ hx_ hb_ HB4b HD5
  rw [hX_] at hx_ hn_
  have HH5 := Lib.hid hz_
  have HBX5 := Lib.hid (show Bx w5 S4 X5 #[.int .i64 1, .int .i64 0, .int .i64 5, .int .i64 1, .int .i64 0, .int .u64 0, .int .i64 0, .bool false, .int .u64 0, .int .u32 0, .bool false, .slice ax 0 ac] 45 from ⟨hx_, hn_⟩)
  have HWw5 := Lib.hid hw_
  have HXX5 := Lib.hid hX_
  have HBEw5 := Lib.hid (And.intro hX_ hb_)
  clear hz_ hx_ hn_ hb_ hw_ hX_
  go_upto_region 5 with fail
  try rw [HWw5.out]
  try rw [HXX5.out]
  have p0 := HB4b.out.b.cell 0 rfl
  have p1 := HB4b.out.b.cell 1 rfl
  have p2 := HB4b.out.b.cell 2 rfl
  have p3 := HB4b.out.b.cell 3 rfl
  have p4 := HB4b.out.b.cell 4 rfl
  have p5 := HB4b.out.b.cell 5 rfl
  have p6 := HB4b.out.b.cell 6 rfl
  have p7 := HB4b.out.b.cell 7 rfl
  have p8 := HB4b.out.b.cell 8 rfl
  have p9 := HB4b.out.b.cell 9 rfl
  have p10 := HB4b.out.b.cell 10 rfl
  have p11 := HB4b.out.b.cell 11 rfl
  have HS2 := Lib.hid (show Calls Tryz.prog 9 #[.pointer (some ⟨g, 0, none⟩), .agg #[.int .i64 0, .int .i64 1, .int .i64 1, .int .i64 1, .int .i64 0, .int .u64 0, .int .i64 0, .bool true, .int .u64 1, .int .u32 0, .bool false, .slice none 0 0]] w5 fun e w' => ∃ bx bc, e = .returned (.tuple #[.agg #[.int .i64 1, .int .i64 0, .int .i64 5, .int .i64 1, .int .i64 0, .int .u64 0, .int .i64 0, .bool false, .int .u64 0, .int .u32 0, .bool false, .slice bx 0 bc], .nilIface]) ∧ ∃ S', NodeZ w' w.heap.size g S' nZ 10 ∧ (∀ k, S' k → S4 k ∨ w5.heap.size ≤ k) ∧ Kept S4 w5 w' ∧ Dx w' S' (.slice bx 0 bc) [] from by
    have h := zhandle HH5.out.nd mZ none 0 0 (IsB.nil _) (fun b hb => absurd rfl hb.1) ⟨by decide, by decide⟩ (by decide) (by decide) HH5.out.le HH5.out.pos
    rw [mZ_2, kZ_2, nZ_2, cerr_0] at h
    refine h.mono ?_
    rintro e w' ⟨x0, n0, c0, q1, q2, S', q3, q4, q5, q6⟩
    have e9 : n0 = 0 := by obtain ⟨a, cp, e, _⟩ := q2; cases e; rfl
    subst e9
    exact ⟨x0, c0, q1, S', q3, q4, q5, q2, fun k hk => (q6 k hk).2⟩)
  go_wp2_with fail
  refine HS2.out.mono ?_
  rintro e w6 ⟨bx, bc, rfl, S6, h6, hs6, hk6, hd6⟩
  have HH6 := Lib.hid (HH5.out.call h6 hk6)
  have HB5a := Lib.hid (HBX5.out.call hk6 hs6)
  have HD6 := Lib.hid (HD5.out.call hk6 hs6)
  have HE6 := Lib.hid hd6
  clear h6 hs6 hk6 hd6
  clear p0 p1 p2 p3 p4 p5 p6 p7 p8 p9 p10 p11
  have hz_ := HH6.out.alloc (.cells #[.int .i64 1, .int .i64 0, .int .i64 5, .int .i64 1, .int .i64 0, .int .u64 0, .int .i64 0, .bool false, .int .u64 0, .int .u32 0, .bool false, .slice bx 0 bc] 45)
  have hx_ := Blk.new w6 #[.int .i64 1, .int .i64 0, .int .i64 5, .int .i64 1, .int .i64 0, .int .u64 0, .int .i64 0, .bool false, .int .u64 0, .int .u32 0, .bool false, .slice bx 0 bc] 45
  have hn_ := HH6.out.new (Nat.le_refl w6.heap.size)
  have hb_ := below_new16 w6 (.cells #[.int .i64 1, .int .i64 0, .int .i64 5, .int .i64 1, .int .i64 0, .int .u64 0, .int .i64 0, .bool false, .int .u64 0, .int .u32 0, .bool false, .slice bx 0 bc] 45)
  have HB5b := Lib.hid (HB5a.out.below hb_)
  have HD7 := Lib.hid (HD6.out.below hb_)
  have HE7 := Lib.hid (HE6.out.below hb_)
  obtain ⟨w7, hw_⟩ : ∃ z, w6.alloc (.cells #[.int .i64 1, .int .i64 0, .int .i64 5, .int .i64 1, .int .i64 0, .int .u64 0, .int .i64 0, .bool false, .int .u64 0, .int .u32 0, .bool false, .slice bx 0 bc] 45) = z := ⟨_, rfl⟩
  obtain ⟨X7, hX_⟩ : ∃ z, w6.heap.size = z := ⟨_, rfl⟩
  rw [hw_] at hz_ hx_ hb_ HB5b HD7 HE7
  rw [hX_] at hx_ hn_
  have HH7 := Lib.hid hz_
  have HBX7 := Lib.hid (show Bx w7 S6 X7 #[.int .i64 1, .int .i64 0, .int .i64 5, .int .i64 1, .int .i64 0, .int .u64 0, .int .i64 0, .bool false, .int .u64 0, .int .u32 0, .bool false, .slice bx 0 bc] 45 from ⟨hx_, hn_⟩)
  have HWw7 := Lib.hid hw_
  have HXX7 := Lib.hid hX_
  have HBEw7 := Lib.hid (And.intro hX_ hb_)
  clear hz_ hx_ hn_ hb_ hw_ hX_
  go_upto_region 6 with fail
  try rw [HWw7.out]
  try rw [HXX7.out]
  go_wp2_with fail
  refine (znew_bad 256 0 _ (by decide)).mono ?_
  rintro e w8 ⟨rfl, hb8⟩
  have HH8 := Lib.hid (HH7.out.below hb8)
  have HB5c := Lib.hid (HB5b.out.below hb8)
  have HB7c := Lib.hid (HBX7.out.below hb8)
  have HD8 := Lib.hid (HD7.out.below hb8)
  have HE8 := Lib.hid (HE7.out.below hb8)
  clear hb8
  have p0 := HB5c.out.b.cell 0 rfl
  have p1 := HB5c.out.b.cell 1 rfl
  have p2 := HB5c.out.b.cell 2 rfl
  have p3 := HB5c.out.b.cell 3 rfl
  have p4 := HB5c.out.b.cell 4 rfl
  have p5 := HB5c.out.b.cell 5 rfl
  have p6 := HB5c.out.b.cell 6 rfl
  have p7 := HB5c.out.b.cell 7 rfl
  have p8 := HB5c.out.b.cell 8 rfl
  have p9 := HB5c.out.b.cell 9 rfl
  have p10 := HB5c.out.b.cell 10 rfl
  have p11 := HB5c.out.b.cell 11 rfl
  have q0 := HB7c.out.b.cell 0 rfl
  have q1 := HB7c.out.b.cell 1 rfl
  have q2 := HB7c.out.b.cell 2 rfl
  have q3 := HB7c.out.b.cell 3 rfl
  have q4 := HB7c.out.b.cell 4 rfl
  have q5 := HB7c.out.b.cell 5 rfl
  have q6 := HB7c.out.b.cell 6 rfl
  have q7 := HB7c.out.b.cell 7 rfl
  have q8 := HB7c.out.b.cell 8 rfl
  have q9 := HB7c.out.b.cell 9 rfl
  have q10 := HB7c.out.b.cell 10 rfl
  have q11 := HB7c.out.b.cell 11 rfl
  go_wp2_with fail
  refine (code_nil _).mono ?_
  rintro e wx ⟨rfl, rfl⟩
  go_wp2_with fail
  refine (code_nil _).mono ?_
  rintro e wx ⟨rfl, rfl⟩
  go_wp2_with fail
  refine (code_nil _).mono ?_
  rintro e wx ⟨rfl, rfl⟩
  go_wp2_with fail
  refine (code_nil _).mono ?_
  rintro e wx ⟨rfl, rfl⟩
  have HSM := Lib.hid (show Calls Tryz.prog 13 #[.agg #[.int .i64 1, .int .i64 0, .int .i64 5, .int .i64 1, .int .i64 0, .int .u64 0, .int .i64 0, .bool false, .int .u64 0, .int .u32 0, .bool false, .slice ax 0 ac], .agg #[.int .i64 1, .int .i64 0, .int .i64 5, .int .i64 1, .int .i64 0, .int .u64 0, .int .i64 0, .bool false, .int .u64 0, .int .u32 0, .bool false, .slice bx 0 bc]] w8 fun e w' => e = .returned (.bool true) ∧ Below w8.heap.size w8 w' from by
    have h9 := wsame_v aZ aZ ax 0 ac bx 0 bc w8 HD8.out.b HE8.out.b
    rwa [show sameM aZ aZ = true from (sameM_eq aZ aZ).2 rfl] at h9)
  go_wp2_with fail
  refine HSM.out.mono ?_
  rintro e w9 ⟨rfl, hb9⟩
  have HH9 := Lib.hid (HH8.out.below hb9)
  clear hb9 p0 p1 p2 p3 p4 p5 p6 p7 p8 p9 p10 p11 q0 q1 q2 q3 q4 q5 q6 q7 q8 q9 q10 q11
  obtain ⟨vg, hvo, hin⟩ := zvol HH9.out.nd
  have HVO := Lib.hid (hvo w9 (Below.refl _ _))
  have HIN := Lib.hid hin
  clear hvo hin
  go_wp2_with fail
  refine HVO.out.mono ?_
  rintro e wv ⟨rfl, hbv⟩
  have HIV := Lib.hid (HIN.out wv hbv)
  have HBV := Lib.hid hbv
  clear hbv
  go_wp2_with fail
  refine HIV.out.mono ?_
  rintro e wi ⟨rfl, hbi⟩
  have HHi := Lib.hid (HH9.out.below (HBV.out.trans (hbi.mono HBV.out.size)))
  clear hbi
  unfold infoV
  rw [liveZ]
  obtain ⟨i0, hi0⟩ : ∃ z, ((nZ.v.num : Nat) : Int) = z := ⟨_, rfl⟩
  obtain ⟨i1, hi1⟩ : ∃ z, ((nZ.v.gen : Nat) : Int) = z := ⟨_, rfl⟩
  obtain ⟨i2, hi2⟩ : ∃ z, ((nZ.v.epoch : Nat) : Int) = z := ⟨_, rfl⟩
  obtain ⟨i3, hi3⟩ : ∃ z, ((nZ.v.size : Nat) : Int) = z := ⟨_, rfl⟩
  obtain ⟨i5, hi5⟩ : ∃ z, ((Q.goneN nZ.v.idx : Nat) : Int) = z := ⟨_, rfl⟩
  obtain ⟨i6, hi6⟩ : ∃ z, nZ.v.shut = z := ⟨_, rfl⟩
  rw [hi0, hi1, hi2, hi3, hi5, hi6]
  have hfld := fun W => Tryz.infoLive (.int .i64 i0) (.int .i64 i1) (.int .i64 i2) (.int .i64 i3) (.int .i64 1) (.int .i64 i5) (.bool i6) W rfl
  clear hi0 hi1 hi2 hi3 hi5 hi6
  go_wp2_with fail
  refine (code_code 1 _ (by decide) (by decide)).mono ?_
  rintro e wx ⟨rfl, rfl⟩
  go_wp2
  go_ret
  exact ⟨rfl, HHi.out.bel⟩
set_option maxRecDepth 100000 in
set_option maxHeartbeats 32000000 in
theorem nodeOnce_all (v : Value) (l : List A17) (tm : Nat) (w : World) (h : IsZ w v l) (htm : tm < 256) (hg : laidE w) :
    Calls Tryz.prog 3 #[v, .int .u8 (tm : Int)] w fun e w' => e = .returned (.bool true) ∧ Below w.heap.size w w' := by
  obtain ⟨LL, hLL⟩ : ∃ n, l.length = n := ⟨_, rfl⟩
  have hX := h.1
  rw [hLL] at hX
  have hlen := fun W => len_X (P := Tryz.prog) hX 22 3 42 Tryz.underlying22 W
  have HX := Lib.hid hX
  have HG := Lib.hid h.2
  have HLL := Lib.hid hLL
  have HFR := Lib.hid (fun wx (hb : Below w.heap.size w wx) => far17_any v l wx (h.mono hb (Nat.le_refl _)))
  have HTM := Lib.hid htm
  have HPO := Lib.hid (cell_lt hg)
  have HAL := Lib.hid (alive17 w hg)
  have HGL := Lib.hid hg
  clear h hX hLL htm hg
  go_enter Tryz.func3, Tryz.ntmps3
  go_wp2_with fail
  refine HAL.out.mono ?_
  rintro e w1 ⟨rfl, hb⟩
  have HB1 := Lib.hid hb
  clear hb
  go_wp2_with fail
  refine (HFR.out _ HB1.out).mono ?_
  rintro e w1' ⟨rfl, hfar⟩
  rcases hfar with rfl | ⟨rfl, hl50, hd300⟩
  · as_aux_lemma =>
      go_wp2
      go_ret
      exact ⟨rfl, HB1.out⟩
  rw [HLL.out] at hl50
  have HL50 := Lib.hid hl50
  have HD3 := Lib.hid hd300
  have k50 : (LL : Int) ≤ 50 := by omega
  clear hl50 hd300
  go_wp2_with fail
  refine (znew 2 1048576 w1 (by decide) (by decide) (by decide)).mono ?_
  rintro e w2 ⟨g, S0, rfl, h0, hb2⟩
  have HZ0 := Lib.hid (zmake h0 524288 300 (by decide) (by decide) (by decide) (by decide))
  have HO0 := Lib.hid (fun k (hk : S0 k) => h0.at k hk)
  have HB2 := Lib.hid (HB1.out.trans (hb2.mono HB1.out.size))
  have HS1 := Lib.hid HB1.out.size
  clear h0 hb2
  go_wp2_with fail
  refine HZ0.out.mono ?_
  rintro e w3 ⟨rfl, S3, h3, hs3, hk3⟩
  have HH3 := Lib.hid (show Hz w w3 g S3 ⟨2, 0, vst0 1 524288 0, []⟩ 300 from ⟨h3.base HS1.out, hk3.below_trans HB2.out HB2.out.size (fun k hk e => by have := HO0.out k e; have := HS1.out; omega), HPO.out, hk3.cell (cell_on17 HB2.out HGL.out) (fun e => by have := (HO0.out 0 e).1; have := HPO.out; have := HS1.out; omega)⟩)
  clear h3 hs3 hk3
  go_wp2_with fail
  go_loopw [7] (fun q7 wr => ∃ (i r : Nat) (n : NodeP) (S : Nat → Prop), i ≤ LL ∧ q7 = .int .i64 i ∧ Hid (Hz w wr g S n r) ∧ Hid (10 + 5 * (LL - i) ≤ r) ∧ Hid (n.life = 0)) (fun q7 _ => LL - (intOf q7).toNat)
  case atStart => exact ⟨0, 300, _, S3, Nat.zero_le _, rfl, HH3, Lib.hid (by have := HL50.out; omega), Lib.hid rfl⟩
  case round =>
    obtain ⟨i, r, n, S, hi, rfl, HH, HR, HLF⟩ := hrel
    by_cases hlt : i < LL
    · have hx := HX.out.mono HH.out.bel (Nat.le_refl _)
      obtain ⟨bi, oi, hidx, _, hcell⟩ := indexAt_X hx 22 42 Tryz.underlying22 Tryz.sizeAct17 i hlt
      obtain ⟨x, hxl⟩ : ∃ z, l[i]? = some z := ⟨_, List.getElem?_eq_getElem (by rw [HLL.out]; exact hlt)⟩
      have hmem := List.mem_of_getElem? hxl
      have h300 := HD3.out x hmem
      obtain ⟨hB, hf, hid⟩ := HG.out _ hmem
      have hce := fun q (hq : q < 17) => (hcell q hq).trans (row_get zcl_len hxl q hq)
      obtain ⟨kd, ka, kb, m, mv, pn, px, pl, pc⟩ := x
      dsimp only at h300 hB hf hid
      obtain ⟨dl, hdl⟩ : ∃ z, m.n.data.length = z := ⟨_, rfl⟩
      obtain ⟨dx, dc, rfl, _, _⟩ := hB.at_len hdl
      have c0 : wr.cell? ⟨bi, oi, none⟩ = some (.int .i64 kd) := hce 0 (by decide)
      have d0 : wr.cell? ⟨bi, oi + 3, none⟩ = some (.int .i64 m.fr) := hce 3 (by decide)
      have d1 : wr.cell? ⟨bi, oi + 4, none⟩ = some (.int .i64 m.to) := hce 4 (by decide)
      have d2 : wr.cell? ⟨bi, oi + 5, none⟩ = some (.int .i64 m.kd) := hce 5 (by decide)
      have d3 : wr.cell? ⟨bi, oi + 6, none⟩ = some (.int .i64 m.vo) := hce 6 (by decide)
      have d4 : wr.cell? ⟨bi, oi + 7, none⟩ = some (.int .i64 m.li) := hce 7 (by decide)
      have d5 : wr.cell? ⟨bi, oi + 8, none⟩ = some (.int .u64 (m.id : Int)) := hce 8 (by decide)
      have d6 : wr.cell? ⟨bi, oi + 9, none⟩ = some (.int .i64 m.co) := hce 9 (by decide)
      have d7 : wr.cell? ⟨bi, oi + 10, none⟩ = some (.bool m.has) := hce 10 (by decide)
      have d8 : wr.cell? ⟨bi, oi + 11, none⟩ = some (.int .u64 (m.n.key : Int)) := hce 11 (by decide)
      have d9 : wr.cell? ⟨bi, oi + 12, none⟩ = some (.int .u32 (m.n.cookie : Int)) := hce 12 (by decide)
      have d10 : wr.cell? ⟨bi, oi + 13, none⟩ = some (.bool m.n.gone) := hce 13 (by decide)
      have d11 : wr.cell? ⟨bi, oi + 14, none⟩ = some (.slice dx dl dc) := hce 14 (by decide)
      have HBD := Lib.hid hB
      have HF := Lib.hid hf
      have HI := Lib.hid hid
      have H300 := Lib.hid h300
      have HDL := Lib.hid hdl
      clear hx hcell hxl hmem hB hf hid h300 hdl hce
      by_cases hk0 : kd = 0
      case neg =>
        have kk0 : (kd != 0) = true := bne_iff_ne.2 hk0
        clear hk0
        as_aux_lemma =>
          go_wp2
          go_roundw
          case rel => exact ⟨i + 1, r, n, S, by omega, by go_num, HH, Lib.hid (by have := HR.out; omega), HLF⟩
          case measure => simp [intOf]; omega
      have kk0 : (kd != 0) = false := by rw [hk0]; rfl
      clear hk0
      obtain ⟨r1, hr1⟩ : ∃ r1, r = r1 + 1 := ⟨r - 1, by have := HR.out; omega⟩
      subst hr1
      obtain ⟨A, hA⟩ : ∃ z, handM n m = z := ⟨_, rfl⟩
      obtain ⟨KK, hKK⟩ : ∃ z, handK n m = z := ⟨_, rfl⟩
      obtain ⟨n1, hn1⟩ : ∃ z, handN n m = z := ⟨_, rfl⟩
      have HAE := Lib.hid hA
      have HKE := Lib.hid hKK
      have HNE := Lib.hid hn1
      have HKL := Lib.hid (show KK ≤ 17 from by rcases handK_le n m with h | h <;> omega)
      have HL1 := Lib.hid (show n1.life = 0 from by rw [← hn1, (handN_life n m).1]; exact HLF.out)
      have HAG := Lib.hid (show handM n1 m = A ∧ handK n1 m = KK ∧ handN n1 m = n1 from ⟨by rw [← hn1, handM_again]; exact hA, by rw [← hn1, handK_again]; exact hKK, by rw [← hn1, handN_again]⟩)
      clear hA hKK hn1
      go_wp2_with fail
      refine (of_any14 m dx dl dc _).mono ?_
      rintro e wo ⟨rfl, hb⟩
      have HHo := Lib.hid (HH.out.below hb)
      clear hb c0 d0 d1 d2 d3 d4 d5 d6 d7 d8 d9 d10 d11
      have hz_ := HHo.out.alloc (.cells #[.int .i64 m.fr, .int .i64 m.to, .int .i64 m.kd, .int .i64 m.vo, .int .i64 m.li, .int .u64 (m.id : Int), .int .i64 m.co, .bool m.has, .int .u64 (m.n.key : Int), .int .u32 (m.n.cookie : Int), .bool m.n.gone, .slice dx dl dc] 45)
      have hx_ := Blk.new wo #[.int .i64 m.fr, .int .i64 m.to, .int .i64 m.kd, .int .i64 m.vo, .int .i64 m.li, .int .u64 (m.id : Int), .int .i64 m.co, .bool m.has, .int .u64 (m.n.key : Int), .int .u32 (m.n.cookie : Int), .bool m.n.gone, .slice dx dl dc] 45
      have hn_ := HHo.out.new (Nat.le_refl wo.heap.size)
      have hb_ := below_new16 wo (.cells #[.int .i64 m.fr, .int .i64 m.to, .int .i64 m.kd, .int .i64 m.vo, .int .i64 m.li, .int .u64 (m.id : Int), .int .i64 m.co, .bool m.has, .int .u64 (m.n.key : Int), .int .u32 (m.n.cookie : Int), .bool m.n.gone, .slice dx dl dc] 45)
      obtain ⟨w8, hw_⟩ : ∃ z, wo.alloc (.cells #[.int .i64 m.fr, .int .i64 m.to, .int .i64 m.kd, .int .i64 m.vo, .int .i64 m.li, .int .u64 (m.id : Int), .int .i64 m.co, .bool m.has, .int .u64 (m.n.key : Int), .int .u32 (m.n.cookie : Int), .bool m.n.gone, .slice dx dl dc] 45) = z := ⟨_, rfl⟩
      obtain ⟨X8, hX_⟩ : ∃ z, wo.heap.size = z := ⟨_, rfl⟩
      rw [hw_] at hz_ hx_ hb_
      rw [hX_] at hx_ hn_
      have HH8 := Lib.hid hz_
      have HBX8 := Lib.hid (show Bx w8 S X8 #[.int .i64 m.fr, .int .i64 m.to, .int .i64 m.kd, .int .i64 m.vo, .int .i64 m.li, .int .u64 (m.id : Int), .int .i64 m.co, .bool m.has, .int .u64 (m.n.key : Int), .int .u32 (m.n.cookie : Int), .bool m.n.gone, .slice dx dl dc] 45 from ⟨hx_, hn_⟩)
      have HWw8 := Lib.hid hw_
      have HXX8 := Lib.hid hX_
      have HBEw8 := Lib.hid (And.intro hX_ hb_)
      clear hz_ hx_ hn_ hb_ hw_ hX_
      go_upto_region 12 with fail
      try rw [HWw8.out]
      try rw [HXX8.out]
      have p0 := HBX8.out.b.cell 0 rfl
      have p1 := HBX8.out.b.cell 1 rfl
      have p2 := HBX8.out.b.cell 2 rfl
      have p3 := HBX8.out.b.cell 3 rfl
      have p4 := HBX8.out.b.cell 4 rfl
      have p5 := HBX8.out.b.cell 5 rfl
      have p6 := HBX8.out.b.cell 6 rfl
      have p7 := HBX8.out.b.cell 7 rfl
      have p8 := HBX8.out.b.cell 8 rfl
      have p9 := HBX8.out.b.cell 9 rfl
      have p10 := HBX8.out.b.cell 10 rfl
      have p11 := HBX8.out.b.cell 11 rfl
      have hs := zhandle HH8.out.nd m dx dl dc (HBD.out.mono HH8.out.bel (Nat.le_refl _)) (fun b hb => HH8.out.old (HBD.out.lies_lt hb)) HF.out HI.out (H300.out) HH8.out.le HH8.out.pos
      rw [HAE.out, HKE.out, HNE.out] at hs
      have HS := Lib.hid hs
      clear hs
      go_wp2_with fail
      refine HS.out.mono ?_
      rintro e w9 ⟨ax, an, ac, rfl, hB9, S9, h9, hs9, hk9, hl9⟩
      have HH9 := Lib.hid (HH8.out.call h9 hk9)
      have HB8a := Lib.hid (HBX8.out.call hk9 hs9)
      have HD9 := Lib.hid (show Dx w9 S9 (.slice ax an ac) A.n.data from ⟨hB9, fun b hb => (hl9 b hb).2⟩)
      clear hB9 h9 hs9 hk9 hl9
      clear p0 p1 p2 p3 p4 p5 p6 p7 p8 p9 p10 p11
      have hz_ := HH9.out.alloc (.cells #[.int .i64 A.fr, .int .i64 A.to, .int .i64 A.kd, .int .i64 A.vo, .int .i64 A.li, .int .u64 (A.id : Int), .int .i64 A.co, .bool A.has, .int .u64 (A.n.key : Int), .int .u32 (A.n.cookie : Int), .bool A.n.gone, .slice ax an ac] 45)
      have hx_ := Blk.new w9 #[.int .i64 A.fr, .int .i64 A.to, .int .i64 A.kd, .int .i64 A.vo, .int .i64 A.li, .int .u64 (A.id : Int), .int .i64 A.co, .bool A.has, .int .u64 (A.n.key : Int), .int .u32 (A.n.cookie : Int), .bool A.n.gone, .slice ax an ac] 45
      have hn_ := HH9.out.new (Nat.le_refl w9.heap.size)
      have hb_ := below_new16 w9 (.cells #[.int .i64 A.fr, .int .i64 A.to, .int .i64 A.kd, .int .i64 A.vo, .int .i64 A.li, .int .u64 (A.id : Int), .int .i64 A.co, .bool A.has, .int .u64 (A.n.key : Int), .int .u32 (A.n.cookie : Int), .bool A.n.gone, .slice ax an ac] 45)
      have HB8b := Lib.hid (HB8a.out.below hb_)
      have HD10 := Lib.hid (HD9.out.below hb_)
      obtain ⟨w10, hw_⟩ : ∃ z, w9.alloc (.cells #[.int .i64 A.fr, .int .i64 A.to, .int .i64 A.kd, .int .i64 A.vo, .int .i64 A.li, .int .u64 (A.id : Int), .int .i64 A.co, .bool A.has, .int .u64 (A.n.key : Int), .int .u32 (A.n.cookie : Int), .bool A.n.gone, .slice ax an ac] 45) = z := ⟨_, rfl⟩
      obtain ⟨X9, hX_⟩ : ∃ z, w9.heap.size = z := ⟨_, rfl⟩
      rw [hw_] at hz_ hx_ hb_ HB8b HD10
      rw [hX_] at hx_ hn_
      have HH10 := Lib.hid hz_
      have HBX9 := Lib.hid (show Bx w10 S9 X9 #[.int .i64 A.fr, .int .i64 A.to, .int .i64 A.kd, .int .i64 A.vo, .int .i64 A.li, .int .u64 (A.id : Int), .int .i64 A.co, .bool A.has, .int .u64 (A.n.key : Int), .int .u32 (A.n.cookie : Int), .bool A.n.gone, .slice ax an ac] 45 from ⟨hx_, hn_⟩)
      have HWw10 := Lib.hid hw_
      have HXX9 := Lib.hid hX_
      have HBEw10 := Lib.hid (And.intro hX_ hb_)
      clear hz_ hx_ hn_ hb_ hw_ hX_
      go_upto_region 13 with fail
      try rw [HWw10.out]
      try rw [HXX9.out]
      obtain ⟨vg, hvo, hin⟩ := zvol HH10.out.nd
      have HVO := Lib.hid (hvo w10 (Below.refl _ _))
      have HIN := Lib.hid hin
      clear hvo hin
      go_wp2_with fail
      refine HVO.out.mono ?_
      rintro e wv ⟨rfl, hbv⟩
      have HIV := Lib.hid (HIN.out wv hbv)
      have HBV := Lib.hid hbv
      clear hbv
      go_wp2_with fail
      refine HIV.out.mono ?_
      rintro e wi ⟨rfl, hbi⟩
      have hbb := HBV.out.trans (hbi.mono HBV.out.size)
      have HHi := Lib.hid (HH10.out.below hbb)
      have HB8c := Lib.hid (HB8b.out.below hbb)
      have HB9c := Lib.hid (HBX9.out.below hbb)
      have HD9c := Lib.hid (HD10.out.below hbb)
      obtain ⟨i0, i1, i2, i3, i4, i5, i6, hinf⟩ : ∃ i0 i1 i2 i3 i4 i5 i6, infoV n1.v = .agg #[.int .i64 i0, .int .i64 i1, .int .i64 i2, .int .i64 i3, .int .i64 i4, .int .i64 i5, .bool i6] := ⟨_, _, _, _, _, _, _, rfl⟩
      have HINF := Lib.hid hinf
      rw [hinf]
      clear hbi hbb hinf
      have hz_ := HHi.out.alloc (.cells #[.int .i64 i0, .int .i64 i1, .int .i64 i2, .int .i64 i3, .int .i64 i4, .int .i64 i5, .bool i6] 50)
      have hx_ := Blk.new wi #[.int .i64 i0, .int .i64 i1, .int .i64 i2, .int .i64 i3, .int .i64 i4, .int .i64 i5, .bool i6] 50
      have hn_ := HHi.out.new (Nat.le_refl wi.heap.size)
      have hb_ := below_new16 wi (.cells #[.int .i64 i0, .int .i64 i1, .int .i64 i2, .int .i64 i3, .int .i64 i4, .int .i64 i5, .bool i6] 50)
      have HB8d := Lib.hid (HB8c.out.below hb_)
      have HB9d := Lib.hid (HB9c.out.below hb_)
      have HD11 := Lib.hid (HD9c.out.below hb_)
      obtain ⟨w11, hw_⟩ : ∃ z, wi.alloc (.cells #[.int .i64 i0, .int .i64 i1, .int .i64 i2, .int .i64 i3, .int .i64 i4, .int .i64 i5, .bool i6] 50) = z := ⟨_, rfl⟩
      obtain ⟨X11, hX_⟩ : ∃ z, wi.heap.size = z := ⟨_, rfl⟩
      rw [hw_] at hz_ hx_ hb_ HB8d HB9d HD11
      rw [hX_] at hx_ hn_
      have HH11 := Lib.hid hz_
      have HBX11 := Lib.hid (show Bx w11 S9 X11 #[.int .i64 i0, .int .i64 i1, .int .i64 i2, .int .i64 i3, .int .i64 i4, .int .i64 i5, .bool i6] 50 from ⟨hx_, hn_⟩)
      have HWw11 := Lib.hid hw_
      have HXX11 := Lib.hid hX_
      have HBEw11 := Lib.hid (And.intro hX_ hb_)
      clear hz_ hx_ hn_ hb_ hw_ hX_
      go_upto_region 14 with fail
      try rw [HWw11.out]
      try rw [HXX11.out]
      clear HVO HIN HIV HBV
      go_wp2_with fail
      go_loopw [12] (fun q12 wx => ∃ (k rk : Nat) (Sk : Nat → Prop), (k : Int) ≤ (tm : Int) % 4 ∧ q12 = .int .i64 k ∧ Hid (Hz w wx g Sk n1 rk) ∧ Hid (10 + 5 * (LL - (i + 1)) + (4 - k) ≤ rk) ∧ Hid (Bx wx Sk X8 #[.int .i64 m.fr, .int .i64 m.to, .int .i64 m.kd, .int .i64 m.vo, .int .i64 m.li, .int .u64 (m.id : Int), .int .i64 m.co, .bool m.has, .int .u64 (m.n.key : Int), .int .u32 (m.n.cookie : Int), .bool m.n.gone, .slice dx dl dc] 45) ∧ Hid (Bx wx Sk X9 #[.int .i64 A.fr, .int .i64 A.to, .int .i64 A.kd, .int .i64 A.vo, .int .i64 A.li, .int .u64 (A.id : Int), .int .i64 A.co, .bool A.has, .int .u64 (A.n.key : Int), .int .u32 (A.n.cookie : Int), .bool A.n.gone, .slice ax an ac] 45) ∧ Hid (Bx wx Sk X11 #[.int .i64 i0, .int .i64 i1, .int .i64 i2, .int .i64 i3, .int .i64 i4, .int .i64 i5, .bool i6] 50) ∧ Hid (Dx wx Sk (.slice ax an ac) A.n.data)) (fun q12 _ => 4 - (intOf q12).toNat)
      case atStart => exact ⟨0, r1, S9, by omega, rfl, HH11, Lib.hid (by have := HR.out; omega), HB8d, HB9d, HBX11, HD11⟩
      case round =>
        obtain ⟨k, rk, Sk, hk4, rfl, HK, HRK, E8, E9, E11, ED⟩ := hrel
        obtain ⟨r2, hr2⟩ : ∃ r2, rk = r2 + 1 := ⟨rk - 1, by have := HRK.out; omega⟩
        subst hr2
        by_cases hkl : (k : Int) < (tm : Int) % 4
        · have p_ := E8.out.b
          have p0 := p_.cell 0 rfl
          have p1 := p_.cell 1 rfl
          have p2 := p_.cell 2 rfl
          have p3 := p_.cell 3 rfl
          have p4 := p_.cell 4 rfl
          have p5 := p_.cell 5 rfl
          have p6 := p_.cell 6 rfl
          have p7 := p_.cell 7 rfl
          have p8 := p_.cell 8 rfl
          have p9 := p_.cell 9 rfl
          have p10 := p_.cell 10 rfl
          have p11 := p_.cell 11 rfl
          clear p_
          have hs := zhandle HK.out.nd m dx dl dc (HBD.out.mono HK.out.bel (Nat.le_refl _)) (fun b hb => HK.out.old (HBD.out.lies_lt hb)) HF.out HI.out (H300.out) HK.out.le HK.out.pos
          rw [HAG.out.1, HAG.out.2.1, HAG.out.2.2] at hs
          have HS := Lib.hid hs
          clear hs
          go_wp2_with fail
          refine HS.out.mono ?_
          rintro e w12 ⟨bx, bn, bc, rfl, hB12, S12, h12, hs12, hk12, hl12⟩
          have HH12 := Lib.hid (HK.out.call h12 hk12)
          have F8 := Lib.hid (E8.out.call hk12 hs12)
          have F9 := Lib.hid (E9.out.call hk12 hs12)
          have F11 := Lib.hid (E11.out.call hk12 hs12)
          have FD := Lib.hid (ED.out.call hk12 hs12)
          have GD := Lib.hid (show Dx w12 S12 (.slice bx bn bc) A.n.data from ⟨hB12, fun b hb => (hl12 b hb).2⟩)
          clear hB12 h12 hs12 hk12 hl12
          clear p0 p1 p2 p3 p4 p5 p6 p7 p8 p9 p10 p11
          have hz_ := HH12.out.alloc (.cells #[.int .i64 A.fr, .int .i64 A.to, .int .i64 A.kd, .int .i64 A.vo, .int .i64 A.li, .int .u64 (A.id : Int), .int .i64 A.co, .bool A.has, .int .u64 (A.n.key : Int), .int .u32 (A.n.cookie : Int), .bool A.n.gone, .slice bx bn bc] 45)
          have hx_ := Blk.new w12 #[.int .i64 A.fr, .int .i64 A.to, .int .i64 A.kd, .int .i64 A.vo, .int .i64 A.li, .int .u64 (A.id : Int), .int .i64 A.co, .bool A.has, .int .u64 (A.n.key : Int), .int .u32 (A.n.cookie : Int), .bool A.n.gone, .slice bx bn bc] 45
          have hn_ := HH12.out.new (Nat.le_refl w12.heap.size)
          have hb_ := below_new16 w12 (.cells #[.int .i64 A.fr, .int .i64 A.to, .int .i64 A.kd, .int .i64 A.vo, .int .i64 A.li, .int .u64 (A.id : Int), .int .i64 A.co, .bool A.has, .int .u64 (A.n.key : Int), .int .u32 (A.n.cookie : Int), .bool A.n.gone, .slice bx bn bc] 45)
          have G8 := Lib.hid (F8.out.below hb_)
          have G9 := Lib.hid (F9.out.below hb_)
          have G11 := Lib.hid (F11.out.below hb_)
          have GFD := Lib.hid (FD.out.below hb_)
          have GGD := Lib.hid (GD.out.below hb_)
          obtain ⟨w13, hw_⟩ : ∃ z, w12.alloc (.cells #[.int .i64 A.fr, .int .i64 A.to, .int .i64 A.kd, .int .i64 A.vo, .int .i64 A.li, .int .u64 (A.id : Int), .int .i64 A.co, .bool A.has, .int .u64 (A.n.key : Int), .int .u32 (A.n.cookie : Int), .bool A.n.gone, .slice bx bn bc] 45) = z := ⟨_, rfl⟩
          obtain ⟨X13, hX_⟩ : ∃ z, w12.heap.size = z := ⟨_, rfl⟩
          rw [hw_] at hz_ hx_ hb_ G8 G9 G11 GFD GGD
          rw [hX_] at hx_ hn_
          have HH13 := Lib.hid hz_
          have HBX13 := Lib.hid (show Bx w13 S12 X13 #[.int .i64 A.fr, .int .i64 A.to, .int .i64 A.kd, .int .i64 A.vo, .int .i64 A.li, .int .u64 (A.id : Int), .int .i64 A.co, .bool A.has, .int .u64 (A.n.key : Int), .int .u32 (A.n.cookie : Int), .bool A.n.gone, .slice bx bn bc] 45 from ⟨hx_, hn_⟩)
          have HWw13 := Lib.hid hw_
          have HXX13 := Lib.hid hX_
          have HBEw13 := Lib.hid (And.intro hX_ hb_)
          clear hz_ hx_ hn_ hb_ hw_ hX_
          go_upto_region 18 with fail
          try rw [HWw13.out]
          try rw [HXX13.out]
          have HC9 := Lib.hid (fun (wx : World) (hb : Below w13.heap.size w13 wx) => show wx.cell? ⟨X9, 0, none⟩ = some (.int .i64 A.fr) ∧ wx.cell? ⟨X9, 1, none⟩ = some (.int .i64 A.to) ∧ wx.cell? ⟨X9, 2, none⟩ = some (.int .i64 A.kd) ∧ wx.cell? ⟨X9, 3, none⟩ = some (.int .i64 A.vo) ∧ wx.cell? ⟨X9, 4, none⟩ = some (.int .i64 A.li) ∧ wx.cell? ⟨X9, 5, none⟩ = some (.int .u64 (A.id : Int)) ∧ wx.cell? ⟨X9, 6, none⟩ = some (.int .i64 A.co) ∧ wx.cell? ⟨X9, 7, none⟩ = some (.bool A.has) ∧ wx.cell? ⟨X9, 8, none⟩ = some (.int .u64 (A.n.key : Int)) ∧ wx.cell? ⟨X9, 9, none⟩ = some (.int .u32 (A.n.cookie : Int)) ∧ wx.cell? ⟨X9, 10, none⟩ = some (.bool A.n.gone) ∧ wx.cell? ⟨X9, 11, none⟩ = some (.slice ax an ac) from
            have h := (G9.out.below hb).b
            ⟨h.cell 0 rfl, h.cell 1 rfl, h.cell 2 rfl, h.cell 3 rfl, h.cell 4 rfl, h.cell 5 rfl, h.cell 6 rfl, h.cell 7 rfl, h.cell 8 rfl, h.cell 9 rfl, h.cell 10 rfl, h.cell 11 rfl⟩)
          have HC13 := Lib.hid (fun (wx : World) (hb : Below w13.heap.size w13 wx) => show wx.cell? ⟨X13, 0, none⟩ = some (.int .i64 A.fr) ∧ wx.cell? ⟨X13, 1, none⟩ = some (.int .i64 A.to) ∧ wx.cell? ⟨X13, 2, none⟩ = some (.int .i64 A.kd) ∧ wx.cell? ⟨X13, 3, none⟩ = some (.int .i64 A.vo) ∧ wx.cell? ⟨X13, 4, none⟩ = some (.int .i64 A.li) ∧ wx.cell? ⟨X13, 5, none⟩ = some (.int .u64 (A.id : Int)) ∧ wx.cell? ⟨X13, 6, none⟩ = some (.int .i64 A.co) ∧ wx.cell? ⟨X13, 7, none⟩ = some (.bool A.has) ∧ wx.cell? ⟨X13, 8, none⟩ = some (.int .u64 (A.n.key : Int)) ∧ wx.cell? ⟨X13, 9, none⟩ = some (.int .u32 (A.n.cookie : Int)) ∧ wx.cell? ⟨X13, 10, none⟩ = some (.bool A.n.gone) ∧ wx.cell? ⟨X13, 11, none⟩ = some (.slice bx bn bc) from
            have h := (HBX13.out.below hb).b
            ⟨h.cell 0 rfl, h.cell 1 rfl, h.cell 2 rfl, h.cell 3 rfl, h.cell 4 rfl, h.cell 5 rfl, h.cell 6 rfl, h.cell 7 rfl, h.cell 8 rfl, h.cell 9 rfl, h.cell 10 rfl, h.cell 11 rfl⟩)
          have HC11 := Lib.hid (fun (wx : World) (hb : Below w13.heap.size w13 wx) => show wx.cell? ⟨X11, 0, none⟩ = some (.int .i64 i0) ∧ wx.cell? ⟨X11, 1, none⟩ = some (.int .i64 i1) ∧ wx.cell? ⟨X11, 2, none⟩ = some (.int .i64 i2) ∧ wx.cell? ⟨X11, 3, none⟩ = some (.int .i64 i3) ∧ wx.cell? ⟨X11, 4, none⟩ = some (.int .i64 i4) ∧ wx.cell? ⟨X11, 5, none⟩ = some (.int .i64 i5) ∧ wx.cell? ⟨X11, 6, none⟩ = some (.bool i6) from
            have h := (G11.out.below hb).b
            ⟨h.cell 0 rfl, h.cell 1 rfl, h.cell 2 rfl, h.cell 3 rfl, h.cell 4 rfl, h.cell 5 rfl, h.cell 6 rfl⟩)
          have HSM := Lib.hid (fun (wx : World) (hb : Below w13.heap.size w13 wx) => show Calls Tryz.prog 13 #[.agg #[.int .i64 A.fr, .int .i64 A.to, .int .i64 A.kd, .int .i64 A.vo, .int .i64 A.li, .int .u64 (A.id : Int), .int .i64 A.co, .bool A.has, .int .u64 (A.n.key : Int), .int .u32 (A.n.cookie : Int), .bool A.n.gone, .slice ax an ac], .agg #[.int .i64 A.fr, .int .i64 A.to, .int .i64 A.kd, .int .i64 A.vo, .int .i64 A.li, .int .u64 (A.id : Int), .int .i64 A.co, .bool A.has, .int .u64 (A.n.key : Int), .int .u32 (A.n.cookie : Int), .bool A.n.gone, .slice bx bn bc]] wx fun e w' => e = .returned (.bool true) ∧ Below wx.heap.size wx w' from by
            have h9 := wsame_v A A ax an ac bx bn bc wx (GFD.out.below hb).b (GGD.out.below hb).b
            rwa [show sameM A A = true from (sameM_eq A A).2 rfl] at h9)
          obtain ⟨vh, hvo, hin⟩ := zvol HH13.out.nd
          have HVO := Lib.hid hvo
          have HIN := Lib.hid (fun wx (hb : Below w13.heap.size w13 wx) => show Calls Tryz.prog 11 #[.pointer (some ⟨vh, 0, none⟩)] wx fun e w' => e = .returned (.agg #[.int .i64 i0, .int .i64 i1, .int .i64 i2, .int .i64 i3, .int .i64 i4, .int .i64 i5, .bool i6]) ∧ Below wx.heap.size wx w' from by rw [← HINF.out]; exact hin wx hb)
          have heq : ∀ W, (binOp .neq 50 (.agg #[.int .i64 i0, .int .i64 i1, .int .i64 i2, .int .i64 i3, .int .i64 i4, .int .i64 i5, .bool i6]) (.agg #[.int .i64 i0, .int .i64 i1, .int .i64 i2, .int .i64 i3, .int .i64 i4, .int .i64 i5, .bool i6])).run Tryz.prog W = .ok (.bool false) W := fun W => by rw [← HINF.out]; exact Tryz.eqlInfo n1.v W
          have kne : ((KK : Int) != (KK : Int)) = false := by simp
          clear hvo hin
          have HUX := Lib.hid (show Below w13.heap.size w13 w13.drew from (Below.refl _ _).drew)
          refine wp_region_held_drew (S := (fun wx => Below w13.heap.size w13 wx)) (by kernel_rfl) (HUX.out) (fun hHeld => ?_)
          obtain ⟨q0w, hq0w⟩ : ∃ q, w13.drew = q := ⟨_, rfl⟩
          rw [hq0w] at HUX hHeld
          rw [hq0w]
          clear hq0w
          refine wpAnyH_take (i := 0) (v := ?_) rfl (by kernel_rfl) (by kernel_rfl) (by kernel_rfl) (fun _ _ _ h => h) (Or.inl ⟨by rfl, ?_⟩) (by assumption) ?_
          rotate_left 1
          · intro w hSw
            (try dsimp only at hSw)
            go_simp
            all_goals (with_reducible rfl)
          try simp only [Act.put, List.getElem_toArray, List.getElem_cons_zero, List.getElem_cons_succ, List.setIfInBounds_toArray, List.set_cons_zero, List.set_cons_succ]
          refine wpAnyH_take (i := 2) (v := ?_) rfl (by kernel_rfl) (by kernel_rfl) (by kernel_rfl) (fun _ _ _ h => h) (Or.inl ⟨by rfl, ?_⟩) (by assumption) ?_
          rotate_left 1
          · intro w hSw
            (try dsimp only at hSw)
            go_simp
            all_goals (with_reducible rfl)
          try simp only [Act.put, List.getElem_toArray, List.getElem_cons_zero, List.getElem_cons_succ, List.setIfInBounds_toArray, List.set_cons_zero, List.set_cons_succ]
          refine wpAnyH_ready (rs := [1]) (by kernel_rfl) (by simp) ?_
          refine AllReadyH.cons rfl (fun K hK => ?_) AllReadyH.nil
          go_simp
          refine (code_cerr KK _ HKL.out).mono ?_
          rintro e u ⟨rfl, rfl⟩
          refine hK.out _ _ (by first | exact hHeld | exact HUX.out) (fun hHeld => ?_)
          clear hK K
          try simp only [Act.put, List.getElem_toArray, List.getElem_cons_zero, List.getElem_cons_succ, List.setIfInBounds_toArray, List.set_cons_zero, List.set_cons_succ]
          refine wpAnyH_ready (rs := [3]) (by kernel_rfl) (by simp) ?_
          refine AllReadyH.cons rfl (fun K hK => ?_) AllReadyH.nil
          go_simp
          refine (code_cerr KK _ HKL.out).mono ?_
          rintro e u ⟨rfl, rfl⟩
          refine hK.out _ _ (by first | exact hHeld | exact HUX.out) (fun hHeld => ?_)
          clear hK K
          try simp only [Act.put, List.getElem_toArray, List.getElem_cons_zero, List.getElem_cons_succ, List.setIfInBounds_toArray, List.set_cons_zero, List.set_cons_succ]
          refine wpAnyH_take (i := 4) (v := ?_) rfl (by kernel_rfl) (by kernel_rfl) (by kernel_rfl) (fun _ _ _ h => h) (Or.inl ⟨by rfl, ?_⟩) (by assumption) ?_
          rotate_left 1
          · intro w hSw
            (try dsimp only at hSw)
            go_simp
            all_goals (with_reducible rfl)
          try simp only [Act.put, List.getElem_toArray, List.getElem_cons_zero, List.getElem_cons_succ, List.setIfInBounds_toArray, List.set_cons_zero, List.set_cons_succ]
          refine wpAnyH_take (i := 5) (v := ?_) rfl (by kernel_rfl) (by kernel_rfl) (by kernel_rfl) (fun _ _ _ h => h) (Or.inl ⟨by rfl, ?_⟩) (by assumption) ?_
          rotate_left 1
          · intro w hSw
            (try dsimp only at hSw)
            go_simp
            all_goals (with_reducible rfl)
          try simp only [Act.put, List.getElem_toArray, List.getElem_cons_zero, List.getElem_cons_succ, List.setIfInBounds_toArray, List.set_cons_zero, List.set_cons_succ]
          refine wpAnyH_take (i := 6) (v := ?_) rfl (by kernel_rfl) (by kernel_rfl) (by kernel_rfl) (fun _ _ _ h => h) (Or.inl ⟨by rfl, ?_⟩) (by assumption) ?_
          rotate_left 1
          · intro w hSw
            obtain ⟨p0, p1, p2, p3, p4, p5, p6, p7, p8, p9, p10, p11⟩ := HC9.out w hSw
            go_simp
            all_goals (with_reducible rfl)
          try simp only [Act.put, List.getElem_toArray, List.getElem_cons_zero, List.getElem_cons_succ, List.setIfInBounds_toArray, List.set_cons_zero, List.set_cons_succ]
          refine wpAnyH_take (i := 7) (v := ?_) rfl (by kernel_rfl) (by kernel_rfl) (by kernel_rfl) (fun _ _ _ h => h) (Or.inl ⟨by rfl, ?_⟩) (by assumption) ?_
          rotate_left 1
          · intro w hSw
            obtain ⟨p0, p1, p2, p3, p4, p5, p6, p7, p8, p9, p10, p11⟩ := HC13.out w hSw
            go_simp
            all_goals (with_reducible rfl)
          try simp only [Act.put, List.getElem_toArray, List.getElem_cons_zero, List.getElem_cons_succ, List.setIfInBounds_toArray, List.set_cons_zero, List.set_cons_succ]
          refine wpAnyH_ready (rs := [8]) (by kernel_rfl) (by simp) ?_
          refine AllReadyH.cons rfl (fun K hK => ?_) AllReadyH.nil
          go_simp
          refine (HSM.out _ HUX.out).mono ?_
          rintro e u1 ⟨rfl, hbx⟩
          have HUn := Lib.hid (HUX.out.trans (hbx.mono HUX.out.size))
          clear hbx HUX
          have HUX := HUn
          clear HUn
          refine hK.out _ _ (by first | exact hHeld | exact HUX.out) (fun hHeld => ?_)
          clear hK K
          try simp only [Act.put, List.getElem_toArray, List.getElem_cons_zero, List.getElem_cons_succ, List.setIfInBounds_toArray, List.set_cons_zero, List.set_cons_succ]
          refine wpAnyH_take (i := 9) (v := ?_) rfl (by kernel_rfl) (by kernel_rfl) (by kernel_rfl) (fun _ _ _ h => h) (Or.inl ⟨by rfl, ?_⟩) (by assumption) ?_
          rotate_left 1
          · intro w hSw
            (try dsimp only at hSw)
            go_simp
            all_goals (with_reducible rfl)
          try simp only [Act.put, List.getElem_toArray, List.getElem_cons_zero, List.getElem_cons_succ, List.setIfInBounds_toArray, List.set_cons_zero, List.set_cons_succ]
          refine wpAnyH_take (i := 10) (v := ?_) rfl (by kernel_rfl) (by kernel_rfl) (by kernel_rfl) (fun _ _ _ h => h) (Or.inl ⟨by rfl, ?_⟩) (by assumption) ?_
          rotate_left 1
          · intro w hSw
            (try dsimp only at hSw)
            go_simp
            all_goals (with_reducible rfl)
          try simp only [Act.put, List.getElem_toArray, List.getElem_cons_zero, List.getElem_cons_succ, List.setIfInBounds_toArray, List.set_cons_zero, List.set_cons_succ]
          refine wpAnyH_take (i := 11) (v := ?_) rfl (by kernel_rfl) (by kernel_rfl) (by kernel_rfl) (fun _ _ _ h => h) (Or.inl ⟨by rfl, ?_⟩) (by assumption) ?_
          rotate_left 1
          · intro w hSw
            (try dsimp only at hSw)
            go_simp
            all_goals (with_reducible rfl)
          try simp only [Act.put, List.getElem_toArray, List.getElem_cons_zero, List.getElem_cons_succ, List.setIfInBounds_toArray, List.set_cons_zero, List.set_cons_succ]
          refine wpAnyH_take (i := 12) (v := ?_) rfl (by kernel_rfl) (by kernel_rfl) (by kernel_rfl) (fun _ _ _ h => h) (Or.inl ⟨by rfl, ?_⟩) (by assumption) ?_
          rotate_left 1
          · intro w hSw
            (try dsimp only at hSw)
            go_simp
            all_goals (with_reducible rfl)
          try simp only [Act.put, List.getElem_toArray, List.getElem_cons_zero, List.getElem_cons_succ, List.setIfInBounds_toArray, List.set_cons_zero, List.set_cons_succ]
          refine wpAnyH_take (i := 15) (v := ?_) rfl (by kernel_rfl) (by kernel_rfl) (by kernel_rfl) (fun _ _ _ h => h) (Or.inl ⟨by rfl, ?_⟩) (by assumption) ?_
          rotate_left 1
          · intro w hSw
            obtain ⟨p0, p1, p2, p3, p4, p5, p6⟩ := HC11.out w hSw
            go_simp
            all_goals (with_reducible rfl)
          try simp only [Act.put, List.getElem_toArray, List.getElem_cons_zero, List.getElem_cons_succ, List.setIfInBounds_toArray, List.set_cons_zero, List.set_cons_succ]
          refine wpAnyH_ready (rs := [13]) (by kernel_rfl) (by simp) ?_
          refine AllReadyH.cons rfl (fun K hK => ?_) AllReadyH.nil
          go_simp
          refine (HVO.out _ HUX.out).mono ?_
          rintro e u1 ⟨rfl, hbx⟩
          have HUn := Lib.hid (HUX.out.trans (hbx.mono HUX.out.size))
          clear hbx HUX
          have HUX := HUn
          clear HUn
          refine hK.out _ _ (by first | exact hHeld | exact HUX.out) (fun hHeld => ?_)
          clear hK K
          try simp only [Act.put, List.getElem_toArray, List.getElem_cons_zero, List.getElem_cons_succ, List.setIfInBounds_toArray, List.set_cons_zero, List.set_cons_succ]
          refine wpAnyH_ready (rs := [14]) (by kernel_rfl) (by simp) ?_
          refine AllReadyH.cons rfl (fun K hK => ?_) AllReadyH.nil
          go_simp
          refine (HIN.out _ HUX.out).mono ?_
          rintro e u1 ⟨rfl, hbx⟩
          have HUn := Lib.hid (HUX.out.trans (hbx.mono HUX.out.size))
          clear hbx HUX
          have HUX := HUn
          clear HUn
          refine hK.out _ _ (by first | exact hHeld | exact HUX.out) (fun hHeld => ?_)
          clear hK K
          try simp only [Act.put, List.getElem_toArray, List.getElem_cons_zero, List.getElem_cons_succ, List.setIfInBounds_toArray, List.set_cons_zero, List.set_cons_succ]
          refine wpAnyH_take (i := 16) (v := ?_) rfl (by kernel_rfl) (by kernel_rfl) (by kernel_rfl) (fun _ _ _ h => h) (Or.inl ⟨by rfl, ?_⟩) (by assumption) ?_
          rotate_left 1
          · intro w hSw
            (try dsimp only at hSw)
            go_simp
            all_goals (with_reducible rfl)
          try simp only [Act.put, List.getElem_toArray, List.getElem_cons_zero, List.getElem_cons_succ, List.setIfInBounds_toArray, List.set_cons_zero, List.set_cons_succ]
          refine wpAnyH_take (i := 17) (v := ?_) rfl (by kernel_rfl) (by kernel_rfl) (by kernel_rfl) (fun _ _ _ h => h) (Or.inl ⟨by rfl, ?_⟩) (by assumption) ?_
          rotate_left 1
          · intro w hSw
            (try dsimp only at hSw)
            go_simp
            all_goals (with_reducible rfl)
          try simp only [Act.put, List.getElem_toArray, List.getElem_cons_zero, List.getElem_cons_succ, List.setIfInBounds_toArray, List.set_cons_zero, List.set_cons_succ]
          refine wpAnyH_done (by kernel_rfl) ?_ _
          go_wp2
          go_roundw
          case rel => exact ⟨k + 1, r2, S12, by omega, by go_num, Lib.hid (HH13.out.below HUX.out), Lib.hid (by have := HRK.out; omega), Lib.hid (G8.out.below HUX.out), Lib.hid (G9.out.below HUX.out), Lib.hid (G11.out.below HUX.out), Lib.hid (GFD.out.below HUX.out)⟩
          case measure => simp [intOf]; omega
        · have hlf := zlife HK.out.nd
          rw [HL1.out] at hlf
          have HLFE := Lib.hid hlf
          obtain ⟨Q, hQ⟩ : ∃ z, 1 + (tm : Int) % 4 = z := ⟨_, rfl⟩
          have hq1 : 1 ≤ Q ∧ Q ≤ 4 := by omega
          have HQ1 := Lib.hid hq1
          have HQ := Lib.hid hQ
          have hx8 : w.heap.size ≤ X8 := by have h1 := HHo.out.bel.size; have h2 := HBEw8.out.1; omega
          have hx11 : X11 ≠ X8 := by have h1 := HB8c.out.b.lt; have h2 := HBEw11.out.1; omega
          have hK8 := (Kept.refl (fun j => j = X8) wr).setCell (p := ⟨X8, 4, none⟩) (.inl rfl) (.int .i64 (1 + (tm : Int) % 4))
          have g8 := E8.out.b.set 4 (.int .i64 (1 + (tm : Int) % 4))
          simp at g8
          have hHq := HK.out.kept hK8 (fun q hq e => E8.out.n (e ▸ hq)) (fun q hq e => by omega)
          have g11 := E11.out.b.kept hK8 hx11
          have p4 := E8.out.b.cell 4 rfl
          have pf := fun j => E8.out.b.free j
          clear hlf hQ hq1 hx8 hx11 hK8
          go_wp2_with fail
          refine HLFE.out.mono ?_
          rintro e wz ⟨rfl, rfl⟩
          go_wp2_with fail
          refine (k4_any tm _ HTM.out).mono ?_
          rintro e wz ⟨rfl, rfl⟩
          go_upto_region 21 with fail
          obtain ⟨wq, hwq⟩ : ∃ z, wr.setCell ⟨X8, 4, none⟩ (.int .i64 (1 + (tm : Int) % 4)) = z := ⟨_, rfl⟩
          rw [hwq] at g8 hHq g11
          rw [hwq]
          rw [HQ.out] at g8
          have HG8 := Lib.hid g8
          have HHq := Lib.hid hHq
          have HG11 := Lib.hid (show Bx wq Sk X11 #[.int .i64 i0, .int .i64 i1, .int .i64 i2, .int .i64 i3, .int .i64 i4, .int .i64 i5, .bool i6] 50 from ⟨g11, E11.out.n⟩)
          clear g8 hHq g11 hwq p4 pf
          have p0 := HG8.out.cell 0 rfl
          have p1 := HG8.out.cell 1 rfl
          have p2 := HG8.out.cell 2 rfl
          have p3 := HG8.out.cell 3 rfl
          have p4 := HG8.out.cell 4 rfl
          have p5 := HG8.out.cell 5 rfl
          have p6 := HG8.out.cell 6 rfl
          have p7 := HG8.out.cell 7 rfl
          have p8 := HG8.out.cell 8 rfl
          have p9 := HG8.out.cell 9 rfl
          have p10 := HG8.out.cell 10 rfl
          have p11 := HG8.out.cell 11 rfl
          obtain ⟨C2, hC2⟩ : ∃ z, handM n1 (ofLife m Q) = z := ⟨_, rfl⟩
          obtain ⟨K2, hK2⟩ : ∃ z, handK n1 (ofLife m Q) = z := ⟨_, rfl⟩
          have hne : Q ≠ n1.life := by have h1 := HL1.out; have h2 := HQ1.out; omega
          have hs := zhandle HHq.out.nd (ofLife m Q) dx dl dc (HBD.out.mono HHq.out.bel (Nat.le_refl _)) (fun b hb => HHq.out.old (HBD.out.lies_lt hb)) HF.out HI.out (H300.out) HHq.out.le HHq.out.pos
          rw [hC2, hK2, stale_N hne] at hs
          have HS := Lib.hid (show Calls Tryz.prog 9 #[.pointer (some ⟨g, 0, none⟩), .agg #[.int .i64 m.fr, .int .i64 m.to, .int .i64 m.kd, .int .i64 m.vo, .int .i64 Q, .int .u64 (m.id : Int), .int .i64 m.co, .bool m.has, .int .u64 (m.n.key : Int), .int .u32 (m.n.cookie : Int), .bool m.n.gone, .slice dx dl dc]] wq fun e w' => ∃ cx cn cc, e = .returned (.tuple #[.agg #[.int .i64 C2.fr, .int .i64 C2.to, .int .i64 C2.kd, .int .i64 C2.vo, .int .i64 C2.li, .int .u64 (C2.id : Int), .int .i64 C2.co, .bool C2.has, .int .u64 (C2.n.key : Int), .int .u32 (C2.n.cookie : Int), .bool C2.n.gone, .slice cx cn cc], cerr K2]) ∧ IsB w' (.slice cx cn cc) C2.n.data ∧ (∃ S', NodeZ w' w.heap.size g S' n1 r2 ∧ (∀ k, S' k → Sk k ∨ wq.heap.size ≤ k) ∧ Kept Sk wq w' ∧ ∀ b, liesB (.slice cx cn cc) C2.n.data b → wq.heap.size ≤ b ∧ ¬ S' b) from hs)
          have HK2L := Lib.hid (show K2 ≤ 17 from by rcases handK_le n1 (ofLife m Q) with h | h <;> omega)
          have HST := Lib.hid (show KK = 0 → K2 = 0 ∧ C2.co = 13 ∧ C2.li = 0 from fun h0 => by
            have h1 : handK n1 m = 0 := by rw [HAG.out.2.1]; exact h0
            have h2 := stale_K (q := Q) (by have h2 := HQ1.out; omega) (by have h2 := HQ1.out; omega) h1
            have h3 := stale_M hne h2
            rw [hC2] at h3
            exact ⟨by rw [← hK2]; exact h2, h3.1, by rw [h3.2]; exact HL1.out⟩)
          clear hs hC2 hK2 hne
          go_wp2_with fail
          refine HS.out.mono ?_
          rintro e w14 ⟨cx, cn, cc, rfl, _, S14, h14, hs14, hk14, _⟩
          have HH14 := Lib.hid (HHq.out.call h14 hk14)
          have J11 := Lib.hid (HG11.out.call hk14 hs14)
          clear h14 hs14 hk14
          clear p0 p1 p2 p3 p4 p5 p6 p7 p8 p9 p10 p11
          have hz_ := HH14.out.alloc (.cells #[.int .i64 C2.fr, .int .i64 C2.to, .int .i64 C2.kd, .int .i64 C2.vo, .int .i64 C2.li, .int .u64 (C2.id : Int), .int .i64 C2.co, .bool C2.has, .int .u64 (C2.n.key : Int), .int .u32 (C2.n.cookie : Int), .bool C2.n.gone, .slice cx cn cc] 45)
          have hx_ := Blk.new w14 #[.int .i64 C2.fr, .int .i64 C2.to, .int .i64 C2.kd, .int .i64 C2.vo, .int .i64 C2.li, .int .u64 (C2.id : Int), .int .i64 C2.co, .bool C2.has, .int .u64 (C2.n.key : Int), .int .u32 (C2.n.cookie : Int), .bool C2.n.gone, .slice cx cn cc] 45
          have hn_ := HH14.out.new (Nat.le_refl w14.heap.size)
          have hb_ := below_new16 w14 (.cells #[.int .i64 C2.fr, .int .i64 C2.to, .int .i64 C2.kd, .int .i64 C2.vo, .int .i64 C2.li, .int .u64 (C2.id : Int), .int .i64 C2.co, .bool C2.has, .int .u64 (C2.n.key : Int), .int .u32 (C2.n.cookie : Int), .bool C2.n.gone, .slice cx cn cc] 45)
          have L11 := Lib.hid (J11.out.below hb_)
          obtain ⟨w15, hw_⟩ : ∃ z, w14.alloc (.cells #[.int .i64 C2.fr, .int .i64 C2.to, .int .i64 C2.kd, .int .i64 C2.vo, .int .i64 C2.li, .int .u64 (C2.id : Int), .int .i64 C2.co, .bool C2.has, .int .u64 (C2.n.key : Int), .int .u32 (C2.n.cookie : Int), .bool C2.n.gone, .slice cx cn cc] 45) = z := ⟨_, rfl⟩
          obtain ⟨X15, hX_⟩ : ∃ z, w14.heap.size = z := ⟨_, rfl⟩
          rw [hw_] at hz_ hx_ hb_ L11
          rw [hX_] at hx_ hn_
          have HH15 := Lib.hid hz_
          have HBX15 := Lib.hid (show Bx w15 S14 X15 #[.int .i64 C2.fr, .int .i64 C2.to, .int .i64 C2.kd, .int .i64 C2.vo, .int .i64 C2.li, .int .u64 (C2.id : Int), .int .i64 C2.co, .bool C2.has, .int .u64 (C2.n.key : Int), .int .u32 (C2.n.cookie : Int), .bool C2.n.gone, .slice cx cn cc] 45 from ⟨hx_, hn_⟩)
          have HWw15 := Lib.hid hw_
          have HXX15 := Lib.hid hX_
          have HBEw15 := Lib.hid (And.intro hX_ hb_)
          clear hz_ hx_ hn_ hb_ hw_ hX_
          go_upto_region 22 with fail
          try rw [HWw15.out]
          try rw [HXX15.out]
          have HC15 := Lib.hid (fun (wx : World) (hb : Below w15.heap.size w15 wx) => show wx.cell? ⟨X15, 0, none⟩ = some (.int .i64 C2.fr) ∧ wx.cell? ⟨X15, 1, none⟩ = some (.int .i64 C2.to) ∧ wx.cell? ⟨X15, 2, none⟩ = some (.int .i64 C2.kd) ∧ wx.cell? ⟨X15, 3, none⟩ = some (.int .i64 C2.vo) ∧ wx.cell? ⟨X15, 4, none⟩ = some (.int .i64 C2.li) ∧ wx.cell? ⟨X15, 5, none⟩ = some (.int .u64 (C2.id : Int)) ∧ wx.cell? ⟨X15, 6, none⟩ = some (.int .i64 C2.co) ∧ wx.cell? ⟨X15, 7, none⟩ = some (.bool C2.has) ∧ wx.cell? ⟨X15, 8, none⟩ = some (.int .u64 (C2.n.key : Int)) ∧ wx.cell? ⟨X15, 9, none⟩ = some (.int .u32 (C2.n.cookie : Int)) ∧ wx.cell? ⟨X15, 10, none⟩ = some (.bool C2.n.gone) ∧ wx.cell? ⟨X15, 11, none⟩ = some (.slice cx cn cc) from
            have h := (HBX15.out.below hb).b
            ⟨h.cell 0 rfl, h.cell 1 rfl, h.cell 2 rfl, h.cell 3 rfl, h.cell 4 rfl, h.cell 5 rfl, h.cell 6 rfl, h.cell 7 rfl, h.cell 8 rfl, h.cell 9 rfl, h.cell 10 rfl, h.cell 11 rfl⟩)
          have HC11 := Lib.hid (fun (wx : World) (hb : Below w15.heap.size w15 wx) => show wx.cell? ⟨X11, 0, none⟩ = some (.int .i64 i0) ∧ wx.cell? ⟨X11, 1, none⟩ = some (.int .i64 i1) ∧ wx.cell? ⟨X11, 2, none⟩ = some (.int .i64 i2) ∧ wx.cell? ⟨X11, 3, none⟩ = some (.int .i64 i3) ∧ wx.cell? ⟨X11, 4, none⟩ = some (.int .i64 i4) ∧ wx.cell? ⟨X11, 5, none⟩ = some (.int .i64 i5) ∧ wx.cell? ⟨X11, 6, none⟩ = some (.bool i6) from
            have h := (L11.out.below hb).b
            ⟨h.cell 0 rfl, h.cell 1 rfl, h.cell 2 rfl, h.cell 3 rfl, h.cell 4 rfl, h.cell 5 rfl, h.cell 6 rfl⟩)
          obtain ⟨vh, hvo, hin⟩ := zvol HH15.out.nd
          have HVO := Lib.hid hvo
          have HIN := Lib.hid (fun wx (hb : Below w15.heap.size w15 wx) => show Calls Tryz.prog 11 #[.pointer (some ⟨vh, 0, none⟩)] wx fun e w' => e = .returned (.agg #[.int .i64 i0, .int .i64 i1, .int .i64 i2, .int .i64 i3, .int .i64 i4, .int .i64 i5, .bool i6]) ∧ Below wx.heap.size wx w' from by rw [← HINF.out]; exact hin wx hb)
          have heq : ∀ W, (binOp .neq 50 (.agg #[.int .i64 i0, .int .i64 i1, .int .i64 i2, .int .i64 i3, .int .i64 i4, .int .i64 i5, .bool i6]) (.agg #[.int .i64 i0, .int .i64 i1, .int .i64 i2, .int .i64 i3, .int .i64 i4, .int .i64 i5, .bool i6])).run Tryz.prog W = .ok (.bool false) W := fun W => by rw [← HINF.out]; exact Tryz.eqlInfo n1.v W
          have HLI := Lib.hid (fun (wx : World) (hb : Below w15.heap.size w15 wx) => show Calls Tryz.prog 14 #[.pointer (some ⟨g, 0, none⟩)] wx fun e w' => e = .returned (.int .i64 0) ∧ wx = w' from by
            have h9 := zlife (HH15.out.below hb).nd
            rwa [HL1.out] at h9)
          clear hvo hin
          by_cases hk0 : KK = 0
          · obtain ⟨z1, z2, z3⟩ := HST.out hk0
            have e1 : ((KK : Int) == 0) = true := beq_iff_eq.2 (by omega)
            have e2 : ((K2 : Int) != 0) = false := by rw [z1]; rfl
            have e3 : (C2.co != 13) = false := by rw [z2]; rfl
            have e4 : (C2.li != 0) = false := by rw [z3]; rfl
            clear z1 z2 z3 hk0
            as_aux_lemma =>
              have HUX := Lib.hid (show Below w15.heap.size w15 w15.drew from (Below.refl _ _).drew)
              refine wp_region_held_drew (S := (fun wx => Below w15.heap.size w15 wx)) (by kernel_rfl) (HUX.out) (fun hHeld => ?_)
              obtain ⟨q0w, hq0w⟩ : ∃ q, w15.drew = q := ⟨_, rfl⟩
              rw [hq0w] at HUX hHeld
              rw [hq0w]
              clear hq0w
              refine wpAnyH_take (i := 0) (v := ?_) rfl (by kernel_rfl) (by kernel_rfl) (by kernel_rfl) (fun _ _ _ h => h) (Or.inl ⟨by rfl, ?_⟩) (by assumption) ?_
              rotate_left 1
              · intro w hSw
                (try dsimp only at hSw)
                go_simp
                all_goals (with_reducible rfl)
              try simp only [Act.put, List.getElem_toArray, List.getElem_cons_zero, List.getElem_cons_succ, List.setIfInBounds_toArray, List.set_cons_zero, List.set_cons_succ]
              refine wpAnyH_take (i := 3) (v := ?_) rfl (by kernel_rfl) (by kernel_rfl) (by kernel_rfl) (fun _ _ _ h => h) (Or.inl ⟨by rfl, ?_⟩) (by assumption) ?_
              rotate_left 1
              · intro w hSw
                obtain ⟨p0, p1, p2, p3, p4, p5, p6⟩ := HC11.out w hSw
                go_simp
                all_goals (with_reducible rfl)
              try simp only [Act.put, List.getElem_toArray, List.getElem_cons_zero, List.getElem_cons_succ, List.setIfInBounds_toArray, List.set_cons_zero, List.set_cons_succ]
              refine wpAnyH_ready (rs := [1]) (by kernel_rfl) (by simp) ?_
              refine AllReadyH.cons rfl (fun K hK => ?_) AllReadyH.nil
              go_simp
              refine (HVO.out _ HUX.out).mono ?_
              rintro e u1 ⟨rfl, hbx⟩
              have HUn := Lib.hid (HUX.out.trans (hbx.mono HUX.out.size))
              clear hbx HUX
              have HUX := HUn
              clear HUn
              refine hK.out _ _ (by first | exact hHeld | exact HUX.out) (fun hHeld => ?_)
              clear hK K
              try simp only [Act.put, List.getElem_toArray, List.getElem_cons_zero, List.getElem_cons_succ, List.setIfInBounds_toArray, List.set_cons_zero, List.set_cons_succ]
              refine wpAnyH_ready (rs := [2]) (by kernel_rfl) (by simp) ?_
              refine AllReadyH.cons rfl (fun K hK => ?_) AllReadyH.nil
              go_simp
              refine (HIN.out _ HUX.out).mono ?_
              rintro e u1 ⟨rfl, hbx⟩
              have HUn := Lib.hid (HUX.out.trans (hbx.mono HUX.out.size))
              clear hbx HUX
              have HUX := HUn
              clear HUn
              refine hK.out _ _ (by first | exact hHeld | exact HUX.out) (fun hHeld => ?_)
              clear hK K
              try simp only [Act.put, List.getElem_toArray, List.getElem_cons_zero, List.getElem_cons_succ, List.setIfInBounds_toArray, List.set_cons_zero, List.set_cons_succ]
              refine wpAnyH_take (i := 4) (v := ?_) rfl (by kernel_rfl) (by kernel_rfl) (by kernel_rfl) (fun _ _ _ h => h) (Or.inl ⟨by rfl, ?_⟩) (by assumption) ?_
              rotate_left 1
              · intro w hSw
                (try dsimp only at hSw)
                go_simp
                all_goals (with_reducible rfl)
              try simp only [Act.put, List.getElem_toArray, List.getElem_cons_zero, List.getElem_cons_succ, List.setIfInBounds_toArray, List.set_cons_zero, List.set_cons_succ]
              refine wpAnyH_take (i := 5) (v := ?_) rfl (by kernel_rfl) (by kernel_rfl) (by kernel_rfl) (fun _ _ _ h => h) (Or.inl ⟨by rfl, ?_⟩) (by assumption) ?_
              rotate_left 1
              · intro w hSw
                (try dsimp only at hSw)
                go_simp
                all_goals (with_reducible rfl)
              try simp only [Act.put, List.getElem_toArray, List.getElem_cons_zero, List.getElem_cons_succ, List.setIfInBounds_toArray, List.set_cons_zero, List.set_cons_succ]
              refine wpAnyH_take (i := 6) (v := ?_) rfl (by kernel_rfl) (by kernel_rfl) (by kernel_rfl) (fun _ _ _ h => h) (Or.inl ⟨by rfl, ?_⟩) (by assumption) ?_
              rotate_left 1
              · intro w hSw
                (try dsimp only at hSw)
                go_simp
                all_goals (with_reducible rfl)
              try simp only [Act.put, List.getElem_toArray, List.getElem_cons_zero, List.getElem_cons_succ, List.setIfInBounds_toArray, List.set_cons_zero, List.set_cons_succ]
              refine wpAnyH_ready (rs := [7]) (by kernel_rfl) (by simp) ?_
              refine AllReadyH.cons rfl (fun K hK => ?_) AllReadyH.nil
              go_simp
              refine (code_cerr KK _ HKL.out).mono ?_
              rintro e u ⟨rfl, rfl⟩
              refine hK.out _ _ (by first | exact hHeld | exact HUX.out) (fun hHeld => ?_)
              clear hK K
              try simp only [Act.put, List.getElem_toArray, List.getElem_cons_zero, List.getElem_cons_succ, List.setIfInBounds_toArray, List.set_cons_zero, List.set_cons_succ]
              refine wpAnyH_take (i := 8) (v := ?_) rfl (by kernel_rfl) (by kernel_rfl) (by kernel_rfl) (fun _ _ _ h => h) (Or.inl ⟨by rfl, ?_⟩) (by assumption) ?_
              rotate_left 1
              · intro w hSw
                (try dsimp only at hSw)
                go_simp
                all_goals (with_reducible rfl)
              try simp only [Act.put, List.getElem_toArray, List.getElem_cons_zero, List.getElem_cons_succ, List.setIfInBounds_toArray, List.set_cons_zero, List.set_cons_succ]
              refine wpAnyH_take (i := 9) (v := ?_) rfl (by kernel_rfl) (by kernel_rfl) (by kernel_rfl) (fun _ _ _ h => h) (Or.inl ⟨by rfl, ?_⟩) (by assumption) ?_
              rotate_left 1
              · intro w hSw
                (try dsimp only at hSw)
                go_simp
                all_goals (with_reducible rfl)
              try simp only [Act.put, List.getElem_toArray, List.getElem_cons_zero, List.getElem_cons_succ, List.setIfInBounds_toArray, List.set_cons_zero, List.set_cons_succ]
              refine wpAnyH_take (i := 10) (v := ?_) rfl (by kernel_rfl) (by kernel_rfl) (by kernel_rfl) (fun _ _ _ h => h) (Or.inl ⟨by rfl, ?_⟩) (by assumption) ?_
              rotate_left 1
              · intro w hSw
                (try dsimp only at hSw)
                go_simp
                all_goals (with_reducible rfl)
              try simp only [Act.put, List.getElem_toArray, List.getElem_cons_zero, List.getElem_cons_succ, List.setIfInBounds_toArray, List.set_cons_zero, List.set_cons_succ]
              refine wpAnyH_ready (rs := [11]) (by kernel_rfl) (by simp) ?_
              refine AllReadyH.cons rfl (fun K hK => ?_) AllReadyH.nil
              go_simp
              refine (code_cerr K2 _ HK2L.out).mono ?_
              rintro e u ⟨rfl, rfl⟩
              refine hK.out _ _ (by first | exact hHeld | exact HUX.out) (fun hHeld => ?_)
              clear hK K
              try simp only [Act.put, List.getElem_toArray, List.getElem_cons_zero, List.getElem_cons_succ, List.setIfInBounds_toArray, List.set_cons_zero, List.set_cons_succ]
              refine wpAnyH_take (i := 12) (v := ?_) rfl (by kernel_rfl) (by kernel_rfl) (by kernel_rfl) (fun _ _ _ h => h) (Or.inl ⟨by rfl, ?_⟩) (by assumption) ?_
              rotate_left 1
              · intro w hSw
                (try dsimp only at hSw)
                go_simp
                all_goals (with_reducible rfl)
              try simp only [Act.put, List.getElem_toArray, List.getElem_cons_zero, List.getElem_cons_succ, List.setIfInBounds_toArray, List.set_cons_zero, List.set_cons_succ]
              refine wpAnyH_take (i := 13) (v := ?_) rfl (by kernel_rfl) (by kernel_rfl) (by kernel_rfl) (fun _ _ _ h => h) (Or.inl ⟨by rfl, ?_⟩) (by assumption) ?_
              rotate_left 1
              · intro w hSw
                (try dsimp only at hSw)
                go_simp
                all_goals (with_reducible rfl)
              try simp only [Act.put, List.getElem_toArray, List.getElem_cons_zero, List.getElem_cons_succ, List.setIfInBounds_toArray, List.set_cons_zero, List.set_cons_succ]
              refine wpAnyH_take (i := 14) (v := ?_) rfl (by kernel_rfl) (by kernel_rfl) (by kernel_rfl) (fun _ _ _ h => h) (Or.inl ⟨by rfl, ?_⟩) (by assumption) ?_
              rotate_left 1
              · intro w hSw
                (try dsimp only at hSw)
                go_simp
                all_goals (with_reducible rfl)
              try simp only [Act.put, List.getElem_toArray, List.getElem_cons_zero, List.getElem_cons_succ, List.setIfInBounds_toArray, List.set_cons_zero, List.set_cons_succ]
              refine wpAnyH_take (i := 15) (v := ?_) rfl (by kernel_rfl) (by kernel_rfl) (by kernel_rfl) (fun _ _ _ h => h) (Or.inl ⟨by rfl, ?_⟩) (by assumption) ?_
              rotate_left 1
              · intro w hSw
                obtain ⟨p0, p1, p2, p3, p4, p5, p6, p7, p8, p9, p10, p11⟩ := HC15.out w hSw
                go_simp
                all_goals (with_reducible rfl)
              try simp only [Act.put, List.getElem_toArray, List.getElem_cons_zero, List.getElem_cons_succ, List.setIfInBounds_toArray, List.set_cons_zero, List.set_cons_succ]
              refine wpAnyH_take (i := 16) (v := ?_) rfl (by kernel_rfl) (by kernel_rfl) (by kernel_rfl) (fun _ _ _ h => h) (Or.inl ⟨by rfl, ?_⟩) (by assumption) ?_
              rotate_left 1
              · intro w hSw
                (try dsimp only at hSw)
                go_simp
                all_goals (with_reducible rfl)
              try simp only [Act.put, List.getElem_toArray, List.getElem_cons_zero, List.getElem_cons_succ, List.setIfInBounds_toArray, List.set_cons_zero, List.set_cons_succ]
              refine wpAnyH_take (i := 17) (v := ?_) rfl (by kernel_rfl) (by kernel_rfl) (by kernel_rfl) (fun _ _ _ h => h) (Or.inl ⟨by rfl, ?_⟩) (by assumption) ?_
              rotate_left 1
              · intro w hSw
                (try dsimp only at hSw)
                go_simp
                all_goals (with_reducible rfl)
              try simp only [Act.put, List.getElem_toArray, List.getElem_cons_zero, List.getElem_cons_succ, List.setIfInBounds_toArray, List.set_cons_zero, List.set_cons_succ]
              refine wpAnyH_take (i := 18) (v := ?_) rfl (by kernel_rfl) (by kernel_rfl) (by kernel_rfl) (fun _ _ _ h => h) (Or.inl ⟨by rfl, ?_⟩) (by assumption) ?_
              rotate_left 1
              · intro w hSw
                (try dsimp only at hSw)
                go_simp
                all_goals (with_reducible rfl)
              try simp only [Act.put, List.getElem_toArray, List.getElem_cons_zero, List.getElem_cons_succ, List.setIfInBounds_toArray, List.set_cons_zero, List.set_cons_succ]
              refine wpAnyH_take (i := 19) (v := ?_) rfl (by kernel_rfl) (by kernel_rfl) (by kernel_rfl) (fun _ _ _ h => h) (Or.inl ⟨by rfl, ?_⟩) (by assumption) ?_
              rotate_left 1
              · intro w hSw
                (try dsimp only at hSw)
                go_simp
                all_goals (with_reducible rfl)
              try simp only [Act.put, List.getElem_toArray, List.getElem_cons_zero, List.getElem_cons_succ, List.setIfInBounds_toArray, List.set_cons_zero, List.set_cons_succ]
              refine wpAnyH_take (i := 20) (v := ?_) rfl (by kernel_rfl) (by kernel_rfl) (by kernel_rfl) (fun _ _ _ h => h) (Or.inl ⟨by rfl, ?_⟩) (by assumption) ?_
              rotate_left 1
              · intro w hSw
                obtain ⟨p0, p1, p2, p3, p4, p5, p6, p7, p8, p9, p10, p11⟩ := HC15.out w hSw
                go_simp
                all_goals (with_reducible rfl)
              try simp only [Act.put, List.getElem_toArray, List.getElem_cons_zero, List.getElem_cons_succ, List.setIfInBounds_toArray, List.set_cons_zero, List.set_cons_succ]
              refine wpAnyH_take (i := 21) (v := ?_) rfl (by kernel_rfl) (by kernel_rfl) (by kernel_rfl) (fun _ _ _ h => h) (Or.inl ⟨by rfl, ?_⟩) (by assumption) ?_
              rotate_left 1
              · intro w hSw
                (try dsimp only at hSw)
                go_simp
                all_goals (with_reducible rfl)
              try simp only [Act.put, List.getElem_toArray, List.getElem_cons_zero, List.getElem_cons_succ, List.setIfInBounds_toArray, List.set_cons_zero, List.set_cons_succ]
              refine wpAnyH_ready (rs := [22]) (by kernel_rfl) (by simp) ?_
              refine AllReadyH.cons rfl (fun K hK => ?_) AllReadyH.nil
              go_simp
              refine (HLI.out _ HUX.out).mono ?_
              rintro e u ⟨rfl, rfl⟩
              refine hK.out _ _ (by first | exact hHeld | exact HUX.out) (fun hHeld => ?_)
              clear hK K
              try simp only [Act.put, List.getElem_toArray, List.getElem_cons_zero, List.getElem_cons_succ, List.setIfInBounds_toArray, List.set_cons_zero, List.set_cons_succ]
              refine wpAnyH_take (i := 23) (v := ?_) rfl (by kernel_rfl) (by kernel_rfl) (by kernel_rfl) (fun _ _ _ h => h) (Or.inl ⟨by rfl, ?_⟩) (by assumption) ?_
              rotate_left 1
              · intro w hSw
                (try dsimp only at hSw)
                go_simp
                all_goals (with_reducible rfl)
              try simp only [Act.put, List.getElem_toArray, List.getElem_cons_zero, List.getElem_cons_succ, List.setIfInBounds_toArray, List.set_cons_zero, List.set_cons_succ]
              refine wpAnyH_take (i := 24) (v := ?_) rfl (by kernel_rfl) (by kernel_rfl) (by kernel_rfl) (fun _ _ _ h => h) (Or.inl ⟨by rfl, ?_⟩) (by assumption) ?_
              rotate_left 1
              · intro w hSw
                (try dsimp only at hSw)
                go_simp
                all_goals (with_reducible rfl)
              try simp only [Act.put, List.getElem_toArray, List.getElem_cons_zero, List.getElem_cons_succ, List.setIfInBounds_toArray, List.set_cons_zero, List.set_cons_succ]
              refine wpAnyH_take (i := 25) (v := ?_) rfl (by kernel_rfl) (by kernel_rfl) (by kernel_rfl) (fun _ _ _ h => h) (Or.inl ⟨by rfl, ?_⟩) (by assumption) ?_
              rotate_left 1
              · intro w hSw
                (try dsimp only at hSw)
                go_simp
                all_goals (with_reducible rfl)
              try simp only [Act.put, List.getElem_toArray, List.getElem_cons_zero, List.getElem_cons_succ, List.setIfInBounds_toArray, List.set_cons_zero, List.set_cons_succ]
              refine wpAnyH_take (i := 26) (v := ?_) rfl (by kernel_rfl) (by kernel_rfl) (by kernel_rfl) (fun _ _ _ h => h) (Or.inl ⟨by rfl, ?_⟩) (by assumption) ?_
              rotate_left 1
              · intro w hSw
                (try dsimp only at hSw)
                go_simp
                all_goals (with_reducible rfl)
              try simp only [Act.put, List.getElem_toArray, List.getElem_cons_zero, List.getElem_cons_succ, List.setIfInBounds_toArray, List.set_cons_zero, List.set_cons_succ]
              refine wpAnyH_done (by kernel_rfl) ?_ _
              go_wp2
              go_roundw
              case rel => exact ⟨i + 1, r2, n1, S14, by omega, by go_num, Lib.hid (HH15.out.below HUX.out), Lib.hid (by have := HRK.out; omega), HL1⟩
              case measure => simp [intOf]; omega
          · have e1 : ((KK : Int) == 0) = false := beq_eq_false_iff_ne.2 (by omega)
            clear hk0
            as_aux_lemma =>
              have HUX := Lib.hid (show Below w15.heap.size w15 w15.drew from (Below.refl _ _).drew)
              refine wp_region_held_drew (S := (fun wx => Below w15.heap.size w15 wx)) (by kernel_rfl) (HUX.out) (fun hHeld => ?_)
              obtain ⟨q0w, hq0w⟩ : ∃ q, w15.drew = q := ⟨_, rfl⟩
              rw [hq0w] at HUX hHeld
              rw [hq0w]
              clear hq0w
              refine wpAnyH_take (i := 0) (v := ?_) rfl (by kernel_rfl) (by kernel_rfl) (by kernel_rfl) (fun _ _ _ h => h) (Or.inl ⟨by rfl, ?_⟩) (by assumption) ?_
              rotate_left 1
              · intro w hSw
                (try dsimp only at hSw)
                go_simp
                all_goals (with_reducible rfl)
              try simp only [Act.put, List.getElem_toArray, List.getElem_cons_zero, List.getElem_cons_succ, List.setIfInBounds_toArray, List.set_cons_zero, List.set_cons_succ]
              refine wpAnyH_take (i := 3) (v := ?_) rfl (by kernel_rfl) (by kernel_rfl) (by kernel_rfl) (fun _ _ _ h => h) (Or.inl ⟨by rfl, ?_⟩) (by assumption) ?_
              rotate_left 1
              · intro w hSw
                obtain ⟨p0, p1, p2, p3, p4, p5, p6⟩ := HC11.out w hSw
                go_simp
                all_goals (with_reducible rfl)
              try simp only [Act.put, List.getElem_toArray, List.getElem_cons_zero, List.getElem_cons_succ, List.setIfInBounds_toArray, List.set_cons_zero, List.set_cons_succ]
              refine wpAnyH_ready (rs := [1]) (by kernel_rfl) (by simp) ?_
              refine AllReadyH.cons rfl (fun K hK => ?_) AllReadyH.nil
              go_simp
              refine (HVO.out _ HUX.out).mono ?_
              rintro e u1 ⟨rfl, hbx⟩
              have HUn := Lib.hid (HUX.out.trans (hbx.mono HUX.out.size))
              clear hbx HUX
              have HUX := HUn
              clear HUn
              refine hK.out _ _ (by first | exact hHeld | exact HUX.out) (fun hHeld => ?_)
              clear hK K
              try simp only [Act.put, List.getElem_toArray, List.getElem_cons_zero, List.getElem_cons_succ, List.setIfInBounds_toArray, List.set_cons_zero, List.set_cons_succ]
              refine wpAnyH_ready (rs := [2]) (by kernel_rfl) (by simp) ?_
              refine AllReadyH.cons rfl (fun K hK => ?_) AllReadyH.nil
              go_simp
              refine (HIN.out _ HUX.out).mono ?_
              rintro e u1 ⟨rfl, hbx⟩
              have HUn := Lib.hid (HUX.out.trans (hbx.mono HUX.out.size))
              clear hbx HUX
              have HUX := HUn
              clear HUn
              refine hK.out _ _ (by first | exact hHeld | exact HUX.out) (fun hHeld => ?_)
              clear hK K
              try simp only [Act.put, List.getElem_toArray, List.getElem_cons_zero, List.getElem_cons_succ, List.setIfInBounds_toArray, List.set_cons_zero, List.set_cons_succ]
              refine wpAnyH_take (i := 4) (v := ?_) rfl (by kernel_rfl) (by kernel_rfl) (by kernel_rfl) (fun _ _ _ h => h) (Or.inl ⟨by rfl, ?_⟩) (by assumption) ?_
              rotate_left 1
              · intro w hSw
                (try dsimp only at hSw)
                go_simp
                all_goals (with_reducible rfl)
              try simp only [Act.put, List.getElem_toArray, List.getElem_cons_zero, List.getElem_cons_succ, List.setIfInBounds_toArray, List.set_cons_zero, List.set_cons_succ]
              refine wpAnyH_take (i := 5) (v := ?_) rfl (by kernel_rfl) (by kernel_rfl) (by kernel_rfl) (fun _ _ _ h => h) (Or.inl ⟨by rfl, ?_⟩) (by assumption) ?_
              rotate_left 1
              · intro w hSw
                (try dsimp only at hSw)
                go_simp
                all_goals (with_reducible rfl)
              try simp only [Act.put, List.getElem_toArray, List.getElem_cons_zero, List.getElem_cons_succ, List.setIfInBounds_toArray, List.set_cons_zero, List.set_cons_succ]
              refine wpAnyH_take (i := 6) (v := ?_) rfl (by kernel_rfl) (by kernel_rfl) (by kernel_rfl) (fun _ _ _ h => h) (Or.inl ⟨by rfl, ?_⟩) (by assumption) ?_
              rotate_left 1
              · intro w hSw
                (try dsimp only at hSw)
                go_simp
                all_goals (with_reducible rfl)
              try simp only [Act.put, List.getElem_toArray, List.getElem_cons_zero, List.getElem_cons_succ, List.setIfInBounds_toArray, List.set_cons_zero, List.set_cons_succ]
              refine wpAnyH_ready (rs := [7]) (by kernel_rfl) (by simp) ?_
              refine AllReadyH.cons rfl (fun K hK => ?_) AllReadyH.nil
              go_simp
              refine (code_cerr KK _ HKL.out).mono ?_
              rintro e u ⟨rfl, rfl⟩
              refine hK.out _ _ (by first | exact hHeld | exact HUX.out) (fun hHeld => ?_)
              clear hK K
              try simp only [Act.put, List.getElem_toArray, List.getElem_cons_zero, List.getElem_cons_succ, List.setIfInBounds_toArray, List.set_cons_zero, List.set_cons_succ]
              refine wpAnyH_take (i := 8) (v := ?_) rfl (by kernel_rfl) (by kernel_rfl) (by kernel_rfl) (fun _ _ _ h => h) (Or.inl ⟨by rfl, ?_⟩) (by assumption) ?_
              rotate_left 1
              · intro w hSw
                (try dsimp only at hSw)
                go_simp
                all_goals (with_reducible rfl)
              try simp only [Act.put, List.getElem_toArray, List.getElem_cons_zero, List.getElem_cons_succ, List.setIfInBounds_toArray, List.set_cons_zero, List.set_cons_succ]
              refine wpAnyH_take (i := 9) (v := ?_) rfl (by kernel_rfl) (by kernel_rfl) (by kernel_rfl) (fun _ _ _ h => h) (Or.inl ⟨by rfl, ?_⟩) (by assumption) ?_
              rotate_left 1
              · intro w hSw
                (try dsimp only at hSw)
                go_simp
                all_goals (with_reducible rfl)
              try simp only [Act.put, List.getElem_toArray, List.getElem_cons_zero, List.getElem_cons_succ, List.setIfInBounds_toArray, List.set_cons_zero, List.set_cons_succ]
              refine wpAnyH_take (i := 10) (v := undef) rfl (by kernel_rfl) (by kernel_rfl) (by kernel_rfl) (fun _ _ _ h => h) (Or.inr ⟨by rfl, rfl⟩) (by assumption) ?_
              try simp only [Act.put, List.getElem_toArray, List.getElem_cons_zero, List.getElem_cons_succ, List.setIfInBounds_toArray, List.set_cons_zero, List.set_cons_succ]
              refine wpAnyH_take (i := 11) (v := undef) rfl (by kernel_rfl) (by kernel_rfl) (by kernel_rfl) (fun _ _ _ h => h) (Or.inr ⟨by rfl, rfl⟩) (by assumption) ?_
              try simp only [Act.put, List.getElem_toArray, List.getElem_cons_zero, List.getElem_cons_succ, List.setIfInBounds_toArray, List.set_cons_zero, List.set_cons_succ]
              refine wpAnyH_take (i := 12) (v := undef) rfl (by kernel_rfl) (by kernel_rfl) (by kernel_rfl) (fun _ _ _ h => h) (Or.inr ⟨by rfl, rfl⟩) (by assumption) ?_
              try simp only [Act.put, List.getElem_toArray, List.getElem_cons_zero, List.getElem_cons_succ, List.setIfInBounds_toArray, List.set_cons_zero, List.set_cons_succ]
              refine wpAnyH_take (i := 13) (v := undef) rfl (by kernel_rfl) (by kernel_rfl) (by kernel_rfl) (fun _ _ _ h => h) (Or.inr ⟨by rfl, rfl⟩) (by assumption) ?_
              try simp only [Act.put, List.getElem_toArray, List.getElem_cons_zero, List.getElem_cons_succ, List.setIfInBounds_toArray, List.set_cons_zero, List.set_cons_succ]
              refine wpAnyH_take (i := 14) (v := undef) rfl (by kernel_rfl) (by kernel_rfl) (by kernel_rfl) (fun _ _ _ h => h) (Or.inr ⟨by rfl, rfl⟩) (by assumption) ?_
              try simp only [Act.put, List.getElem_toArray, List.getElem_cons_zero, List.getElem_cons_succ, List.setIfInBounds_toArray, List.set_cons_zero, List.set_cons_succ]
              refine wpAnyH_take (i := 15) (v := undef) rfl (by kernel_rfl) (by kernel_rfl) (by kernel_rfl) (fun _ _ _ h => h) (Or.inr ⟨by rfl, rfl⟩) (by assumption) ?_
              try simp only [Act.put, List.getElem_toArray, List.getElem_cons_zero, List.getElem_cons_succ, List.setIfInBounds_toArray, List.set_cons_zero, List.set_cons_succ]
              refine wpAnyH_take (i := 16) (v := undef) rfl (by kernel_rfl) (by kernel_rfl) (by kernel_rfl) (fun _ _ _ h => h) (Or.inr ⟨by rfl, rfl⟩) (by assumption) ?_
              try simp only [Act.put, List.getElem_toArray, List.getElem_cons_zero, List.getElem_cons_succ, List.setIfInBounds_toArray, List.set_cons_zero, List.set_cons_succ]
              refine wpAnyH_take (i := 17) (v := undef) rfl (by kernel_rfl) (by kernel_rfl) (by kernel_rfl) (fun _ _ _ h => h) (Or.inr ⟨by rfl, rfl⟩) (by assumption) ?_
              try simp only [Act.put, List.getElem_toArray, List.getElem_cons_zero, List.getElem_cons_succ, List.setIfInBounds_toArray, List.set_cons_zero, List.set_cons_succ]
              refine wpAnyH_take (i := 18) (v := undef) rfl (by kernel_rfl) (by kernel_rfl) (by kernel_rfl) (fun _ _ _ h => h) (Or.inr ⟨by rfl, rfl⟩) (by assumption) ?_
              try simp only [Act.put, List.getElem_toArray, List.getElem_cons_zero, List.getElem_cons_succ, List.setIfInBounds_toArray, List.set_cons_zero, List.set_cons_succ]
              refine wpAnyH_take (i := 19) (v := undef) rfl (by kernel_rfl) (by kernel_rfl) (by kernel_rfl) (fun _ _ _ h => h) (Or.inr ⟨by rfl, rfl⟩) (by assumption) ?_
              try simp only [Act.put, List.getElem_toArray, List.getElem_cons_zero, List.getElem_cons_succ, List.setIfInBounds_toArray, List.set_cons_zero, List.set_cons_succ]
              refine wpAnyH_take (i := 20) (v := undef) rfl (by kernel_rfl) (by kernel_rfl) (by kernel_rfl) (fun _ _ _ h => h) (Or.inr ⟨by rfl, rfl⟩) (by assumption) ?_
              try simp only [Act.put, List.getElem_toArray, List.getElem_cons_zero, List.getElem_cons_succ, List.setIfInBounds_toArray, List.set_cons_zero, List.set_cons_succ]
              refine wpAnyH_take (i := 21) (v := undef) rfl (by kernel_rfl) (by kernel_rfl) (by kernel_rfl) (fun _ _ _ h => h) (Or.inr ⟨by rfl, rfl⟩) (by assumption) ?_
              try simp only [Act.put, List.getElem_toArray, List.getElem_cons_zero, List.getElem_cons_succ, List.setIfInBounds_toArray, List.set_cons_zero, List.set_cons_succ]
              refine wpAnyH_take (i := 22) (v := undef) rfl (by kernel_rfl) (by kernel_rfl) (by kernel_rfl) (fun _ _ _ h => h) (Or.inr ⟨by rfl, rfl⟩) (by assumption) ?_
              try simp only [Act.put, List.getElem_toArray, List.getElem_cons_zero, List.getElem_cons_succ, List.setIfInBounds_toArray, List.set_cons_zero, List.set_cons_succ]
              refine wpAnyH_take (i := 23) (v := undef) rfl (by kernel_rfl) (by kernel_rfl) (by kernel_rfl) (fun _ _ _ h => h) (Or.inr ⟨by rfl, rfl⟩) (by assumption) ?_
              try simp only [Act.put, List.getElem_toArray, List.getElem_cons_zero, List.getElem_cons_succ, List.setIfInBounds_toArray, List.set_cons_zero, List.set_cons_succ]
              refine wpAnyH_take (i := 24) (v := undef) rfl (by kernel_rfl) (by kernel_rfl) (by kernel_rfl) (fun _ _ _ h => h) (Or.inr ⟨by rfl, rfl⟩) (by assumption) ?_
              try simp only [Act.put, List.getElem_toArray, List.getElem_cons_zero, List.getElem_cons_succ, List.setIfInBounds_toArray, List.set_cons_zero, List.set_cons_succ]
              refine wpAnyH_take (i := 25) (v := ?_) rfl (by kernel_rfl) (by kernel_rfl) (by kernel_rfl) (fun _ _ _ h => h) (Or.inl ⟨by rfl, ?_⟩) (by assumption) ?_
              rotate_left 1
              · intro w hSw
                (try dsimp only at hSw)
                go_simp
                all_goals (with_reducible rfl)
              try simp only [Act.put, List.getElem_toArray, List.getElem_cons_zero, List.getElem_cons_succ, List.setIfInBounds_toArray, List.set_cons_zero, List.set_cons_succ]
              refine wpAnyH_take (i := 26) (v := ?_) rfl (by kernel_rfl) (by kernel_rfl) (by kernel_rfl) (fun _ _ _ h => h) (Or.inl ⟨by rfl, ?_⟩) (by assumption) ?_
              rotate_left 1
              · intro w hSw
                (try dsimp only at hSw)
                go_simp
                all_goals (with_reducible rfl)
              try simp only [Act.put, List.getElem_toArray, List.getElem_cons_zero, List.getElem_cons_succ, List.setIfInBounds_toArray, List.set_cons_zero, List.set_cons_succ]
              refine wpAnyH_done (by kernel_rfl) ?_ _
              go_wp2
              go_roundw
              case rel => exact ⟨i + 1, r2, n1, S14, by omega, by go_num, Lib.hid (HH15.out.below HUX.out), Lib.hid (by have := HRK.out; omega), HL1⟩
              case measure => simp [intOf]; omega
    · have kge : ¬ (i : Int) < (LL : Int) := by omega
      have hlf := zlife HH.out.nd
      rw [HLF.out] at hlf
      as_aux_lemma =>
        go_wp2_with fail
        refine hlf.mono ?_
        rintro e wz ⟨rfl, rfl⟩
        go_wp2
        go_ret
        exact ⟨rfl, HH.out.bel⟩

end Go.Proofs.YtllbngopfganjaaGreatDoor.Nd
end
