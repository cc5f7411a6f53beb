/- Vol, Vold, Volw, Volp, Volq, Full. -/
import Derived.Test.YtllbngopfganjaaGreatDoorM7
import Derived.Test.YtllbngopfganjaaGreatDoorM8
import Derived.Test.YtllbngopfganjaaGreatDoorM2
import Derived.IntWalk
set_option linter.unusedVariables false
set_option linter.unusedSimpArgs false

section
namespace Go.Proofs.YtllbngopfganjaaGreatDoor
open Go.RowKit Go.Cor

theorem below_alloc (w : World) (o : Obj) : Below w.heap.size w (w.alloc o) := (Below.refl _ w).alloc (Nat.le_refl _) o
/-- A volume's box: its disk's box, its index's. -/
def vcells (p x : Nat) (s : Vst) : Array Value := #[.pointer (some ⟨p, 0, none⟩), .int .i64 (s.num : Int), .int .i64 (s.gen : Int), .int .i64 (s.epoch : Int), .bool s.shut, .int .i64 (s.most : Int), .int .i64 (s.size : Int), .pointer (some ⟨x, 0, none⟩)]
structure Vp (w : World) (g p x : Nat) (v : Value) (Sd : Nat → Prop) (d : Dsk) (k : Nat) (s : Vst) : Prop where
  box : Blk w g (vcells p x s) 86
  ix : Q.At w x v s.idx
  dk : Dk w p Sd d k
  gx : ¬ Q.own x v g
  gd : ¬ Sd g
  xd : ∀ b, Q.own x v b → ¬ Sd b
/-- A volume; S: the blocks that it lies in, its disk's among them. -/
def Vl (w : World) (g p : Nat) (S : Nat → Prop) (d : Dsk) (k : Nat) (s : Vst) : Prop := ∃ x v Sd, Vp w g p x v Sd d k s ∧ ∀ b, S b ↔ b = g ∨ Q.own x v b ∨ Sd b
/-- What a call leaves. -/
def Vt (w w' : World) (g p : Nat) (S : Nat → Prop) (d' : Dsk) (k' : Nat) (s' : Vst) : Prop := ∃ S' : Nat → Prop, Vl w' g p S' d' k' s' ∧ Kept S w w' ∧ ∀ b, S' b → S b ∨ w.heap.size ≤ b

theorem Vl.lt {w : World} {g p k : Nat} {S : Nat → Prop} {d : Dsk} {s : Vst} (h : Vl w g p S d k s) : ∀ b, S b → b < w.heap.size := by
  obtain ⟨x, v, Sd, h, hS⟩ := h
  intro b hb
  rcases (hS b).1 hb with rfl | hb | hb
  · exact h.box.lt
  · exact h.ix.lt b hb
  · exact h.dk.lt b hb
theorem Vl.kept {S T : Nat → Prop} {w w' : World} {g p k : Nat} {d : Dsk} {s : Vst} (h : Vl w g p S d k s) (hk : Kept T w w') (hT : ∀ b, S b → ¬ T b) : Vl w' g p S d k s := by
  obtain ⟨x, v, Sd, h, hS⟩ := h
  exact ⟨x, v, Sd, ⟨h.box.kept hk (hT g ((hS g).2 (.inl rfl))), h.ix.kept hk (fun b hb => hT b ((hS b).2 (.inr (.inl hb)))), h.dk.kept hk (fun b hb => hT b ((hS b).2 (.inr (.inr hb)))), h.gx, h.gd, h.xd⟩, hS⟩
theorem Vl.below {S : Nat → Prop} {w w' : World} {g p k B : Nat} {d : Dsk} {s : Vst} (h : Vl w g p S d k s) (hb : Below B w w') (hB : w.heap.size ≤ B) : Vl w' g p S d k s := h.kept (Kept.of_below (S := fun _ => False) hb hB) (fun _ _ h => h)
theorem Vl.more {S : Nat → Prop} {w : World} {g p k k' : Nat} {d : Dsk} {s : Vst} (h : Vl w g p S d k s) (hk : k ≤ k') (hs : k' ≤ 90000) : Vl w g p S d k' s := by
  obtain ⟨x, v, Sd, h, hS⟩ := h
  exact ⟨x, v, Sd, ⟨h.box, h.ix, ⟨h.dk.is, Ok.more h.dk.ok hk, hs, h.dk.lt⟩, h.gx, h.gd, h.xd⟩, hS⟩
theorem Vl.up {S : Nat → Prop} {w : World} {g p k : Nat} {d : Dsk} {s : Vst} (h : Vl w g p S d k s) : d.Ok k ∧ k ≤ 90000 := by
  obtain ⟨x, v, Sd, h, hS⟩ := h
  exact ⟨h.dk.ok, h.dk.small⟩
theorem Vt.self {S : Nat → Prop} {w w' : World} {g p k k' : Nat} {d : Dsk} {s : Vst} (h : Vl w g p S d k s) (hb : Below w.heap.size w w') (hk : k ≤ k') (hs : k' ≤ 90000) : Vt w w' g p S d k' s :=
  ⟨S, (h.below hb (Nat.le_refl _)).more hk hs, Kept.of_below hb (Nat.le_refl _), fun _ h => .inl h⟩
theorem Vt.pre {S : Nat → Prop} {w wa w' : World} {g p k' : Nat} {d' : Dsk} {s' : Vst} (hb : Below w.heap.size w wa) (h : Vt wa w' g p S d' k' s') : Vt w w' g p S d' k' s' := by
  obtain ⟨S', h1, h2, h3⟩ := h
  exact ⟨S', h1, (Kept.of_below (S := fun _ => False) hb (Nat.le_refl _)).mono (fun _ _ h => h.elim) |>.trans h2 (fun j hj _ => hj), fun b hb2 => (h3 b hb2).imp id (fun h => Nat.le_trans hb.size h)⟩
theorem Vt.post {S : Nat → Prop} {w w1 w' : World} {g p k' : Nat} {d' : Dsk} {s' : Vst} (h : Vt w w1 g p S d' k' s') (hb : Below w1.heap.size w1 w') : Vt w w' g p S d' k' s' := by
  obtain ⟨S', h1, h2, h3⟩ := h
  exact ⟨S', h1.below hb (Nat.le_refl _), h2.trans (Kept.of_below (S := fun _ => False) hb (Nat.le_refl _)) (fun _ h => h.elim), h3⟩
theorem Vt.trans {S : Nat → Prop} {w w1 w2 : World} {g p k1 k2 : Nat} {d1 d2 : Dsk} {s1 s2 : Vst} (h : Vt w w1 g p S d1 k1 s1) (h2 : ∀ S', Vl w1 g p S' d1 k1 s1 → Vt w1 w2 g p S' d2 k2 s2) : Vt w w2 g p S d2 k2 s2 := by
  obtain ⟨S1, a1, a2, a3⟩ := h
  obtain ⟨S2, b1, b2, b3⟩ := h2 S1 a1
  refine ⟨S2, b1, a2.trans b2 (fun j hj hlt => ?_), fun b hb => ?_⟩
  · rcases a3 j hj with h | h
    · exact h
    · omega
  · rcases b3 b hb with h | h
    · exact a3 b h
    · exact .inr (Nat.le_trans a2.size h)
/-- Its disk alone. -/
theorem Vl.disk {S : Nat → Prop} {w : World} {g p k : Nat} {d : Dsk} {s : Vst} (h : Vl w g p S d k s) : ∃ Sd, Dk w p Sd d k ∧ (∀ b, Sd b → S b) ∧ ∀ w' d' k', Dt w w' p Sd d' k' → Vt w w' g p S d' k' s := by
  obtain ⟨x, v, Sd, h, hS⟩ := h
  refine ⟨Sd, h.dk, fun b hb => (hS b).2 (.inr (.inr hb)), fun w' d' k' hd => ?_⟩
  obtain ⟨Sd', h1, h2, h3⟩ := hd
  refine ⟨fun b => b = g ∨ Q.own x v b ∨ Sd' b, ⟨x, v, Sd', ⟨h.box.kept h2 h.gd, h.ix.kept h2 h.xd, h1, h.gx, fun hg => ?_, fun b hb hb2 => ?_⟩, fun b => Iff.rfl⟩, h2.mono (fun b _ hb => (hS b).2 (.inr (.inr hb))), fun b hb => ?_⟩
  · rcases h3 g hg with h4 | h4
    · exact h.gd h4
    · have := h.box.lt; omega
  · rcases h3 b hb2 with h4 | h4
    · exact h.xd b hb h4
    · have := h.ix.lt b hb; omega
  · rcases hb with rfl | hb | hb
    · exact .inl ((hS _).2 (.inl rfl))
    · exact .inl ((hS _).2 (.inr (.inl hb)))
    · rcases h3 b hb with h4 | h4
      · exact .inl ((hS _).2 (.inr (.inr h4)))
      · exact .inr h4
/-- Its box. -/
theorem Vl.box {S : Nat → Prop} {w : World} {g p k : Nat} {d : Dsk} {s : Vst} (h : Vl w g p S d k s) : ∃ x v, Blk w g (vcells p x s) 86 ∧ Q.At w x v s.idx := by
  obtain ⟨x, v, Sd, h, _⟩ := h
  exact ⟨x, v, h.box, h.ix⟩
theorem vbox_facts {w : World} {g p x : Nat} {s : Vst} {T : TypeId} (h : Blk w g (vcells p x s) T) :
    w.cell? ⟨g, 0, none⟩ = some (.pointer (some ⟨p, 0, none⟩)) ∧ w.cell? ⟨g, 1, none⟩ = some (.int .i64 (s.num : Int)) ∧ w.cell? ⟨g, 2, none⟩ = some (.int .i64 (s.gen : Int)) ∧ w.cell? ⟨g, 3, none⟩ = some (.int .i64 (s.epoch : Int)) ∧
    w.cell? ⟨g, 4, none⟩ = some (.bool s.shut) ∧ w.cell? ⟨g, 5, none⟩ = some (.int .i64 (s.most : Int)) ∧ w.cell? ⟨g, 6, none⟩ = some (.int .i64 (s.size : Int)) ∧ w.cell? ⟨g, 7, none⟩ = some (.pointer (some ⟨x, 0, none⟩)) ∧ (∀ j, w.frozen? ⟨g, j, none⟩ = false) :=
  ⟨h.cell 0 rfl, h.cell 1 rfl, h.cell 2 rfl, h.cell 3 rfl, h.cell 4 rfl, h.cell 5 rfl, h.cell 6 rfl, h.cell 7 rfl, fun j => h.free j⟩

theorem file_v (g p x : Nat) (s : Vst) (w : World) (hs : s.Ok) (hb : Blk w g (vcells p x s) 86) :
    Calls Tryz.prog 97 #[.pointer (some ⟨g, 0, none⟩)] w fun e w' => e = .returned (.string (nmD s.num s.gen)) ∧ ∃ n, w' = w.drewN n := by
  obtain ⟨c0, c1, c2, c3, c4, c5, c6, c7, f⟩ := vbox_facts hb
  have h1 := hs.num9
  have h2 := hs.gen9
  clear hs hb
  go_enter Tryz.func97, Tryz.ntmps97
  go_wp2
  go_quiet (first | exact Calls.quiet_of_same ((names_h s.num s.gen _ h1 h2).mono fun e w' ⟨he, hw⟩ => ⟨he, hw.symm⟩))
  go_wp2
  go_ret
  exact ⟨rfl, _, rfl⟩

/-- What a key has: no position (0), one that says that it is gone (1), a blob's (2). -/
def hasN (o : Option Pos) : Nat := match o with
  | none => 0
  | some p => if p.gone = true then 1 else 2
/-- A result of five cells stands in memory, and one more block behind it. -/
theorem set5_facts {w w1 : World} {B : Nat} {a0 a1 a2 a3 a4 : Value} {T : TypeId} (h : Blk w1 B #[a0, a1, a2, a3, a4] T) (hb : Below B w w1) (u0 u1 u2 u3 u4 : Value) (o : Obj) :
    ((Q.set5 w1 B u0 u1 u2 u3 u4).alloc o).cell? ⟨B, 0, none⟩ = some u0 ∧ ((Q.set5 w1 B u0 u1 u2 u3 u4).alloc o).cell? ⟨B, 1, none⟩ = some u1 ∧ ((Q.set5 w1 B u0 u1 u2 u3 u4).alloc o).cell? ⟨B, 2, none⟩ = some u2 ∧
    ((Q.set5 w1 B u0 u1 u2 u3 u4).alloc o).cell? ⟨B, 3, none⟩ = some u3 ∧ ((Q.set5 w1 B u0 u1 u2 u3 u4).alloc o).cell? ⟨B, 4, none⟩ = some u4 ∧ Below B w ((Q.set5 w1 B u0 u1 u2 u3 u4).alloc o) := by
  have hz := (Q.blk_set5 h u0 u1 u2 u3 u4).alloc o
  obtain ⟨z0, z1, z2, z3, z4, _⟩ := Q.blk5_facts hz
  have hs := Q.below_set5 (u0 := u0) (u1 := u1) (u2 := u2) (u3 := u3) (u4 := u4) hb (Nat.le_refl B)
  exact ⟨z0, z1, z2, z3, z4, hs.alloc (Nat.le_of_lt ((Q.blk_set5 h u0 u1 u2 u3 u4).lt)) o⟩
set_option maxRecDepth 100000 in
set_option maxHeartbeats 1000000 in
theorem find_v (g p x : Nat) (v : Value) (s : Vst) (key : Nat) (w : World) (hs : s.Ok) (hb : Blk w g (vcells p x s) 86) (hx : Q.At w x v s.idx) :
    Calls Tryz.prog 90 #[.pointer (some ⟨g, 0, none⟩), .int .u64 (key : Int)] w fun e w' =>
      e = .returned (.tuple #[Q.pval ((fnd s.idx key).getD pzero), .int .i64 (hasN (fnd s.idx key) : Int)]) ∧ Below w.heap.size w w' := by
  have HB := Lib.hid hb
  have HX := Lib.hid hx
  have hl : s.idx.length ≤ 1048576 := by have := s.idx_len; have := hs.few; omega
  have HA := Lib.hid ((below_alloc w (.cells #[.int .u64 0, .int .i64 0, .int .i64 0, .int .u32 0, .bool false] 124)))
  obtain ⟨c0, c1, c2, c3, c4, c5, c6, c7, f⟩ := vbox_facts (hb.below HA.out hb.lt)
  obtain ⟨r, hr⟩ : ∃ r, fnd s.idx key = r := ⟨_, rfl⟩
  rw [hr]
  have HR := Lib.hid hr
  clear hb hx hs hr
  go_enter Tryz.func90, Tryz.ntmps90
  go_wp2_with fail
  refine (Q.find_any _ v s.idx key _ (.at x v s.idx (HX.out.below HA.out (Nat.le_refl _))) hl).mono ?_
  rintro e w1 ⟨rfl, hb1⟩
  rw [HR.out]
  have HZ := Lib.hid ((Blk.new w #[.int .u64 0, .int .i64 0, .int .i64 0, .int .u32 0, .bool false] 124).below hb1 (by simp))
  have HB1 := Lib.hid (HA.out.trans (hb1.mono HA.out.size))
  have hlt : w.heap.size < w1.heap.size := by have := hb1.size; simp at this; omega
  clear hb1 c0 c1 c2 c3 c4 c5 c6 c7 f
  obtain ⟨z0, z1, z2, z3, z4, zf⟩ := Q.blk5_facts HZ.out
  cases r with
  | none =>
    rw [show Q.foundE (none : Option Pos) = .iface 59 (.int .i64 6) from rfl, Option.getD_none, show Q.pval pzero = .agg #[.int .u64 0, .int .i64 0, .int .i64 0, .int .u32 0, .bool false] from rfl]
    go_wp2
    have hF := set5_facts HZ.out HB1.out (.int .u64 0) (.int .i64 0) (.int .i64 0) (.int .u32 0) (.bool false) (.cells #[.int .u64 0, .int .i64 0, .int .i64 0, .int .u32 0, .bool false] 124)
    unfold Q.set5 at hF
    obtain ⟨y0, y1, y2, y3, y4, yb⟩ := hF
    exact bodyPost_ret (v := .tuple #[Q.pval pzero, .int .i64 0]) (by simp [results, Tryz.results90, go_sem, y0, y1, y2, y3, y4, pzero]) rfl ⟨rfl, yb⟩
  | some q =>
    obtain ⟨qk, qo, ql, qc, qg⟩ := q
    rw [show Q.foundE (some (⟨qk, qo, ql, qc, qg⟩ : Pos)) = .nilIface from rfl, Option.getD_some]
    cases qg with
    | true =>
      go_wp2
      have hF := set5_facts HZ.out HB1.out (.int .u64 (qk : Int)) (.int .i64 qo) (.int .i64 ql) (.int .u32 (qc : Int)) (.bool true) (.cells #[.int .u64 (qk : Int), .int .i64 qo, .int .i64 ql, .int .u32 (qc : Int), .bool true] 124)
      unfold Q.set5 at hF
      obtain ⟨y0, y1, y2, y3, y4, yb⟩ := hF
      exact bodyPost_ret (v := .tuple #[Q.pval ⟨qk, qo, ql, qc, true⟩, .int .i64 1]) (by simp [results, Tryz.results90, go_sem, y0, y1, y2, y3, y4]) rfl ⟨rfl, yb⟩
    | false =>
      go_wp2
      have hF := set5_facts HZ.out HB1.out (.int .u64 (qk : Int)) (.int .i64 qo) (.int .i64 ql) (.int .u32 (qc : Int)) (.bool false) (.cells #[.int .u64 (qk : Int), .int .i64 qo, .int .i64 ql, .int .u32 (qc : Int), .bool false] 124)
      unfold Q.set5 at hF
      obtain ⟨y0, y1, y2, y3, y4, yb⟩ := hF
      exact bodyPost_ret (v := .tuple #[Q.pval ⟨qk, qo, ql, qc, false⟩, .int .i64 2]) (by simp [results, Tryz.results90, go_sem, y0, y1, y2, y3, y4]) rfl ⟨rfl, yb⟩

/-- What a call by a key and a cookie meets, and the position. -/
def blobN (o : Option Pos) (c : Nat) : Nat := match o with
  | none => 6
  | some p => if p.gone = true then 7 else if p.cookie ≠ c then 9 else 0
set_option maxRecDepth 100000 in
set_option maxHeartbeats 1000000 in
theorem blob_bad (g p x : Nat) (v : Value) (s : Vst) (key c : Nat) (w : World) (hs : s.Ok) (hb : Blk w g (vcells p x s) 86) (hx : Q.At w x v s.idx) (hn : blobN (fnd s.idx key) c ≠ 0) :
    Calls Tryz.prog 93 #[.pointer (some ⟨g, 0, none⟩), .int .u64 (key : Int), .int .u32 (c : Int)] w fun e w' =>
      e = .returned (.tuple #[Q.pval pzero, ercode (blobN (fnd s.idx key) c)]) ∧ Below w.heap.size w w' := by
  have HB := Lib.hid hb
  have HX := Lib.hid hx
  have HS := Lib.hid hs
  have HA := Lib.hid ((below_alloc w (.cells #[.int .u64 0, .int .i64 0, .int .i64 0, .int .u32 0, .bool false] 124)))
  have HC := Lib.hid (find_v g p x v s key _ hs (hb.below HA.out hb.lt) (hx.below HA.out (Nat.le_refl _)))
  obtain ⟨r, hr⟩ : ∃ r, fnd s.idx key = r := ⟨_, rfl⟩
  rw [hr] at HC hn ⊢
  clear hb hx hs hr
  go_enter Tryz.func93, Tryz.ntmps93
  go_wp2_with fail
  refine HC.out.mono ?_
  rintro e w1 ⟨rfl, hb1⟩
  have HZ := Lib.hid ((Blk.new w #[.int .u64 0, .int .i64 0, .int .i64 0, .int .u32 0, .bool false] 124).below hb1 (by simp))
  have HB1 := Lib.hid (HA.out.trans (hb1.mono HA.out.size))
  have hlt : w.heap.size < w1.heap.size := by have := hb1.size; simp at this; omega
  clear hb1 HC
  obtain ⟨z0, z1, z2, z3, z4, zf⟩ := Q.blk5_facts HZ.out
  cases r with
  | none =>
    rw [Option.getD_none, show ((hasN none : Nat) : Int) = 0 from rfl, show Q.pval pzero = .agg #[.int .u64 0, .int .i64 0, .int .i64 0, .int .u32 0, .bool false] from rfl]
    go_wp2
    have hF := set5_facts HZ.out HB1.out (.int .u64 0) (.int .i64 0) (.int .i64 0) (.int .u32 0) (.bool false) (.cells #[.int .u64 0, .int .i64 0, .int .i64 0, .int .u32 0, .bool false] 124)
    unfold Q.set5 at hF
    obtain ⟨y0, y1, y2, y3, y4, yb⟩ := hF
    exact bodyPost_ret (v := .tuple #[Q.pval pzero, ercode 6]) (by simp [results, Tryz.results93, go_sem, y0, y1, y2, y3, y4, pzero]) rfl ⟨rfl, yb⟩
  | some q =>
    obtain ⟨qk, qo, ql, qc, qg⟩ := q
    rw [Option.getD_some]
    cases qg with
    | true =>
      rw [show ((hasN (some (⟨qk, qo, ql, qc, true⟩ : Pos)) : Nat) : Int) = 1 from rfl]
      go_wp2
      have hF := set5_facts HZ.out HB1.out (.int .u64 0) (.int .i64 0) (.int .i64 0) (.int .u32 0) (.bool false) (.cells #[.int .u64 (qk : Int), .int .i64 qo, .int .i64 ql, .int .u32 (qc : Int), .bool true] 124)
      unfold Q.set5 at hF
      obtain ⟨y0, y1, y2, y3, y4, yb⟩ := hF
      exact bodyPost_ret (v := .tuple #[Q.pval pzero, ercode 7]) (by simp [results, Tryz.results93, go_sem, y0, y1, y2, y3, y4, pzero]) rfl ⟨rfl, yb⟩
    | false =>
      rw [show ((hasN (some (⟨qk, qo, ql, qc, false⟩ : Pos)) : Nat) : Int) = 2 from rfl]
      have hc : ¬ qc = c := fun e => hn (by simp [blobN, e])
      have hr9 : blobN (some (⟨qk, qo, ql, qc, false⟩ : Pos)) c = 9 := by simp [blobN, hc]
      go_wp2
      have hF := set5_facts HZ.out HB1.out (.int .u64 0) (.int .i64 0) (.int .i64 0) (.int .u32 0) (.bool false) (.cells #[.int .u64 (qk : Int), .int .i64 qo, .int .i64 ql, .int .u32 (qc : Int), .bool false] 124)
      unfold Q.set5 at hF
      obtain ⟨y0, y1, y2, y3, y4, yb⟩ := hF
      exact bodyPost_ret (v := .tuple #[Q.pval pzero, ercode 9]) (by simp [results, Tryz.results93, go_sem, y0, y1, y2, y3, y4, pzero]) rfl ⟨by rw [hr9], yb⟩
set_option maxRecDepth 100000 in
set_option maxHeartbeats 1000000 in
theorem blob_ok (g p x : Nat) (v : Value) (s : Vst) (key c : Nat) (q : Pos) (w : World) (hs : s.Ok) (hb : Blk w g (vcells p x s) 86) (hx : Q.At w x v s.idx) (hf : fnd s.idx key = some q) (hn : blobN (some q) c = 0) :
    Calls Tryz.prog 93 #[.pointer (some ⟨g, 0, none⟩), .int .u64 (key : Int), .int .u32 (c : Int)] w fun e w' =>
      e = .returned (.tuple #[Q.pval q, .nilIface]) ∧ Below w.heap.size w w' := by
  have HA := Lib.hid ((below_alloc w (.cells #[.int .u64 0, .int .i64 0, .int .i64 0, .int .u32 0, .bool false] 124)))
  have hcf := find_v g p x v s key _ hs (hb.below HA.out hb.lt) (hx.below HA.out (Nat.le_refl _))
  obtain ⟨qk, qo, ql, qc, qg⟩ := q
  have hg : qg = false := by
    cases qg with
    | true => simp [blobN] at hn
    | false => rfl
  subst hg
  have hc : qc = c := by
    simp only [blobN] at hn
    by_cases e : qc = c
    · exact e
    · simp [e] at hn
  subst hc
  rw [hf, Option.getD_some, show ((hasN (some (⟨qk, qo, ql, qc, false⟩ : Pos)) : Nat) : Int) = 2 from rfl] at hcf
  have HC := Lib.hid hcf
  clear hb hx hs hf hcf hn
  go_enter Tryz.func93, Tryz.ntmps93
  go_wp2_with fail
  refine HC.out.mono ?_
  rintro e w1 ⟨rfl, hb1⟩
  have HZ := Lib.hid ((Blk.new w #[.int .u64 0, .int .i64 0, .int .i64 0, .int .u32 0, .bool false] 124).below hb1 (by simp))
  have HB1 := Lib.hid (HA.out.trans (hb1.mono HA.out.size))
  have hlt : w.heap.size < w1.heap.size := by have := hb1.size; simp at this; omega
  clear hb1 HC
  obtain ⟨z0, z1, z2, z3, z4, zf⟩ := Q.blk5_facts HZ.out
  go_wp2
  have hF := set5_facts HZ.out HB1.out (.int .u64 (qk : Int)) (.int .i64 qo) (.int .i64 ql) (.int .u32 (qc : Int)) (.bool false) (.cells #[.int .u64 (qk : Int), .int .i64 qo, .int .i64 ql, .int .u32 (qc : Int), .bool false] 124)
  unfold Q.set5 at hF
  obtain ⟨y0, y1, y2, y3, y4, yb⟩ := hF
  exact bodyPost_ret (v := .tuple #[Q.pval ⟨qk, qo, ql, qc, false⟩, .nilIface]) (by simp [results, Tryz.results93, go_sem, y0, y1, y2, y3, y4, pzero]) rfl ⟨rfl, yb⟩

end Go.Proofs.YtllbngopfganjaaGreatDoor
end

section
namespace Go.Proofs.YtllbngopfganjaaGreatDoor
open Go.RowKit Go.Cor

theorem append_vl (w : World) (g p : Nat) (S : Nat → Prop) (d : Dsk) (k : Nat) (s : Vst) (n : ByteArray) (v : Value) (l : List UInt8) (h : Vl w g p S d k s) (hk : k + 2 ≤ 90000) (hv : IsB w v l) (hl : l.length ≤ 16777216) :
    Calls Tryz.prog 59 #[.pointer (some ⟨p, 0, none⟩), .string n, v] w fun e w' => e = .returned (cerr (d.append n l).2) ∧ Vt w w' g p S (d.append n l).1 (k + 2) s := by
  obtain ⟨Sd, h1, h2, h3⟩ := h.disk
  refine (append_u w p Sd d k n v l h1 hk hv hl).mono ?_
  rintro e w' ⟨rfl, ht⟩
  exact ⟨rfl, h3 _ _ _ ht⟩
theorem sync_vl (w : World) (g p : Nat) (S : Nat → Prop) (d : Dsk) (k : Nat) (s : Vst) (n : ByteArray) (h : Vl w g p S d k s) (hk : k + 2 ≤ 90000) :
    Calls Tryz.prog 60 #[.pointer (some ⟨p, 0, none⟩), .string n] w fun e w' => e = .returned (cerr (d.sync n).2) ∧ Vt w w' g p S (d.sync n).1 (k + 2) s := by
  obtain ⟨Sd, h1, h2, h3⟩ := h.disk
  refine (sync_u w p Sd d k n h1 hk).mono ?_
  rintro e w' ⟨rfl, ht⟩
  exact ⟨rfl, h3 _ _ _ ht⟩
set_option maxRecDepth 100000 in
set_option maxHeartbeats 1000000 in
theorem position_v (n : Ndl) (v : Value) (off : Nat) (w : World) (hv : IsB w v n.data) :
    Calls Tryz.prog 96 #[Nd.nval n v, .int .i64 (off : Int)] w fun e w' => e = .returned (Q.pval (posN n off)) ∧ Below w.heap.size w w' := by
  obtain ⟨N, hN⟩ : ∃ N, n.data.length = N := ⟨_, rfl⟩
  have hlen := fun W => Nd.len_B (P := Tryz.prog) hv hN 33 3 5 Tryz.underlying33 W
  obtain ⟨key, cookie, gone, data⟩ := n
  simp only [posN, hN]
  clear hv hN
  go_enter Tryz.func96, Tryz.ntmps96
  go_wp2
  exact bodyPost_ret (v := Q.pval ⟨key, (off : Int), (N : Int), cookie, gone⟩) (by simp [results, Tryz.results96, go_sem]) rfl ⟨rfl, ((Below.refl _ w).alloc (Nat.le_refl _) _).alloc (by simp) _⟩

end Go.Proofs.YtllbngopfganjaaGreatDoor
end

section
namespace Go.Proofs.YtllbngopfganjaaGreatDoor
open Go.RowKit Go.Cor

/-- A needle's box outlives what a call of the volume does. -/
theorem Vt.cell {S : Nat → Prop} {w w' : World} {g p k' : Nat} {d' : Dsk} {s' : Vst} (h : Vt w w' g p S d' k' s') {q : Addr} {v : Value} (hq : w.cell? q = some v) (hS : ¬ S q.block) : w'.cell? q = some v := by
  obtain ⟨S', _, h2, _⟩ := h
  exact h2.cell hq hS
theorem Vl.cells {w : World} {g p k : Nat} {S : Nat → Prop} {d : Dsk} {s : Vst} (h : Vl w g p S d k s) : w.cell? ⟨g, 0, none⟩ = some (.pointer (some ⟨p, 0, none⟩)) := by
  obtain ⟨x, v, hb, _⟩ := h.box
  exact hb.cell 0 rfl
theorem Vl.drew {w : World} {g p k : Nat} {S : Nat → Prop} {d : Dsk} {s : Vst} (h : Vl w g p S d k s) : Vl w.drew g p S d k s := h.below ((Below.refl _ w).drew) (Nat.le_refl _)
theorem Vl.drewN {w : World} {g p k : Nat} {S : Nat → Prop} {d : Dsk} {s : Vst} (h : Vl w g p S d k s) (n : Nat) : Vl (w.drewN n) g p S d k s := h.below (below_drewN (Below.refl _ w) n) (Nat.le_refl _)
theorem drewn_below {w w' : World} (h : ∃ n, w' = w.drewN n) : Below w.heap.size w w' := by
  obtain ⟨n, rfl⟩ := h
  exact below_drewN (Below.refl _ w) n
theorem file_vl (g p k : Nat) (S : Nat → Prop) (d : Dsk) (s : Vst) (w : World) (hs : s.Ok) (h : Vl w g p S d k s) :
    Calls Tryz.prog 97 #[.pointer (some ⟨g, 0, none⟩)] w fun e w' => e = .returned (.string (nmD s.num s.gen)) ∧ ∃ n, w' = w.drewN n := by
  obtain ⟨x, v, hb, _⟩ := h.box
  exact file_v g p x s w hs hb

/-- A position laid in its index, and its size. -/
theorem Vt.of_put {w w1 w2 w3 : World} {g p x k : Nat} {v v' : Value} {S Sd : Nat → Prop} {d : Dsk} {s : Vst} {n : Ndl} (hp : Vp w g p x v Sd d k s) (hS : ∀ b, S b ↔ b = g ∨ Q.own x v b ∨ Sd b) (hb : Below w.heap.size w w1)
    (ha : Q.At w2 x v' (put s.idx (posN n s.size))) (hk : Kept (Q.own x v) w1 w2) (ho : ∀ b, Q.own x v' b → Q.own x v b ∨ w1.heap.size ≤ b) (hb3 : Below w2.heap.size w2 w3) (u : Value) (hu : u = .int .i64 ((s.wrote n).size : Int)) :
    Vt w (w3.setCell ⟨g, 6, none⟩ u) g p S d k (s.wrote n) := by
  subst hu
  have hgl := hp.box.lt
  have hK : Kept (fun b => b = g) w3 (w3.setCell ⟨g, 6, none⟩ (.int .i64 ((s.wrote n).size : Int))) := (Kept.refl (fun b => b = g) w3).setCell (.inl rfl) _
  have hbox := ((hp.box.below hb hgl).kept hk hp.gx).below hb3 (Nat.lt_of_lt_of_le hgl (Nat.le_trans hb.size hk.size))
  have hgo : ¬ Q.own x v' g := fun h => by
    rcases ho g h with h | h
    · exact hp.gx h
    · have := hb.size; omega
  have hxd : ∀ b, Q.own x v' b → ¬ Sd b := fun b h h2 => by
    rcases ho b h with h | h
    · exact hp.xd b h h2
    · have := hp.dk.lt b h2; have := hb.size; omega
  have hd3 := ((hp.dk.below hb (Nat.le_refl _)).kept hk (fun b h h2 => hp.xd b h2 h)).below hb3 (Nat.le_refl _)
  refine ⟨fun b => b = g ∨ Q.own x v' b ∨ Sd b, ⟨x, v', Sd, ⟨?_, ?_, ?_, hgo, hp.gd, hxd⟩, fun b => Iff.rfl⟩, ?_, fun b hb2 => ?_⟩
  · have := hbox.set 6 (.int .i64 ((s.wrote n).size : Int))
    exact this
  · rw [s.idx_wrote]
    exact (ha.below hb3 (Nat.le_refl _)).kept hK (fun b h h2 => hgo (h2 ▸ h))
  · exact hd3.kept hK (fun b h h2 => hp.gd (h2 ▸ h))
  · have k1 : Kept S w w1 := Kept.of_below hb (Nat.le_refl _)
    have k2 : Kept S w w2 := k1.trans hk (fun j hj _ => (hS j).2 (.inr (.inl hj)))
    have k3 : Kept S w w3 := k2.trans (Kept.of_below (S := fun _ => False) hb3 (Nat.le_refl _)) (fun _ h => h.elim)
    exact k3.setCell (.inl ((hS g).2 (.inl rfl))) _
  · rcases hb2 with rfl | h | h
    · exact .inl ((hS _).2 (.inl rfl))
    · rcases ho b h with h | h
      · exact .inl ((hS _).2 (.inr (.inl h)))
      · exact .inr (Nat.le_trans hb.size h)
    · exact .inl ((hS _).2 (.inr (.inr h)))

theorem Vt.join {S S1 : Nat → Prop} {wa wb w' : World} {g p k' : Nat} {d' : Dsk} {s' : Vst} (hK : Kept S wa wb) (hS : ∀ b, S1 b → S b ∨ wa.heap.size ≤ b) (h : Vt wb w' g p S1 d' k' s') : Vt wa w' g p S d' k' s' := by
  obtain ⟨S2, b1, b2, b3⟩ := h
  refine ⟨S2, b1, hK.trans b2 (fun j hj hlt => ?_), fun b hb => ?_⟩
  · rcases hS j hj with h | h
    · exact h
    · omega
  · rcases b3 b hb with h | h
    · exact hS b h
    · exact .inr (Nat.le_trans hK.size h)
theorem wk_kept {T : Nat → Prop} {wx wy : World} {g B : Nat} {a b c0 c1 c2 c3 : Value} (hk : Kept T wx wy) (hg : ¬ T g) (hB : ¬ T B)
    (K : wx.cell? ⟨g, 7, none⟩ = some a ∧ wx.cell? ⟨g, 6, none⟩ = some b ∧ wx.cell? ⟨B, 0, none⟩ = some c0 ∧ wx.cell? ⟨B, 1, none⟩ = some c1 ∧ wx.cell? ⟨B, 2, none⟩ = some c2 ∧ wx.cell? ⟨B, 3, none⟩ = some c3) :
    wy.cell? ⟨g, 7, none⟩ = some a ∧ wy.cell? ⟨g, 6, none⟩ = some b ∧ wy.cell? ⟨B, 0, none⟩ = some c0 ∧ wy.cell? ⟨B, 1, none⟩ = some c1 ∧ wy.cell? ⟨B, 2, none⟩ = some c2 ∧ wy.cell? ⟨B, 3, none⟩ = some c3 :=
  ⟨hk.cell K.1 hg, hk.cell K.2.1 hg, hk.cell K.2.2.1 hB, hk.cell K.2.2.2.1 hB, hk.cell K.2.2.2.2.1 hB, hk.cell K.2.2.2.2.2 hB⟩
set_option maxRecDepth 100000 in
set_option maxHeartbeats 1000000 in
theorem write_ok (n : Ndl) (v : Value) (g p k : Nat) (S : Nat → Prop) (d : Dsk) (s : Vst) (w : World) (hs : s.Ok) (h : Vl w g p S d k s) (hk : k + 4 ≤ 90000)
    (hv : IsB w v n.data) (hvS : ∀ b, liesB v n.data b → ¬ S b) (hn : n.fits ∧ ncheck n = 0) (hm : s.size + nlen n ≤ s.most) (hf : s.ns.length + 1 < 4096) (b : List UInt8) (hfs : Fs d k) (hd : view d (nmD s.num s.gen) = some b) (hbl : b.length = s.size) (hu : d.used + nlen n ≤ d.cap) :
    Calls Tryz.prog 91 #[.pointer (some ⟨g, 0, none⟩), Nd.nval n v] w fun e w' =>
      e = .returned .nilIface ∧ Vt w w' g p S ((d.append (nmD s.num s.gen) (nbytes n)).1.sync (nmD s.num s.gen)).1 (k + 4) (s.wrote n) := by
  have HV := Lib.hid hv
  have HVS := Lib.hid hvS
  have HS := Lib.hid hs
  have HN := Lib.hid hn
  have HVL := Lib.hid h
  have hms := hs.most
  have hnl : (nbytes n).length = nlen n := nlen_eq n
  have ha := hfs.append (l := nbytes n) hd (by rw [hnl, hbl]; omega) (by rw [hnl]; exact hu)
  have HA := Lib.hid ha
  have HY := Lib.hid (ha.2.fs.sync (ha.2.view (nmD s.num s.gen) |>.trans (if_pos rfl)))
  obtain ⟨d1, hd1⟩ : ∃ d1, (d.append (nmD s.num s.gen) (nbytes n)).1 = d1 := ⟨_, rfl⟩
  rw [hd1] at HA HY ⊢
  have HD1 := Lib.hid hd1
  obtain ⟨L, hL⟩ : ∃ L, s.idx.length = L := ⟨_, rfl⟩
  have hLl : L < 4096 := by have := s.idx_len; omega
  have HLL := Lib.hid hL
  obtain ⟨N, hN⟩ : ∃ N, nlen n = N := ⟨_, rfl⟩
  rw [hN] at hnl hm
  have HNL := Lib.hid hnl
  have HNN := Lib.hid hN
  obtain ⟨Z, hZ⟩ : ∃ Z, s.size = Z := ⟨_, rfl⟩
  have HZ := Lib.hid hZ
  rw [hZ] at hm hbl
  obtain ⟨M, hM⟩ : ∃ M, s.most = M := ⟨_, rfl⟩
  have HM := Lib.hid hM
  rw [hM] at hm hms
  have hlt := fun b hb => h.lt b hb
  have HLT := Lib.hid hlt
  clear hv hvS hs hn h ha hd1 hL hN hZ hM hlt hd hfs hu
  have hal : Below w.heap.size w (w.alloc (Nd.ncells n v 43)) := below_alloc w _
  go_enter Tryz.func91, Tryz.ntmps91
  go_wp2_with fail
  refine (Nd.put_okN n v _ (HV.out.mono hal (Nat.le_refl _)) HN.out.1 HN.out.2).mono ?_
  rintro e w1 ⟨v1, rfl, hown1, hb1⟩
  rw [HNL.out] at hown1
  have HBX := Lib.hid ((Nd.Boxed.new w n v 43).mono hb1 (by simp))
  have HB1 := Lib.hid (hal.trans (hb1.mono (by simp)))
  have hlt1 : w.heap.size < w1.heap.size := by have := hb1.size; simp at this; omega
  have HO1 := Lib.hid hown1
  have HV1 := Lib.hid (HVL.out.below HB1.out (Nat.le_refl _))
  clear hown1 hb1
  obtain ⟨x, xv, hbox, hix⟩ := HV1.out.box
  obtain ⟨c0, c1, c2, c3, c4, c5, c6, c7, fz⟩ := vbox_facts hbox
  go_wp2_with fail
  refine (Q.len_any _ xv s.idx _ (.at x xv s.idx hix) (by have := HLL.out; omega)).mono ?_
  rintro e w2 ⟨rfl, hb2⟩
  rw [HLL.out]
  obtain ⟨G, hG⟩ : ∃ G, Q.goneN s.idx = G := ⟨_, rfl⟩
  have hGL : G ≤ L := by rw [← hG, ← HLL.out]; exact Q.goneN_le _
  rw [hG]
  obtain ⟨A, hA⟩ : ∃ A : Int, (L : Int) - (G : Int) = A := ⟨_, rfl⟩
  rw [hA]
  have HB2 := Lib.hid (HB1.out.trans (hb2.mono HB1.out.size))
  have HBX2 := Lib.hid (HBX.out.mono hb2 hlt1)
  have HO2 := Lib.hid (show w2.ownsRow w.heap.size 5 1 v1 N (bvs (nbytes n)) from ownsRow_base (ownsRow_below HO1.out hb2 (Nat.le_refl _)) (by simp))
  have HV2 := Lib.hid (HV1.out.below hb2 (Nat.le_refl _))
  have hlt2 : w.heap.size < w2.heap.size := Nat.lt_of_lt_of_le hlt1 hb2.size
  clear c0 c1 c2 c3 c4 c5 c6 c7 fz hbox hix HO1 HBX HB1 HV1 hlt1 hb2 hal hG
  have HW := Lib.hid (Vl.cells HV2.out)
  obtain ⟨x2, xv2, hbox, hix⟩ := HV2.out.box
  obtain ⟨c0, _, _, _, _, c5, c6, c7, fz⟩ := vbox_facts hbox
  rw [HM.out] at c5
  rw [HZ.out] at c6
  have HBO := Lib.hid hbox
  clear hbox hix
  have hlen := fun W => len_X (P := Tryz.prog) (IsX.own HO2.out) 33 3 _ Tryz.underlying33 W
  have e1 : IntKind.i64.wrap (A + (G : Int)) = (L : Int) := by rw [IntWalk.i64_in _ (by omega)]; omega
  have e2 : decide ((4096 : Int) ≤ (L : Int)) = false := decide_eq_false (by omega)
  have e2' : decide (4096 ≤ L) = false := decide_eq_false (by omega)
  have e3 : IntKind.i64.wrap ((M : Int) - (Z : Int)) = (M : Int) - (Z : Int) := IntWalk.i64_in _ (by omega)
  have e4 : decide ((M : Int) - (Z : Int) < (N : Int)) = false := decide_eq_false (by omega)
  go_wp2
  go_quiet (fail)
  obtain ⟨w3, hw3⟩ : ∃ w3, w2.drewN nq = w3 := ⟨_, rfl⟩
  have HV3 := Lib.hid (show Vl w3.drew g p S d k s by rw [← hw3]; exact (HV2.out.drewN nq).drew)
  have HB3 := Lib.hid (show Below w.heap.size w w3 by rw [← hw3]; exact below_drewN HB2.out nq)
  have HBX3 := Lib.hid (show Nd.Boxed w3 w.heap.size n v by rw [← hw3]; exact HBX2.out)
  have HO3 := Lib.hid (show w3.ownsRow w.heap.size 5 1 v1 N (bvs (nbytes n)) by rw [← hw3]; exact HO2.out)
  have hlt3 : w.heap.size < w3.heap.size := by rw [← hw3]; exact hlt2
  have K0 : w3.drew.cell? ⟨g, 0, none⟩ = some (.pointer (some ⟨p, 0, none⟩)) := Vl.cells HV3.out
  have HIB := Lib.hid (show IsB w3.drew v1 (nbytes n) from IsB.own (ownsRow_below HO3.out ((Below.refl _ w3).drew) (Nat.le_refl _)) HNL.out.symm)
  clear e1 e2 e2' e3 e4 hlen c0 c5 c6 c7 fz HW HBO HV2 HB2 HBX2 HO2 hlt2
  go_wp2_with fail
  rw [hw3]
  clear hw3
  have hNb : N ≤ 16777216 := by omega
  go_region_held3 (fun wx => wx.cell? ⟨g, 0, none⟩ = some (.pointer (some ⟨p, 0, none⟩))) (first | exact K0 | exact Ka | exact Kb) (first | (go_at_call 97; refine (file_vl g p k S d s w3.drew HS.out HV3.out).mono ?_; rintro e wa ⟨rfl, hna⟩; have HVa := Lib.hid (HV3.out.below (drewn_below hna) (Nat.le_refl _)); have HIa := Lib.hid (HIB.out.mono (drewn_below hna) (Nat.le_refl _)); have HBa := Lib.hid (drewn_below hna); have Ka := Vl.cells HVa.out) | (go_at_call 59; refine (append_vl wa g p S d k s (nmD s.num s.gen) v1 (nbytes n) HVa.out (by omega) HIa.out (by rw [HNL.out]; exact hNb)).mono ?_; rintro e wb ⟨rfl, ht⟩; rw [HA.out.1, cerr_0]; have HTb := Lib.hid ht; have Kb := Vl.cells ht.choose_spec.1; clear ht))
  clear K0 Ka Kb
  have HT := HTb.out
  rw [HD1.out] at HT
  obtain ⟨S1, hV1, hK1, hS1⟩ := HT
  have hwa : w.heap.size < wa.heap.size := Nat.lt_of_lt_of_le hlt3 HBa.out.size
  have hB0 : ¬ S w.heap.size := fun h => by have := HLT.out _ h; omega
  have hbx : Nd.Boxed wb w.heap.size n v := by
    obtain ⟨b0, b1, b2, b3⟩ := HBX3.out.mono (((Below.refl _ w3).drew).trans HBa.out) hlt3
    have h2 := hK1
    exact ⟨h2.cell b0 hB0, h2.cell b1 hB0, h2.cell b2 hB0, h2.cell b3 hB0⟩
  obtain ⟨x3, xv3, Sd3, hp3, hS3⟩ := hV1
  obtain ⟨_, _, _, _, _, _, c6, c7, _⟩ := vbox_facts hp3.box
  rw [HZ.out] at c6
  obtain ⟨b0, b1, b2, b3⟩ := hbx
  have K0 : wb.drew.cell? ⟨g, 7, none⟩ = some (.pointer (some ⟨x3, 0, none⟩)) ∧ wb.drew.cell? ⟨g, 6, none⟩ = some (.int .i64 (Z : Int)) ∧ wb.drew.cell? ⟨w.heap.size, 0, none⟩ = some (.int .u64 (n.key : Int)) ∧ wb.drew.cell? ⟨w.heap.size, 1, none⟩ = some (.int .u32 (n.cookie : Int)) ∧ wb.drew.cell? ⟨w.heap.size, 2, none⟩ = some (.bool n.gone) ∧ wb.drew.cell? ⟨w.heap.size, 3, none⟩ = some v := ⟨c7, c6, b0, b1, b2, b3⟩
  have HP3 := Lib.hid hp3
  have HS3 := Lib.hid hS3
  have HK1 := Lib.hid hK1
  have HS1 := Lib.hid hS1
  have hBw : w.heap.size < wb.heap.size := Nat.lt_of_lt_of_le hwa hK1.size
  have hnox : ¬ Q.own x3 xv3 w.heap.size := fun h => by
    rcases HS1.out _ ((HS3.out _).2 (.inr (.inl h))) with h1 | h1
    · exact hB0 h1
    · omega
  have HVb := Lib.hid (show IsB wb.drew v n.data from ((HV.out.mono ((HB3.out.trans ((Below.refl _ w3).drew.mono (Nat.le_of_lt hlt3))).trans (HBa.out.mono (Nat.le_of_lt hlt3))) (Nat.le_refl _)).kept hK1 HVS.out).mono ((Below.refl _ wb).drew) (Nat.le_refl _))
  have hpa := HP3.out.ix.below ((Below.refl _ wb).drew) (Nat.le_refl _)
  have HIX := Lib.hid hpa
  clear hp3 hS3 hK1 hS1 hpa c6 c7 b0 b1 b2 b3
  go_wp2_with fail
  go_region_held3 (fun wx => wx.cell? ⟨g, 7, none⟩ = some (.pointer (some ⟨x3, 0, none⟩)) ∧ wx.cell? ⟨g, 6, none⟩ = some (.int .i64 (Z : Int)) ∧ wx.cell? ⟨w.heap.size, 0, none⟩ = some (.int .u64 (n.key : Int)) ∧ wx.cell? ⟨w.heap.size, 1, none⟩ = some (.int .u32 (n.cookie : Int)) ∧ wx.cell? ⟨w.heap.size, 2, none⟩ = some (.bool n.gone) ∧ wx.cell? ⟨w.heap.size, 3, none⟩ = some v) (first | exact K0 | exact Kc | exact Kd) (first | (go_at_call 96; refine (position_v n v Z wb.drew HVb.out).mono ?_; rintro e wc ⟨rfl, hbc⟩; have Kc := wk_kept (Kept.of_below (S := fun _ => False) hbc (Nat.le_refl _)) (fun h => h) (fun h => h) K0) | (go_at_call 65; refine (Q.put_any x3 xv3 s.idx (posN n Z) wc (HIX.out.below hbc (Nat.le_refl _)) (by rw [HLL.out]; exact hLl)).mono ?_; rintro e wd ⟨rfl, hput⟩; have HPUT := Lib.hid hput; have Kd := wk_kept hput.choose_spec.2.1 HP3.out.gx hnox Kc; clear hput))
  obtain ⟨v3, ha3, hk3, ho3⟩ := HPUT.out
  have c6 := Kd.2.1
  have fz : wd.frozen? ⟨g, 6, none⟩ = false := (((HP3.out.box.below (((Below.refl _ wb).drew).trans hbc) HP3.out.box.lt).kept hk3 HP3.out.gx)).free 6
  have hlen := fun W => len_X (P := Tryz.prog) (IsX.own HO3.out) 33 3 _ Tryz.underlying33 W
  have e5 : IntKind.i64.wrap ((Z : Int) + (N : Int)) = (Z : Int) + (N : Int) := IntWalk.i64_in _ (by omega)
  have HT4 := Lib.hid (Vt.of_put (n := n) HP3.out HS3.out (((Below.refl _ wb).drew).trans hbc) (by rw [HZ.out]; exact ha3) hk3 ho3 (Below.refl _ wd) (.int .i64 ((Z : Int) + (N : Int))) (by rw [s.size_wrote, HZ.out, HNN.out]; rfl))
  clear ha3 hk3 ho3 K0 Kc Kd
  go_wp2_with fail
  obtain ⟨we, hwe⟩ : ∃ we, wd.setCell ⟨g, 6, none⟩ (.int .i64 ((Z : Int) + (N : Int))) = we := ⟨_, rfl⟩
  rw [hwe] at HT4
  rw [hwe]
  have HT5 := Lib.hid (Vt.join HK1.out HS1.out HT4.out)
  clear HT4 c6 fz hlen e5 hwe HPUT
  obtain ⟨S4, hV4, hK4, hS4⟩ := HT5.out
  have HK4 := Lib.hid hK4
  have HS4 := Lib.hid hS4
  have HV4 := Lib.hid hV4.drew
  have HSO := Lib.hid (HS.out.wrote HN.out (by rw [HZ.out, HNN.out, HM.out]; exact hm) hf)
  have K0 := Vl.cells HV4.out
  clear hV4 hK4 hS4
  go_region_held3 (fun wx => wx.cell? ⟨g, 0, none⟩ = some (.pointer (some ⟨p, 0, none⟩))) (first | exact K0 | exact Ka | exact Kb) (first | (go_at_call 97; refine (file_vl g p (k + 2) S4 d1 (s.wrote n) we.drew HSO.out HV4.out).mono ?_; rintro e wf ⟨rfl, hnf⟩; have HVf := Lib.hid (HV4.out.below (drewn_below hnf) (Nat.le_refl _)); have HBf := Lib.hid (drewn_below hnf); have Ka := Vl.cells HVf.out) | (go_at_call 60; refine (sync_vl wf g p S4 d1 (k + 2) (s.wrote n) (nmD s.num s.gen) HVf.out (by omega)).mono ?_; rintro e wg ⟨rfl, ht⟩; rw [HY.out.1, cerr_0]; have HTg := Lib.hid ht; have Kb := Vl.cells ht.choose_spec.1; clear ht))
  go_wp2
  go_ret
  exact ⟨rfl, Vt.pre ((HB3.out.trans ((Below.refl _ w3).drew.mono (Nat.le_of_lt hlt3))).trans (HBa.out.mono (Nat.le_of_lt hlt3))) (Vt.join HK4.out HS4.out (Vt.pre (((Below.refl _ we).drew).trans HBf.out) HTg.out))⟩

end Go.Proofs.YtllbngopfganjaaGreatDoor
end

section
namespace Go.Proofs.YtllbngopfganjaaGreatDoor
open Go.RowKit Go.Cor

/-- What a volume has on its disk. -/
structure Lies (d : Dsk) (k : Nat) (s : Vst) : Prop where
  fs : Fs d k
  data : ∃ X : List UInt8, X.length = 16 ∧ view d (nmD s.num s.gen) = some (X ++ nsB s.ns)
  man : ∃ m : List UInt8, view d (nmM s.num) = some m ∧ m.length = 24
  shad : view d (nmS s.num) = none
/-- A volume behind a call: where it lies, and what its disk is. -/
def VolT (w w' : World) (g p : Nat) (S : Nat → Prop) (d : Dsk) (s : Vst) (k' : Nat) (s' : Vst) : Prop :=
  ∃ d', Vt w w' g p S d' k' s' ∧ Lies d' k' s' ∧ s'.Ok ∧ d'.cap = d.cap ∧ d'.now.length = d.now.length ∧ d'.used + s.size = d.used + s'.size ∧ ∀ m, m ≠ nmD s.num s.gen → m ≠ nmM s.num → m ≠ nmS s.num → view d' m = view d m
theorem nmD_nmM (v g u : Nat) : nmM u ≠ nmD v g := fun h => by have := congrArg ByteArray.size h; cases this
theorem nmD_nmS (v g u : Nat) : nmS u ≠ nmD v g := fun h => by have := congrArg (fun x : ByteArray => x.data[0]?) h; cases this
theorem nmM_nmS (v u : Nat) : nmS u ≠ nmM v := fun h => by have := congrArg ByteArray.size h; cases this
theorem okB_dig {n : Nat} (h : n < 10) : okB (dig n) = true := by
  match n, h with
  | 0, _ | 1, _ | 2, _ | 3, _ | 4, _ | 5, _ | 6, _ | 7, _ | 8, _ | 9, _ => decide
theorem isNm_D {v g : Nat} (hv : v < 10) (hg : g < 10) : isNm (nmD v g) = true := by
  unfold isNm nmD
  simp [okB_dig hv, okB_dig hg, ByteArray.size]
  decide
theorem isNm_M {v : Nat} (hv : v < 10) : isNm (nmM v) = true := by
  unfold isNm nmM
  simp [okB_dig hv, ByteArray.size]
  decide
theorem isNm_S {v : Nat} (hv : v < 10) : isNm (nmS v) = true := by
  unfold isNm nmS
  simp [okB_dig hv, ByteArray.size]
  decide
theorem Lies.more {d : Dsk} {k k' : Nat} {s : Vst} (h : Lies d k s) (hk : k ≤ k') : Lies d k' s := ⟨h.fs.more hk, h.data, h.man, h.shad⟩
theorem VolT.self {w w' : World} {g p k k' : Nat} {S : Nat → Prop} {d : Dsk} {s : Vst} (h : Vl w g p S d k s) (hl : Lies d k s) (hs : s.Ok) (hb : Below w.heap.size w w') (hk : k ≤ k') (hk' : k' ≤ 90000) : VolT w w' g p S d s k' s :=
  ⟨d, Vt.self h hb hk hk', hl.more hk, hs, rfl, rfl, rfl, fun _ _ _ _ => rfl⟩
theorem VolT.pre {w wa w' : World} {g p k' : Nat} {S : Nat → Prop} {d : Dsk} {s s' : Vst} (hb : Below w.heap.size w wa) (h : VolT wa w' g p S d s k' s') : VolT w w' g p S d s k' s' := by
  obtain ⟨d', h1, h2⟩ := h
  exact ⟨d', Vt.pre hb h1, h2⟩
theorem VolT.post {w w1 w' : World} {g p k' : Nat} {S : Nat → Prop} {d : Dsk} {s s' : Vst} (h : VolT w w1 g p S d s k' s') (hb : Below w1.heap.size w1 w') : VolT w w' g p S d s k' s' := by
  obtain ⟨d', h1, h2⟩ := h
  exact ⟨d', Vt.post h1 hb, h2⟩

theorem write_v (n : Ndl) (v : Value) (g p k : Nat) (S : Nat → Prop) (d : Dsk) (s : Vst) (w : World) (hs : s.Ok) (h : Vl w g p S d k s) (hl : Lies d k s) (hk : k + 4 ≤ 90000)
    (hv : IsB w v n.data) (hvS : ∀ b, liesB v n.data b → ¬ S b) (hn : n.fits ∧ ncheck n = 0) (hm : s.size + nlen n ≤ s.most) (hf : s.ns.length + 1 < 4096) (hu : d.used + nlen n ≤ d.cap) :
    Calls Tryz.prog 91 #[.pointer (some ⟨g, 0, none⟩), Nd.nval n v] w fun e w' =>
      e = .returned .nilIface ∧ VolT w w' g p S d s (k + 4) (s.wrote n) := by
  obtain ⟨X, hX, hd⟩ := hl.data
  have hbl : (X ++ nsB s.ns).length = s.size := by rw [List.length_append, hX, length_nsB]; rfl
  have hms := hs.most
  have ha := hl.fs.append (l := nbytes n) hd (by rw [hbl, nlen_eq]; omega) (by rw [nlen_eq]; exact hu)
  have hy := ha.2.fs.sync ((ha.2.view (nmD s.num s.gen)).trans (if_pos rfl))
  refine (write_ok n v g p k S d s w hs h hk hv hvS hn hm hf _ hl.fs hd hbl hu).mono ?_
  rintro e w' ⟨rfl, ht⟩
  have hw := ha.2.trans hy.2
  have hvw : ∀ m, view ((d.append (nmD s.num s.gen) (nbytes n)).1.sync (nmD s.num s.gen)).1 m = if m = nmD s.num s.gen then some (X ++ nsB s.ns ++ nbytes n) else view d m := fun m => (hw.view m).trans (ha.2.view m)
  refine ⟨rfl, _, ht, ⟨hw.fs, ⟨X, hX, ?_⟩, ?_, ?_⟩, hs.wrote hn hm hf, hw.cap, ?_, ?_, fun m h1 _ _ => by rw [hvw, if_neg h1]⟩
  · show view _ (nmD s.num s.gen) = some (X ++ nsB (s.ns ++ [n]))
    rw [hvw, if_pos rfl, nsB_snoc, List.append_assoc]
  · obtain ⟨m, h1, h2⟩ := hl.man
    exact ⟨m, by show view _ (nmM s.num) = some m; rw [hvw, if_neg (nmD_nmM _ _ _), h1], h2⟩
  · show view _ (nmS s.num) = none
    rw [hvw, if_neg (nmD_nmS _ _ _), hl.shad]
  · rw [hw.len, ha.2.len]
  · rw [hw.used, ha.2.used, s.size_wrote, nlen_eq]
    omega

theorem cell_below {w w' : World} {B b o : Nat} {v : Value} (hb : Below B w w') (h : b < B) (hc : w.cell? ⟨b, o, none⟩ = some v) : w'.cell? ⟨b, o, none⟩ = some v := (World.cell?_of_block (w := w) (hb.block b h)).trans hc
/-- What the index says of a key, by what was written. -/
theorem hasN_newest (s : Vst) (k : Nat) : hasN (fnd s.idx k) = match newest s.ns k with
    | none => 0
    | some n => if n.gone = true then 1 else 2 := by
  cases h : newest s.ns k with
  | none => rw [Vst.fnd_none h]; rfl
  | some n =>
    obtain ⟨a, b, _, h2⟩ := Vst.fnd_some h
    rw [h2]
    rfl
theorem blobN_look (s : Vst) (k c : Nat) : blobN (fnd s.idx k) c = s.look k c := by
  unfold Vst.look
  cases h : newest s.ns k with
  | none => rw [Vst.fnd_none h]; rfl
  | some n =>
    obtain ⟨a, b, _, h2⟩ := Vst.fnd_some h
    rw [h2]
    rfl
theorem fb_put {w w1 : World} {n : Ndl} {v : Value} {T : TypeId} (hb : Below (w.alloc (Nd.ncells n v T)).heap.size (w.alloc (Nd.ncells n v T)) w1) : Nd.Boxed w1 w.heap.size n v ∧ Below w.heap.size w w1 ∧ w.heap.size < w1.heap.size :=
  ⟨(Nd.Boxed.new w n v T).mono hb (by simp), (below_alloc w _).trans (hb.mono (by simp)), by have := hb.size; simp at this; omega⟩

/-- No object of a call: what is wanted of a volume ahead of one. -/
structure Vready (w : World) (g p : Nat) (S : Nat → Prop) (d : Dsk) (k : Nat) (s : Vst) : Prop where
  vl : Vl w g p S d k s
  lies : Lies d k s
  ok : s.Ok
  few : k + 12 ≤ 90000
  names : d.now.length < 60
theorem Vready.same {w w' : World} {g p k : Nat} {S : Nat → Prop} {d : Dsk} {s : Vst} (h : Vready w g p S d k s) (hb : Below w.heap.size w w') (k' : Nat) (hk : k ≤ k') (hk' : k' ≤ k + 12) : VolT w w' g p S d s k' s := VolT.self h.vl h.lies h.ok hb hk (by have := h.few; omega)
theorem Vready.box {w : World} {g p k : Nat} {S : Nat → Prop} {d : Dsk} {s : Vst} (h : Vready w g p S d k s) : ∃ x v, Blk w g (vcells p x s) 86 ∧ Q.At w x v s.idx := h.vl.box
theorem Vready.below {w w' : World} {g p k : Nat} {S : Nat → Prop} {d : Dsk} {s : Vst} (h : Vready w g p S d k s) (hb : Below w.heap.size w w') : Vready w' g p S d k s := ⟨h.vl.below hb (Nat.le_refl _), h.lies, h.ok, h.few, h.names⟩
/-- There is room for a needle. -/
structure Room (s : Vst) (d : Dsk) (n : Ndl) : Prop where
  most : s.size + nlen n ≤ s.most
  few : s.ns.length + 1 < 4096
  cap : d.used + nlen n ≤ d.cap

set_option maxRecDepth 100000 in
set_option maxHeartbeats 1000000 in
theorem put_g (key cookie : Nat) (data : List UInt8) (v : Value) (g p k : Nat) (S : Nat → Prop) (d : Dsk) (s : Vst) (w : World) (h : Vready w g p S d k s) :
    Calls Tryz.prog 68 #[.pointer (some ⟨g, 0, none⟩), Nd.nval ⟨key, cookie, true, data⟩ v] w fun e w' =>
      e = .returned (cerr 1) ∧ VolT w w' g p S d s (k + 4) s := by
  have HT := Lib.hid (h.same (below_alloc w (Nd.ncells ⟨key, cookie, true, data⟩ v 43)) (k + 4) (by omega) (by omega))
  clear h
  go_enter Tryz.func68, Tryz.ntmps68
  go_wp2
  go_ret
  exact ⟨rfl, HT.out⟩
set_option maxRecDepth 100000 in
set_option maxHeartbeats 1000000 in
theorem put_b (key cookie : Nat) (data : List UInt8) (v : Value) (g p k : Nat) (S : Nat → Prop) (d : Dsk) (s : Vst) (w : World) (h : Vready w g p S d k s) (hv : IsB w v data) (hc : ncheck ⟨key, cookie, false, data⟩ ≠ 0) :
    Calls Tryz.prog 68 #[.pointer (some ⟨g, 0, none⟩), Nd.nval ⟨key, cookie, false, data⟩ v] w fun e w' =>
      e = .returned (cerr (ncheck ⟨key, cookie, false, data⟩)) ∧ VolT w w' g p S d s (k + 4) s := by
  have HVV := Lib.hid (show IsB (w.alloc (Nd.ncells ⟨key, cookie, false, data⟩ v 43)) v data from hv.mono (below_alloc w _) (Nat.le_refl _))
  have HH := Lib.hid h
  have HC := Lib.hid hc
  obtain ⟨q, hq⟩ : ∃ q, ncheck ⟨key, cookie, false, data⟩ = q := ⟨_, rfl⟩
  have HQ := Lib.hid hq
  rw [hq] at HC ⊢
  rw [cerr_pos HC.out]
  clear h hv hc hq
  go_enter Tryz.func68, Tryz.ntmps68
  go_wp2_with fail
  refine (Nd.check_any ⟨key, cookie, false, data⟩ v _ HVV.out).mono ?_
  rintro e w1 ⟨rfl, hb1⟩
  rw [HQ.out, Nd.cerr_pos HC.out]
  have HB1 := Lib.hid (fb_put (n := ⟨key, cookie, false, data⟩) hb1).2.1
  clear hb1
  go_wp2
  go_ret
  exact ⟨rfl, HH.out.same HB1.out _ (by omega) (by omega)⟩
set_option maxRecDepth 100000 in
set_option maxHeartbeats 1000000 in
theorem put_s (key cookie : Nat) (data : List UInt8) (v : Value) (g p k : Nat) (S : Nat → Prop) (d : Dsk) (s : Vst) (w : World) (h : Vready w g p S d k s) (hv : IsB w v data) (hc : ncheck ⟨key, cookie, false, data⟩ = 0) (hsh : s.shut = true) :
    Calls Tryz.prog 68 #[.pointer (some ⟨g, 0, none⟩), Nd.nval ⟨key, cookie, false, data⟩ v] w fun e w' =>
      e = .returned (cerr 10) ∧ VolT w w' g p S d s (k + 4) s := by
  have HVV := Lib.hid (show IsB (w.alloc (Nd.ncells ⟨key, cookie, false, data⟩ v 43)) v data from hv.mono (below_alloc w _) (Nat.le_refl _))
  have HH := Lib.hid h
  have HC := Lib.hid hc
  have HSH := Lib.hid hsh
  clear h hv hc hsh
  go_enter Tryz.func68, Tryz.ntmps68
  go_wp2_with fail
  refine (Nd.check_any ⟨key, cookie, false, data⟩ v _ HVV.out).mono ?_
  rintro e w1 ⟨rfl, hb1⟩
  rw [HC.out, Nd.cerr_0]
  have HB1 := Lib.hid (fb_put (n := ⟨key, cookie, false, data⟩) hb1).2.1
  obtain ⟨x, xv, hbox, hix⟩ := (HH.out.below HB1.out).box
  obtain ⟨_, _, _, _, c4, _, _, _, _⟩ := vbox_facts hbox
  rw [HSH.out] at c4
  clear hb1 hbox hix
  go_wp2
  go_ret
  exact ⟨rfl, HH.out.same HB1.out _ (by omega) (by omega)⟩
set_option maxRecDepth 100000 in
set_option maxHeartbeats 1000000 in
theorem put_t (key cookie : Nat) (data : List UInt8) (v : Value) (g p k : Nat) (S : Nat → Prop) (d : Dsk) (s : Vst) (w : World) (h : Vready w g p S d k s) (hv : IsB w v data) (hc : ncheck ⟨key, cookie, false, data⟩ = 0) (hsh : s.shut = false) (q : Nat) (hq : q = 1 ∨ q = 2) (hf : hasN (fnd s.idx key) = q) :
    Calls Tryz.prog 68 #[.pointer (some ⟨g, 0, none⟩), Nd.nval ⟨key, cookie, false, data⟩ v] w fun e w' =>
      e = .returned (cerr (if q = 1 then 7 else 8)) ∧ VolT w w' g p S d s (k + 4) s := by
  have HVV := Lib.hid (show IsB (w.alloc (Nd.ncells ⟨key, cookie, false, data⟩ v 43)) v data from hv.mono (below_alloc w _) (Nat.le_refl _))
  have HH := Lib.hid h
  have HC := Lib.hid hc
  have HSH := Lib.hid hsh
  have HF := Lib.hid hf
  clear h hv hc hsh hf
  go_enter Tryz.func68, Tryz.ntmps68
  go_wp2_with fail
  refine (Nd.check_any ⟨key, cookie, false, data⟩ v _ HVV.out).mono ?_
  rintro e w1 ⟨rfl, hb1⟩
  rw [HC.out, Nd.cerr_0]
  have HX1 := Lib.hid (fb_put (n := ⟨key, cookie, false, data⟩) hb1)
  obtain ⟨⟨b0, b1, b2, b3⟩, hB1, hlt1⟩ := HX1.out
  have HB1 := Lib.hid hB1
  obtain ⟨x, xv, hbox, hix⟩ := (HH.out.below HB1.out).box
  obtain ⟨_, _, _, _, c4, _, _, _, _⟩ := vbox_facts hbox
  rw [HSH.out] at c4
  have HFV := Lib.hid (find_v g p x xv s key _ HH.out.ok hbox hix)
  clear hb1 hB1 hbox hix HX1
  go_wp2_with fail
  refine HFV.out.mono ?_
  rintro e w2 ⟨rfl, hb2⟩
  rw [HF.out]
  have HB2 := Lib.hid (HB1.out.trans (hb2.mono HB1.out.size))
  have HT := Lib.hid (fun o2 => HH.out.same (HB2.out.alloc HB2.out.size o2) (k + 4) (by omega) (by omega))
  clear hb2 c4 b0 b1 b2 b3 HFV
  rcases hq with rfl | rfl
  · go_wp2
    go_ret
    exact ⟨rfl, HT.out _⟩
  · go_wp2
    go_ret
    exact ⟨rfl, HT.out _⟩
set_option maxRecDepth 100000 in
set_option maxHeartbeats 1000000 in
theorem put_n (key cookie : Nat) (data : List UInt8) (v : Value) (g p k : Nat) (S : Nat → Prop) (d : Dsk) (s : Vst) (w : World) (h : Vready w g p S d k s) (hv : IsB w v data) (hvS : ∀ b, liesB v data b → ¬ S b) (hn : Ndl.fits ⟨key, cookie, false, data⟩) (hc : ncheck ⟨key, cookie, false, data⟩ = 0) (hsh : s.shut = false) (hf : hasN (fnd s.idx key) = 0) (hr : Room s d ⟨key, cookie, false, data⟩) :
    Calls Tryz.prog 68 #[.pointer (some ⟨g, 0, none⟩), Nd.nval ⟨key, cookie, false, data⟩ v] w fun e w' =>
      e = .returned .nilIface ∧ VolT w w' g p S d s (k + 4) (s.wrote ⟨key, cookie, false, data⟩) := by
  have HVV := Lib.hid (show IsB (w.alloc (Nd.ncells ⟨key, cookie, false, data⟩ v 43)) v data from hv.mono (below_alloc w _) (Nat.le_refl _))
  have HV := Lib.hid hv
  have HH := Lib.hid h
  have HC := Lib.hid hc
  have HSH := Lib.hid hsh
  have HF := Lib.hid hf
  have HVS := Lib.hid hvS
  have HNF := Lib.hid hn
  have HR := Lib.hid hr
  clear h hv hc hsh hf hvS hn hr
  go_enter Tryz.func68, Tryz.ntmps68
  go_wp2_with fail
  refine (Nd.check_any ⟨key, cookie, false, data⟩ v _ HVV.out).mono ?_
  rintro e w1 ⟨rfl, hb1⟩
  rw [HC.out, Nd.cerr_0]
  have HX1 := Lib.hid (fb_put (n := ⟨key, cookie, false, data⟩) hb1)
  obtain ⟨⟨b0, b1, b2, b3⟩, hB1, hlt1⟩ := HX1.out
  have HB1 := Lib.hid hB1
  obtain ⟨x, xv, hbox, hix⟩ := (HH.out.below HB1.out).box
  obtain ⟨_, _, _, _, c4, _, _, _, _⟩ := vbox_facts hbox
  rw [HSH.out] at c4
  have HFV := Lib.hid (find_v g p x xv s key _ HH.out.ok hbox hix)
  clear hb1 hB1 hbox hix
  go_wp2_with fail
  refine HFV.out.mono ?_
  rintro e w2 ⟨rfl, hb2⟩
  rw [HF.out]
  have HB2 := Lib.hid (HB1.out.trans (hb2.mono HB1.out.size))
  have HX2 := Lib.hid (HX1.out.1.mono hb2 hlt1)
  have hlt2 : w.heap.size < w2.heap.size := Nat.lt_of_lt_of_le hlt1 hb2.size
  clear hb2 c4 b0 b1 b2 b3 HFV HX1
  obtain ⟨b0, b1, b2, b3⟩ := HX2.out
  simp only at b0 b1 b2 b3
  go_wp2_with fail
  refine (write_v ⟨key, cookie, false, data⟩ v g p k S d s _ HH.out.ok (HH.out.vl.below (HB2.out.alloc HB2.out.size _) (Nat.le_refl _)) HH.out.lies (by have := HH.out.few; omega) (HV.out.mono (HB2.out.alloc HB2.out.size _) (Nat.le_refl _)) HVS.out ⟨HNF.out, HC.out⟩ HR.out.most HR.out.few HR.out.cap).mono ?_
  rintro e w3 ⟨rfl, ht⟩
  have HT := Lib.hid (VolT.pre (HB2.out.alloc HB2.out.size _) ht)
  clear ht b0 b1 b2 b3
  go_wp2
  go_ret
  exact ⟨rfl, HT.out⟩
end Go.Proofs.YtllbngopfganjaaGreatDoor
end

section
namespace Go.Proofs.YtllbngopfganjaaGreatDoor
open Go.RowKit Go.Cor

theorem del_bad {s : Vst} {k c : Nat} (h : s.look k c ≠ 0) : s.del k c = (s, s.look k c) := by unfold Vst.del; rw [if_pos h]
theorem del_shut {s : Vst} {k c : Nat} (h : s.look k c = 0) (hs : s.shut = true) : s.del k c = (s, 10) := by unfold Vst.del; rw [if_neg (by simp [h]), if_pos hs]
theorem del_ok {s : Vst} {k c : Nat} (h : s.look k c = 0) (hs : s.shut = false) (hm : s.size + nlen (grave k c) ≤ s.most) : s.del k c = (s.wrote (grave k c), 0) := by
  unfold Vst.del; rw [if_neg (by simp [h]), if_neg (by simp [hs])]
  unfold Vst.write; rw [if_neg (by omega)]
theorem look_some {s : Vst} {k c : Nat} (h : s.look k c = 0) : ∃ n a b, newest s.ns k = some n ∧ n.gone = false ∧ n.cookie = c ∧ n.key = k ∧ s.ns = a ++ n :: b ∧ fnd s.idx k = some (posN n (16 + tot a)) := by
  unfold Vst.look at h
  cases ho : newest s.ns k with
  | none => rw [ho] at h; simp at h
  | some n =>
    rw [ho] at h
    simp only at h
    obtain ⟨a, b, h1, h2⟩ := Vst.fnd_some ho
    cases hg : n.gone with
    | true => rw [hg] at h; simp at h
    | false =>
      rw [hg] at h
      simp only [Bool.false_eq_true, if_false] at h
      have hc : n.cookie = c := by
        by_cases e : n.cookie = c
        · exact e
        · simp [e] at h
      exact ⟨n, a, b, rfl, hg, hc, (newest_mem ho).2, h1, h2⟩

set_option maxRecDepth 100000 in
set_option maxHeartbeats 1000000 in
theorem del_b (key c g p k : Nat) (S : Nat → Prop) (d : Dsk) (s : Vst) (w : World) (h : Vready w g p S d k s) (hn : s.look key c ≠ 0) :
    Calls Tryz.prog 70 #[.pointer (some ⟨g, 0, none⟩), .int .u64 (key : Int), .int .u32 (c : Int)] w fun e w' =>
      e = .returned (ercode (s.look key c)) ∧ VolT w w' g p S d s (k + 4) s := by
  have HH := Lib.hid h
  obtain ⟨x, xv, hbox, hix⟩ := h.box
  have HB := Lib.hid (blob_bad g p x xv s key c w h.ok hbox hix (by rw [blobN_look]; exact hn))
  rw [blobN_look] at HB
  obtain ⟨q, hq⟩ : ∃ q, s.look key c = q := ⟨_, rfl⟩
  rw [hq] at HB ⊢
  clear h hbox hix hn hq
  go_enter Tryz.func70, Tryz.ntmps70
  go_wp2_with fail
  refine HB.out.mono ?_
  rintro e w1 ⟨rfl, hb1⟩
  have HT := Lib.hid (fun o => HH.out.same (hb1.alloc hb1.size o) (k + 4) (by omega) (by omega))
  clear hb1
  go_wp2
  go_ret
  exact ⟨rfl, HT.out _⟩
set_option maxRecDepth 100000 in
set_option maxHeartbeats 1000000 in
theorem del_s (key c g p k : Nat) (S : Nat → Prop) (d : Dsk) (s : Vst) (w : World) (h : Vready w g p S d k s) (hn : s.look key c = 0) (hs : s.shut = true) :
    Calls Tryz.prog 70 #[.pointer (some ⟨g, 0, none⟩), .int .u64 (key : Int), .int .u32 (c : Int)] w fun e w' =>
      e = .returned (ercode 10) ∧ VolT w w' g p S d s (k + 4) s := by
  have HH := Lib.hid h
  obtain ⟨x, xv, hbox, hix⟩ := h.box
  obtain ⟨n, a, b, _, _, _, _, _, hf⟩ := look_some hn
  have HB := Lib.hid (blob_ok g p x xv s key c _ w h.ok hbox hix hf (by rw [← hf, blobN_look]; exact hn))
  have HBO := Lib.hid hbox
  have HS := Lib.hid hs
  clear h hbox hix hn hf hs
  go_enter Tryz.func70, Tryz.ntmps70
  go_wp2_with fail
  refine HB.out.mono ?_
  rintro e w1 ⟨rfl, hb1⟩
  have HT := Lib.hid (fun o => HH.out.same (hb1.alloc hb1.size o) (k + 4) (by omega) (by omega))
  obtain ⟨_, _, _, _, c4, _, _, _, _⟩ := vbox_facts (HBO.out.below hb1 HBO.out.lt)
  rw [HS.out] at c4
  have hlt : g < w1.heap.size := Nat.lt_of_lt_of_le HBO.out.lt hb1.size
  clear hb1
  go_wp2
  go_ret
  exact ⟨rfl, HT.out _⟩
set_option maxRecDepth 100000 in
set_option maxHeartbeats 1000000 in
theorem del_o (key c g p k : Nat) (S : Nat → Prop) (d : Dsk) (s : Vst) (w : World) (h : Vready w g p S d k s) (hn : s.look key c = 0) (hs : s.shut = false) (hk : key < 18446744073709551616) (hc : c < 4294967296) (hr : Room s d (grave key c)) :
    Calls Tryz.prog 70 #[.pointer (some ⟨g, 0, none⟩), .int .u64 (key : Int), .int .u32 (c : Int)] w fun e w' =>
      e = .returned .nilIface ∧ VolT w w' g p S d s (k + 4) (s.wrote (grave key c)) := by
  have HH := Lib.hid h
  obtain ⟨x, xv, hbox, hix⟩ := h.box
  obtain ⟨n, a, b, _, _, _, _, _, hf⟩ := look_some hn
  have HB := Lib.hid (blob_ok g p x xv s key c _ w h.ok hbox hix hf (by rw [← hf, blobN_look]; exact hn))
  have HBO := Lib.hid hbox
  have HS := Lib.hid hs
  have HR := Lib.hid hr
  have HG := Lib.hid (grave_ok hk hc)
  clear h hbox hix hn hf hs hr hk hc
  go_enter Tryz.func70, Tryz.ntmps70
  go_wp2_with fail
  refine HB.out.mono ?_
  rintro e w1 ⟨rfl, hb1⟩
  have HB1 := Lib.hid (fun o => hb1.alloc hb1.size o)
  obtain ⟨_, _, _, _, c4, _, _, _, _⟩ := vbox_facts (HBO.out.below hb1 HBO.out.lt)
  rw [HS.out] at c4
  have hlt : g < w1.heap.size := Nat.lt_of_lt_of_le HBO.out.lt hb1.size
  clear hb1
  go_wp2_with fail
  refine (write_v (grave key c) (.slice none 0 0) g p k S d s _ HH.out.ok (HH.out.vl.below (HB1.out _) (Nat.le_refl _)) HH.out.lies (by have := HH.out.few; omega) (IsB.nil _) (fun b hb => absurd rfl hb.1) HG.out HR.out.most HR.out.few HR.out.cap).mono ?_
  rintro e w3 ⟨rfl, ht⟩
  have HT := Lib.hid (VolT.pre (HB1.out _) ht)
  clear ht c4
  go_wp2
  go_ret
  exact ⟨rfl, HT.out⟩
theorem size_n (n : Ndl) (w : World) (h : n.data.length ≤ 4096) :
    Calls Tryz.prog 120 #[.int .i64 (n.data.length : Int)] w fun e w' => e = .returned (.int .i64 (nlen n : Int)) ∧ w = w' := by
  refine (Nd.size_any (n.data.length : Int) w (by omega) (by omega)).mono ?_
  rintro e w' ⟨rfl, rfl⟩
  rw [Nd.nsize_nat h]
  exact ⟨rfl, rfl⟩
theorem read_vl (w : World) (g p : Nat) (S : Nat → Prop) (d : Dsk) (k : Nat) (s : Vst) (n : ByteArray) (b : List UInt8) (off m : Nat) (h : Vl w g p S d k s) (hf : Fs d k) (hv : view d n = some b) (hb : off + m ≤ b.length) (hl : b.length ≤ 16777216) :
    Calls Tryz.prog 119 #[.pointer (some ⟨p, 0, none⟩), .string n, .int .i64 (off : Int), .int .i64 (m : Int)] w fun e w' =>
      ∃ v', e = .returned (.tuple #[v', .nilIface]) ∧ w'.ownsRow w.heap.size 5 1 v' m (bvs ((b.drop off).take m)) ∧ Below w.heap.size w w' := by
  obtain ⟨Sd, h1, h2, h3⟩ := h.disk
  refine (read_u w p Sd d k n (off : Int) (m : Int) h1 (by omega) (by omega) (by omega) (by omega)).mono ?_
  rintro e w' ⟨v', rfl, ho, hb2⟩
  rw [hf.read hv hb] at ho ⊢
  refine ⟨v', rfl, ?_, hb2⟩
  simp only at ho
  rw [show ((b.drop off).take m).length = m by simp; omega] at ho
  exact ho
theorem rk_below {wx wy : World} {g B : Nat} {a c1 c2 : Value} (hb : Below wx.heap.size wx wy) (hg : g < wx.heap.size) (hB : B < wx.heap.size)
    (K : wx.cell? ⟨g, 0, none⟩ = some a ∧ wx.cell? ⟨B, 1, none⟩ = some c1 ∧ wx.cell? ⟨B, 2, none⟩ = some c2) : wy.cell? ⟨g, 0, none⟩ = some a ∧ wy.cell? ⟨B, 1, none⟩ = some c1 ∧ wy.cell? ⟨B, 2, none⟩ = some c2 :=
  ⟨cell_below hb hg K.1, cell_below hb hB K.2.1, cell_below hb hB K.2.2⟩

set_option maxRecDepth 100000 in
set_option maxHeartbeats 1000000 in
theorem raw_v (n : Ndl) (off : Nat) (b : List UInt8) (g p k : Nat) (S : Nat → Prop) (d : Dsk) (s : Vst) (w : World) (h : Vready w g p S d k s) (hv : view d (nmD s.num s.gen) = some b) (hb : off + nlen n ≤ b.length) (hl : b.length ≤ 16777216) (hn : n.data.length ≤ 4096) :
    Calls Tryz.prog 94 #[.pointer (some ⟨g, 0, none⟩), Q.pval (posN n off)] w fun e w' =>
      ∃ v', e = .returned (.tuple #[v', .nilIface]) ∧ w'.ownsRow w.heap.size 5 1 v' (nlen n) (bvs ((b.drop off).take (nlen n))) ∧ Below w.heap.size w w' := by
  obtain ⟨L, hL⟩ : ∃ L, n.data.length = L := ⟨_, rfl⟩
  have HH := Lib.hid h
  have HV := Lib.hid hv
  have HB := Lib.hid hb
  have HL := Lib.hid hl
  have HN := Lib.hid hn
  have HLL := Lib.hid hL
  have HSZ := Lib.hid (fun w => size_n n w hn)
  rw [hL] at HSZ
  obtain ⟨M, hM⟩ : ∃ M, nlen n = M := ⟨_, rfl⟩
  rw [hM] at HSZ HB ⊢
  simp only [posN, hL]
  obtain ⟨key, cookie, gone, data⟩ := n
  simp only
  clear h hv hb hl hn hL hM
  have hal := below_alloc w (.cells #[.int .u64 (key : Int), .int .i64 (off : Int), .int .i64 (L : Int), .int .u32 (cookie : Int), .bool gone] 124)
  have HAL := Lib.hid hal
  have HVL := Lib.hid ((HH.out.vl.below hal (Nat.le_refl _)).drew)
  obtain ⟨z0, z1, z2, z3, z4, _⟩ := Q.blk5_facts (Blk.new w #[.int .u64 (key : Int), .int .i64 (off : Int), .int .i64 (L : Int), .int .u32 (cookie : Int), .bool gone] 124)
  obtain ⟨w0, hw0⟩ : ∃ w0, w.alloc (.cells #[.int .u64 (key : Int), .int .i64 (off : Int), .int .i64 (L : Int), .int .u32 (cookie : Int), .bool gone] 124) = w0 := ⟨_, rfl⟩
  have hgl : g < w0.heap.size := by
    have h1 := HVL.out.lt g
    obtain ⟨x, v, Sd, _, hS⟩ := HVL.out
    have h2 := h1 ((hS g).2 (.inl rfl))
    rw [hw0] at h2
    exact h2
  have hBl : w.heap.size < w0.heap.size := by rw [← hw0]; simp
  go_enter Tryz.func94, Tryz.ntmps94
  go_upto_region 3 with fail
  rw [hw0] at HAL HVL z1 z2
  have K0 : w0.drew.cell? ⟨g, 0, none⟩ = some (.pointer (some ⟨p, 0, none⟩)) ∧ w0.drew.cell? ⟨w.heap.size, 1, none⟩ = some (.int .i64 (off : Int)) ∧ w0.drew.cell? ⟨w.heap.size, 2, none⟩ = some (.int .i64 (L : Int)) := ⟨Vl.cells HVL.out, z1, z2⟩
  clear z0 z1 z2 z3 z4 hw0 hal
  go_region_held3 (fun wx => wx.cell? ⟨g, 0, none⟩ = some (.pointer (some ⟨p, 0, none⟩)) ∧ wx.cell? ⟨w.heap.size, 1, none⟩ = some (.int .i64 (off : Int)) ∧ wx.cell? ⟨w.heap.size, 2, none⟩ = some (.int .i64 (L : Int))) (first | exact K0 | exact Ka | exact Kb) (first | (go_at_call 97; refine (file_vl g p k S d s w0.drew HH.out.ok HVL.out).mono ?_; rintro e wa ⟨rfl, hna⟩; have HBa := Lib.hid (drewn_below hna); have HVa := Lib.hid (HVL.out.below HBa.out (Nat.le_refl _)); have Ka := rk_below HBa.out hgl hBl K0) | (go_at_call 120; refine (HSZ.out _).mono ?_; rintro e wz ⟨rfl, rfl⟩) | (go_at_call 119; refine (read_vl wa g p S d k s (nmD s.num s.gen) b off M HVa.out HH.out.lies.fs HV.out HB.out HL.out).mono ?_; rintro e wb ⟨vb, rfl, hown, hbb⟩; have Kb := rk_below hbb (Nat.lt_of_lt_of_le hgl HBa.out.size) (Nat.lt_of_lt_of_le hBl HBa.out.size) Ka))
  have HO := Lib.hid (ownsRow_base hown (base' := w.heap.size) (Nat.le_of_lt (Nat.lt_of_lt_of_le hBl HBa.out.size)))
  have HBF := Lib.hid (((HAL.out.trans ((Below.refl _ w0).drew.mono (Nat.le_of_lt hBl))).trans (HBa.out.mono (Nat.le_of_lt hBl))).trans (hbb.mono (Nat.le_of_lt (Nat.lt_of_lt_of_le hBl HBa.out.size))))
  clear hown hbb K0 Ka Kb
  go_wp2
  go_ret2
  exact ⟨vb, rfl, HO.out, HBF.out⟩

theorem Tryz.eqlPosV (p q : Pos) (w : World) : (binOp .neq 124 (Q.pval p) (Q.pval q)).run Tryz.prog w = .ok (.bool (decide (p ≠ q))) w := by
  have hS : Tryz.prog.underlying 124 = some (.struct (Tryz.prog.fieldsOf 124)) := by kernel_rfl
  have hp : Tryz.prog.stoodInHeld 124 = false := by kernel_rfl
  have h : (Op.equalIn 10000 124 (Q.pval p) (Q.pval q)).run Tryz.prog w = .ok (decide (p.key = q.key) && (decide (p.off = q.off) && (decide (p.len = q.len) && (decide (p.cookie = q.cookie) && decide (p.gone = q.gone))))) w := by
    rw [show (10000 : Nat) = 9999 + 1 from rfl, run_equalIn_agg w 9999 124 _ _ hS hp]
    simp only [Program.fieldsOf, Tryz.underlying124]
    go_simp
    by_cases h1 : p.key = q.key <;> by_cases h2 : p.off = q.off <;> by_cases h3 : p.len = q.len <;> by_cases h4 : p.cookie = q.cookie <;> by_cases h5 : p.gone = q.gone <;> simp [h1, h2, h3, h4, h5, Int.natCast_inj]
  rw [run_neq_struct, h]
  refine congrArg (fun b => Result.ok (Value.bool b) w) (a₁ := !(decide (p.key = q.key) && (decide (p.off = q.off) && (decide (p.len = q.len) && (decide (p.cookie = q.cookie) && decide (p.gone = q.gone)))))) ?_
  rw [Bool.eq_iff_iff]
  simp only [Bool.not_eq_true', Bool.and_eq_false_iff, decide_eq_false_iff_not, decide_eq_true_eq]
  constructor
  · intro h e
    subst e
    simp at h
  · intro hne
    by_cases h1 : p.key = q.key
    · by_cases h2 : p.off = q.off
      · by_cases h3 : p.len = q.len
        · by_cases h4 : p.cookie = q.cookie
          · by_cases h5 : p.gone = q.gone
            · exact absurd (Pos.ext' h1 h2 h3 h4 h5) hne
            · exact .inr (.inr (.inr (.inr h5)))
          · exact .inr (.inr (.inr (.inl h4)))
        · exact .inr (.inr (.inl h3))
      · exact .inr (.inl h2)
    · exact .inl h1
theorem Tryz.guardPosV : Tryz.prog.eqGuardType Tryz.prog.depth 124 = false := by kernel_rfl

theorem got_n (n : Ndl) (v : Value) (w : World) (hv : IsB w v (nbytes n)) (hn : n.fits) (hc : ncheck n = 0) :
    Calls Tryz.prog 95 #[v] w fun e w' => ∃ x c, e = .returned (.tuple #[Nd.nval n (.slice x n.data.length c), .int .i64 (nlen n : Int), .nilIface]) ∧ w'.ownsRow w.heap.size 5 1 (.slice x n.data.length c) n.data.length (bvs n.data) ∧ Below w.heap.size w w' := by
  have hl := nlen_eq n
  have hd := (ncheck_ok hc).1
  have hpd := padn_lt n.data.length
  have hnl : nlen n ≤ 1099511627776 := by unfold nlen; omega
  have hn32 : 32 ≤ nlen n := by unfold nlen; omega
  obtain ⟨g1, g2, g3⟩ := get_put hn hc []
  rw [List.append_nil] at g1 g2 g3
  obtain ⟨l, hL⟩ : ∃ l, nbytes n = l := ⟨_, rfl⟩
  rw [hL] at hv hl g1 g2 g3
  have h0 : ¬ l.length < 32 := by omega
  unfold getCode at g1
  rw [if_neg h0] at g1
  cases hF : formedB l with
  | false => rw [hF] at g1; simp at g1
  | true =>
    have h3 : ¬ l.length < total l := by omega
    rw [if_neg (by rw [hF]; simp), if_neg h3] at g1
    cases hS : sumOkN l with
    | false => rw [hS] at g1; simp at g1
    | true =>
      rw [if_neg (by rw [hS]; simp)] at g1
      cases hZ : zeroB (padOf l) with
      | false => rw [hZ] at g1; simp at g1
      | true =>
        refine (Nd.get_okN v l w hv (by omega) (by omega) hF (by omega) hS hZ).mono ?_
        rintro e w' ⟨v', rfl, hown, hb⟩
        have hdat : dataOf l = n.data := congrArg Ndl.data g2
        rw [hdat] at hown
        obtain ⟨x, c, rfl, _, _⟩ := ownsRow_slice hown
        refine ⟨x, c, ?_, hown, hb⟩
        rw [g2, g3, hl]
theorem four_below {wx wy : World} {B : Nat} {c0 c1 c2 c3 : Value} (hb : Below wx.heap.size wx wy) (hB : B < wx.heap.size)
    (K : wx.cell? ⟨B, 0, none⟩ = some c0 ∧ wx.cell? ⟨B, 1, none⟩ = some c1 ∧ wx.cell? ⟨B, 2, none⟩ = some c2 ∧ wx.cell? ⟨B, 3, none⟩ = some c3) : wy.cell? ⟨B, 0, none⟩ = some c0 ∧ wy.cell? ⟨B, 1, none⟩ = some c1 ∧ wy.cell? ⟨B, 2, none⟩ = some c2 ∧ wy.cell? ⟨B, 3, none⟩ = some c3 :=
  ⟨cell_below hb hB K.1, cell_below hb hB K.2.1, cell_below hb hB K.2.2.1, cell_below hb hB K.2.2.2⟩
theorem gk_below {wx wy : World} {B A : Nat} {c0 c1 c2 c3 p0 p1 p2 p3 p4 : Value} (hb : Below wx.heap.size wx wy) (hB : B < wx.heap.size) (hA : A < wx.heap.size)
    (K : wx.cell? ⟨B, 0, none⟩ = some c0 ∧ wx.cell? ⟨B, 1, none⟩ = some c1 ∧ wx.cell? ⟨B, 2, none⟩ = some c2 ∧ wx.cell? ⟨B, 3, none⟩ = some c3 ∧ wx.cell? ⟨A, 0, none⟩ = some p0 ∧ wx.cell? ⟨A, 1, none⟩ = some p1 ∧ wx.cell? ⟨A, 2, none⟩ = some p2 ∧ wx.cell? ⟨A, 3, none⟩ = some p3 ∧ wx.cell? ⟨A, 4, none⟩ = some p4) :
    wy.cell? ⟨B, 0, none⟩ = some c0 ∧ wy.cell? ⟨B, 1, none⟩ = some c1 ∧ wy.cell? ⟨B, 2, none⟩ = some c2 ∧ wy.cell? ⟨B, 3, none⟩ = some c3 ∧ wy.cell? ⟨A, 0, none⟩ = some p0 ∧ wy.cell? ⟨A, 1, none⟩ = some p1 ∧ wy.cell? ⟨A, 2, none⟩ = some p2 ∧ wy.cell? ⟨A, 3, none⟩ = some p3 ∧ wy.cell? ⟨A, 4, none⟩ = some p4 :=
  ⟨cell_below hb hB K.1, cell_below hb hB K.2.1, cell_below hb hB K.2.2.1, cell_below hb hB K.2.2.2.1, cell_below hb hA K.2.2.2.2.1, cell_below hb hA K.2.2.2.2.2.1, cell_below hb hA K.2.2.2.2.2.2.1, cell_below hb hA K.2.2.2.2.2.2.2.1, cell_below hb hA K.2.2.2.2.2.2.2.2⟩

end Go.Proofs.YtllbngopfganjaaGreatDoor
end

section
namespace Go.Proofs.YtllbngopfganjaaGreatDoor
open Go.RowKit Go.Cor

set_option maxRecDepth 100000 in
set_option maxHeartbeats 1000000 in
theorem write_f (n : Ndl) (v : Value) (g p k : Nat) (S : Nat → Prop) (d : Dsk) (s : Vst) (w : World) (hrd : Vready w g p S d k s) (hv : IsB w v n.data) (hn : n.fits ∧ ncheck n = 0) (hm : s.most < s.size + nlen n) (hf : s.ns.length + 1 < 4096) :
    Calls Tryz.prog 91 #[.pointer (some ⟨g, 0, none⟩), Nd.nval n v] w fun e w' =>
      e = .returned (ercode 11) ∧ VolT w w' g p S d s (k + 4) s := by
  have hs := hrd.ok
  have h := hrd.vl
  have HV := Lib.hid hv
  have HR := Lib.hid hrd
  have HS := Lib.hid hs
  have HN := Lib.hid hn
  have HVL := Lib.hid h
  have hms := hs.most
  have hnl : (nbytes n).length = nlen n := nlen_eq n
  obtain ⟨L, hL⟩ : ∃ L, s.idx.length = L := ⟨_, rfl⟩
  have hLl : L < 4096 := by have := s.idx_len; omega
  have HLL := Lib.hid hL
  obtain ⟨N, hN⟩ : ∃ N, nlen n = N := ⟨_, rfl⟩
  rw [hN] at hnl hm
  have HNL := Lib.hid hnl
  have HNN := Lib.hid hN
  obtain ⟨Z, hZ⟩ : ∃ Z, s.size = Z := ⟨_, rfl⟩
  have HZ := Lib.hid hZ
  rw [hZ] at hm
  obtain ⟨M, hM⟩ : ∃ M, s.most = M := ⟨_, rfl⟩
  have HM := Lib.hid hM
  rw [hM] at hm hms
  have hlt := fun b hb => h.lt b hb
  have HLT := Lib.hid hlt
  have hms2 := hs.size
  rw [hZ, hM] at hms2
  have hnb : N ≤ 8192 := by rw [← hN]; have := (ncheck_ok hn.2).1; unfold nlen padn; omega
  clear hv hs hn h hL hN hZ hM hlt hrd
  have hal : Below w.heap.size w (w.alloc (Nd.ncells n v 43)) := below_alloc w _
  go_enter Tryz.func91, Tryz.ntmps91
  go_wp2_with fail
  refine (Nd.put_okN n v _ (HV.out.mono hal (Nat.le_refl _)) HN.out.1 HN.out.2).mono ?_
  rintro e w1 ⟨v1, rfl, hown1, hb1⟩
  rw [HNL.out] at hown1
  have HBX := Lib.hid ((Nd.Boxed.new w n v 43).mono hb1 (by simp))
  have HB1 := Lib.hid (hal.trans (hb1.mono (by simp)))
  have hlt1 : w.heap.size < w1.heap.size := by have := hb1.size; simp at this; omega
  have HO1 := Lib.hid hown1
  have HV1 := Lib.hid (HVL.out.below HB1.out (Nat.le_refl _))
  clear hown1 hb1
  obtain ⟨x, xv, hbox, hix⟩ := HV1.out.box
  obtain ⟨c0, c1, c2, c3, c4, c5, c6, c7, fz⟩ := vbox_facts hbox
  go_wp2_with fail
  refine (Q.len_any _ xv s.idx _ (.at x xv s.idx hix) (by have := HLL.out; omega)).mono ?_
  rintro e w2 ⟨rfl, hb2⟩
  rw [HLL.out]
  obtain ⟨G, hG⟩ : ∃ G, Q.goneN s.idx = G := ⟨_, rfl⟩
  have hGL : G ≤ L := by rw [← hG, ← HLL.out]; exact Q.goneN_le _
  rw [hG]
  obtain ⟨A, hA⟩ : ∃ A : Int, (L : Int) - (G : Int) = A := ⟨_, rfl⟩
  rw [hA]
  have HB2 := Lib.hid (HB1.out.trans (hb2.mono HB1.out.size))
  have HBX2 := Lib.hid (HBX.out.mono hb2 hlt1)
  have HO2 := Lib.hid (show w2.ownsRow w.heap.size 5 1 v1 N (bvs (nbytes n)) from ownsRow_base (ownsRow_below HO1.out hb2 (Nat.le_refl _)) (by simp))
  have HV2 := Lib.hid (HV1.out.below hb2 (Nat.le_refl _))
  have hlt2 : w.heap.size < w2.heap.size := Nat.lt_of_lt_of_le hlt1 hb2.size
  clear c0 c1 c2 c3 c4 c5 c6 c7 fz hbox hix HO1 HBX HB1 HV1 hlt1 hb2 hal hG
  have HW := Lib.hid (Vl.cells HV2.out)
  obtain ⟨x2, xv2, hbox, hix⟩ := HV2.out.box
  obtain ⟨c0, _, _, _, _, c5, c6, c7, fz⟩ := vbox_facts hbox
  rw [HM.out] at c5
  rw [HZ.out] at c6
  have HBO := Lib.hid hbox
  clear hbox hix
  have hlen := fun W => len_X (P := Tryz.prog) (IsX.own HO2.out) 33 3 _ Tryz.underlying33 W
  have e1 : IntKind.i64.wrap (A + (G : Int)) = (L : Int) := by rw [IntWalk.i64_in _ (by omega)]; omega
  have e2 : decide ((4096 : Int) ≤ (L : Int)) = false := decide_eq_false (by omega)
  have e2' : decide (4096 ≤ L) = false := decide_eq_false (by omega)
  have e3 : IntKind.i64.wrap ((M : Int) - (Z : Int)) = (M : Int) - (Z : Int) := IntWalk.i64_in _ (by omega)
  have e4 : decide ((M : Int) - (Z : Int) < (N : Int)) = true := decide_eq_true (by omega)
  go_wp2
  go_quiet (fail)
  have HB3 := Lib.hid (below_drewN HB2.out nq)
  clear HB2 HW HBO HV2 HBX2 HO2
  go_wp2
  go_ret
  exact ⟨rfl, HR.out.same HB3.out _ (by omega) (by omega)⟩
set_option maxRecDepth 100000 in
set_option maxHeartbeats 1000000 in
theorem put_f (key cookie : Nat) (data : List UInt8) (v : Value) (g p k : Nat) (S : Nat → Prop) (d : Dsk) (s : Vst) (w : World) (h : Vready w g p S d k s) (hv : IsB w v data) (hn : Ndl.fits ⟨key, cookie, false, data⟩) (hc : ncheck ⟨key, cookie, false, data⟩ = 0) (hsh : s.shut = false) (hf : hasN (fnd s.idx key) = 0) (hm : s.most < s.size + nlen ⟨key, cookie, false, data⟩) (hfew : s.ns.length + 1 < 4096) :
    Calls Tryz.prog 68 #[.pointer (some ⟨g, 0, none⟩), Nd.nval ⟨key, cookie, false, data⟩ v] w fun e w' =>
      e = .returned (ercode 11) ∧ VolT w w' g p S d s (k + 4) s := by
  have HVV := Lib.hid (show IsB (w.alloc (Nd.ncells ⟨key, cookie, false, data⟩ v 43)) v data from hv.mono (below_alloc w _) (Nat.le_refl _))
  have HV := Lib.hid hv
  have HH := Lib.hid h
  have HC := Lib.hid hc
  have HSH := Lib.hid hsh
  have HF := Lib.hid hf
  have HNF := Lib.hid hn
  have HM := Lib.hid hm
  have HFW := Lib.hid hfew
  clear h hv hc hsh hf hn hm hfew
  go_enter Tryz.func68, Tryz.ntmps68
  go_wp2_with fail
  refine (Nd.check_any ⟨key, cookie, false, data⟩ v _ HVV.out).mono ?_
  rintro e w1 ⟨rfl, hb1⟩
  rw [HC.out, Nd.cerr_0]
  have HX1 := Lib.hid (fb_put (n := ⟨key, cookie, false, data⟩) hb1)
  obtain ⟨⟨b0, b1, b2, b3⟩, hB1, hlt1⟩ := HX1.out
  have HB1 := Lib.hid hB1
  obtain ⟨x, xv, hbox, hix⟩ := (HH.out.below HB1.out).box
  obtain ⟨_, _, _, _, c4, _, _, _, _⟩ := vbox_facts hbox
  rw [HSH.out] at c4
  have HFV := Lib.hid (find_v g p x xv s key _ HH.out.ok hbox hix)
  clear hb1 hB1 hbox hix
  go_wp2_with fail
  refine HFV.out.mono ?_
  rintro e w2 ⟨rfl, hb2⟩
  rw [HF.out]
  have HB2 := Lib.hid (HB1.out.trans (hb2.mono HB1.out.size))
  have HX2 := Lib.hid (HX1.out.1.mono hb2 hlt1)
  have hlt2 : w.heap.size < w2.heap.size := Nat.lt_of_lt_of_le hlt1 hb2.size
  clear hb2 c4 b0 b1 b2 b3 HFV HX1
  obtain ⟨b0, b1, b2, b3⟩ := HX2.out
  simp only at b0 b1 b2 b3
  go_wp2_with fail
  refine (write_f ⟨key, cookie, false, data⟩ v g p k S d s _ (HH.out.below (HB2.out.alloc HB2.out.size _)) (HV.out.mono (HB2.out.alloc HB2.out.size _) (Nat.le_refl _)) ⟨HNF.out, HC.out⟩ HM.out HFW.out).mono ?_
  rintro e w3 ⟨rfl, ht⟩
  have HT := Lib.hid (VolT.pre (HB2.out.alloc HB2.out.size _) ht)
  clear ht b0 b1 b2 b3
  go_wp2
  go_ret
  exact ⟨rfl, HT.out⟩
set_option maxRecDepth 100000 in
set_option maxHeartbeats 1000000 in
theorem del_f (key c g p k : Nat) (S : Nat → Prop) (d : Dsk) (s : Vst) (w : World) (h : Vready w g p S d k s) (hn : s.look key c = 0) (hs : s.shut = false) (hk : key < 18446744073709551616) (hc : c < 4294967296) (hm : s.most < s.size + nlen (grave key c)) (hfew : s.ns.length + 1 < 4096) :
    Calls Tryz.prog 70 #[.pointer (some ⟨g, 0, none⟩), .int .u64 (key : Int), .int .u32 (c : Int)] w fun e w' =>
      e = .returned (ercode 11) ∧ VolT w w' g p S d s (k + 4) s := by
  have HH := Lib.hid h
  obtain ⟨x, xv, hbox, hix⟩ := h.box
  obtain ⟨n, a, b, _, _, _, _, _, hf⟩ := look_some hn
  have HB := Lib.hid (blob_ok g p x xv s key c _ w h.ok hbox hix hf (by rw [← hf, blobN_look]; exact hn))
  have HBO := Lib.hid hbox
  have HS := Lib.hid hs
  have HM := Lib.hid hm
  have HFW := Lib.hid hfew
  have HG := Lib.hid (grave_ok hk hc)
  clear h hbox hix hn hf hs hm hfew hk hc
  go_enter Tryz.func70, Tryz.ntmps70
  go_wp2_with fail
  refine HB.out.mono ?_
  rintro e w1 ⟨rfl, hb1⟩
  have HB1 := Lib.hid (fun o => hb1.alloc hb1.size o)
  obtain ⟨_, _, _, _, c4, _, _, _, _⟩ := vbox_facts (HBO.out.below hb1 HBO.out.lt)
  rw [HS.out] at c4
  have hlt : g < w1.heap.size := Nat.lt_of_lt_of_le HBO.out.lt hb1.size
  clear hb1
  go_wp2_with fail
  refine (write_f (grave key c) (.slice none 0 0) g p k S d s _ (HH.out.below (HB1.out _)) (IsB.nil _) HG.out HM.out HFW.out).mono ?_
  rintro e w3 ⟨rfl, ht⟩
  have HT := Lib.hid (VolT.pre (HB1.out _) ht)
  clear ht c4
  go_wp2
  go_ret
  exact ⟨rfl, HT.out⟩
/-- What is wanted of the room for a needle, be there any or not. -/
structure Room' (s : Vst) (d : Dsk) (n : Ndl) : Prop where
  few : s.ns.length + 1 < 4096
  cap : s.size + nlen n ≤ s.most → d.used + nlen n ≤ d.cap
theorem Room'.room {s : Vst} {d : Dsk} {n : Ndl} (h : Room' s d n) (hm : s.size + nlen n ≤ s.most) : Room s d n := ⟨hm, h.few, h.cap hm⟩
theorem write_w (n : Ndl) (v : Value) (g p k : Nat) (S : Nat → Prop) (d : Dsk) (s : Vst) (w : World) (h : Vready w g p S d k s) (hv : IsB w v n.data) (hvS : ∀ b, liesB v n.data b → ¬ S b) (hn : n.fits ∧ ncheck n = 0) (hr : Room' s d n) :
    Calls Tryz.prog 91 #[.pointer (some ⟨g, 0, none⟩), Nd.nval n v] w fun e w' =>
      e = .returned (cerr (s.write n).2) ∧ VolT w w' g p S d s (k + 4) (s.write n).1 := by
  by_cases hm : s.most < s.size + nlen n
  · rw [show s.write n = (s, 11) by unfold Vst.write; rw [if_pos hm]]
    exact write_f n v g p k S d s w h hv hn hm hr.few
  · rw [show s.write n = (s.wrote n, 0) by unfold Vst.write; rw [if_neg hm]]
    exact write_v n v g p k S d s w h.ok h.vl h.lies (by have := h.few; omega) hv hvS hn (by omega) hr.few (hr.cap (by omega))
theorem put_w (n : Ndl) (v : Value) (g p k : Nat) (S : Nat → Prop) (d : Dsk) (s : Vst) (w : World) (h : Vready w g p S d k s) (hv : IsB w v n.data) (hvS : ∀ b, liesB v n.data b → ¬ S b) (hn : n.fits) (hr : Room' s d n) :
    Calls Tryz.prog 68 #[.pointer (some ⟨g, 0, none⟩), Nd.nval n v] w fun e w' =>
      e = .returned (cerr (s.put n).2) ∧ VolT w w' g p S d s (k + 4) (s.put n).1 := by
  obtain ⟨key, cookie, gone, data⟩ := n
  cases gone with
  | true =>
    rw [Vst.put_gone rfl]
    exact put_g key cookie data v g p k S d s w h
  | false =>
    by_cases hc : ncheck ⟨key, cookie, false, data⟩ = 0
    · cases hsh : s.shut with
      | true =>
        rw [Vst.put_shut rfl hc hsh]
        exact put_s key cookie data v g p k S d s w h hv hc hsh
      | false =>
        have hf := hasN_newest s key
        cases ho : newest s.ns key with
        | some o =>
          rw [Vst.put_there (n := ⟨key, cookie, false, data⟩) rfl hc hsh ho]
          rw [ho] at hf
          simp only at hf
          cases hg : o.gone with
          | true =>
            rw [hg, if_pos rfl] at hf
            exact put_t key cookie data v g p k S d s w h hv hc hsh 1 (.inl rfl) hf
          | false =>
            rw [hg, if_neg (by decide)] at hf
            exact put_t key cookie data v g p k S d s w h hv hc hsh 2 (.inr rfl) hf
        | none =>
          rw [ho] at hf
          by_cases hm : s.most < s.size + nlen ⟨key, cookie, false, data⟩
          · rw [show s.put ⟨key, cookie, false, data⟩ = (s, 11) by unfold Vst.put Vst.write; simp [hc, hsh, ho, hm]]
            exact put_f key cookie data v g p k S d s w h hv hn hc hsh hf hm hr.few
          · rw [Vst.put_new (n := ⟨key, cookie, false, data⟩) rfl hc hsh ho (by omega)]
            exact put_n key cookie data v g p k S d s w h hv hvS hn hc hsh hf (hr.room (by omega))
    · rw [Vst.put_bad rfl hc]
      exact put_b key cookie data v g p k S d s w h hv hc
theorem del_w (key c g p k : Nat) (S : Nat → Prop) (d : Dsk) (s : Vst) (w : World) (h : Vready w g p S d k s) (hk : key < 18446744073709551616) (hc : c < 4294967296) (hr : Room' s d (grave key c)) :
    Calls Tryz.prog 70 #[.pointer (some ⟨g, 0, none⟩), .int .u64 (key : Int), .int .u32 (c : Int)] w fun e w' =>
      e = .returned (cerr (s.del key c).2) ∧ VolT w w' g p S d s (k + 4) (s.del key c).1 := by
  by_cases hn : s.look key c = 0
  · cases hs : s.shut with
    | true =>
      rw [del_shut hn hs]
      exact del_s key c g p k S d s w h hn hs
    | false =>
      by_cases hm : s.most < s.size + nlen (grave key c)
      · rw [show s.del key c = (s, 11) by unfold Vst.del Vst.write; simp [hn, hs, hm]]
        exact del_f key c g p k S d s w h hn hs hk hc hm hr.few
      · rw [del_ok hn hs (by omega)]
        exact del_o key c g p k S d s w h hn hs hk hc (hr.room (by omega))
  · rw [del_bad hn]
    simp only
    rw [cerr_pos hn]
    exact del_b key c g p k S d s w h hn

end Go.Proofs.YtllbngopfganjaaGreatDoor
end
