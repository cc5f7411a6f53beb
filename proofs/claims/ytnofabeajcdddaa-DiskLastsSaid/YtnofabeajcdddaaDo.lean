/- The laws' Do of a disk: by contract. -/
import Derived.Test.YtnofabeajcdddaaAlive
import Derived.Test.YtnofabeajcdddaaFar
namespace Go.Proofs.Ytnofabeajcdddaa
open Go.RowKit Go.Cor

/-- What an act does: the disk, what is read, the size, the error. -/
def actD (d : Dsk) (a : Ac) : Nat → Dsk × List UInt8 × Nat × Nat
  | 0 => ((d.create a.name).1, [], 0, (d.create a.name).2)
  | 1 => ((d.append a.name a.b).1, [], 0, (d.append a.name a.b).2)
  | 2 => ((d.sync a.name).1, [], 0, (d.sync a.name).2)
  | 3 => (d.syncNames.1, [], 0, d.syncNames.2)
  | 4 => ((d.rename a.name a.dst).1, [], 0, (d.rename a.name a.dst).2)
  | 5 => ((d.remove a.name).1, [], 0, (d.remove a.name).2)
  | 6 => ((d.cut a.name a.n).1, [], 0, (d.cut a.name a.n).2)
  | 7 => ((d.arm a.n).1, [], 0, (d.arm a.n).2)
  | 8 => (d.crash a.pn a.pf, [], 0, 0)
  | 9 => ((d.spoil a.name a.n (UInt8.ofNat (a.m % 256).toNat)).1, [], 0, (d.spoil a.name a.n (UInt8.ofNat (a.m % 256).toNat)).2)
  | 10 => (d, (d.read a.name a.n a.m).1, 0, (d.read a.name a.n a.m).2)
  | _ => (d, [], (d.size a.name).1, (d.size a.name).2)
theorem create_le (d : Dsk) (n : ByteArray) : (d.create n).2 ≤ 17 := by
  unfold Dsk.create
  repeat' split
  all_goals (try dsimp only)
  all_goals (repeat' split)
  all_goals simp
theorem append_le (d : Dsk) (n : ByteArray) (b : List UInt8) : (d.append n b).2 ≤ 17 := by
  unfold Dsk.append Dsk.on
  repeat' split
  all_goals (try dsimp only)
  all_goals (repeat' split)
  all_goals simp
theorem sync_le (d : Dsk) (n : ByteArray) : (d.sync n).2 ≤ 17 := by
  unfold Dsk.sync Dsk.on
  repeat' split
  all_goals (try dsimp only)
  all_goals (repeat' split)
  all_goals simp
theorem syncNames_le (d : Dsk)  : (d.syncNames ).2 ≤ 17 := by
  unfold Dsk.syncNames
  repeat' split
  all_goals (try dsimp only)
  all_goals (repeat' split)
  all_goals simp
theorem rename_le (d : Dsk) (n t : ByteArray) : (d.rename n t).2 ≤ 17 := by
  unfold Dsk.rename Dsk.on
  repeat' split
  all_goals (try dsimp only)
  all_goals (repeat' split)
  all_goals simp
theorem remove_le (d : Dsk) (n : ByteArray) : (d.remove n).2 ≤ 17 := by
  unfold Dsk.remove Dsk.on
  repeat' split
  all_goals (try dsimp only)
  all_goals (repeat' split)
  all_goals simp
theorem cut_le (d : Dsk) (n : ByteArray) (z : Int) : (d.cut n z).2 ≤ 17 := by
  unfold Dsk.cut Dsk.on
  repeat' split
  all_goals (try dsimp only)
  all_goals (repeat' split)
  all_goals simp
theorem arm_le (d : Dsk) (z : Int) : (d.arm z).2 ≤ 17 := by
  unfold Dsk.arm
  repeat' split
  all_goals (try dsimp only)
  all_goals (repeat' split)
  all_goals simp
theorem spoil_le (d : Dsk) (n : ByteArray) (z : Int) (x : UInt8) : (d.spoil n z x).2 ≤ 17 := by
  unfold Dsk.spoil Dsk.on
  repeat' split
  all_goals (try dsimp only)
  all_goals (repeat' split)
  all_goals simp
theorem read_le (d : Dsk) (n : ByteArray) (z m : Int) : (d.read n z m).2 ≤ 17 := by
  unfold Dsk.read Dsk.on
  repeat' split
  all_goals (try dsimp only)
  all_goals (repeat' split)
  all_goals simp
theorem size_le (d : Dsk) (n : ByteArray) : (d.size n).2 ≤ 17 := by
  unfold Dsk.size Dsk.on
  repeat' split
  all_goals (try dsimp only)
  all_goals (repeat' split)
  all_goals simp
theorem Dt.pre {w wa w' : World} {p k' : Nat} {S : Nat → Prop} {d' : Dsk} (hb : Below w.heap.size w wa) (h : Dt wa w' p S d' k') : Dt w w' p S d' k' := by
  obtain ⟨S', h1, h2, h3⟩ := h
  exact ⟨S', h1, (Kept.of_below (S := fun _ => False) hb (Nat.le_refl _)).mono (fun _ _ h => h.elim) |>.trans h2 (fun j hj _ => hj), fun b hb2 => (h3 b hb2).imp id (fun h => Nat.le_trans hb.size h)⟩
theorem Dt.post {w w1 w' : World} {p k' : Nat} {S : Nat → Prop} {d' : Dsk} (h : Dt w w1 p S d' k') (hb : Below w1.heap.size w1 w') : Dt w w' p S d' k' := by
  obtain ⟨S', h1, h2, h3⟩ := h
  exact ⟨S', h1.below hb (Nat.le_refl _), h2.trans (Kept.of_below (S := fun _ => False) hb (Nat.le_refl _)) (fun _ h => h.elim), h3⟩
theorem Dt.self {w w' : World} {p k k' : Nat} {S : Nat → Prop} {d : Dsk} (h : Dk w p S d k) (hb : Below w.heap.size w w') (hk : k ≤ k') (hs : k' ≤ 90000) : Dt w w' p S d k' :=
  ⟨S, ⟨(h.below hb (Nat.le_refl _)).is, Ok.more h.ok hk, hs, (h.below hb (Nat.le_refl _)).lt⟩, Kept.of_below hb (Nat.le_refl _), fun _ h => .inl h⟩
theorem below_alloc (w : World) (o : Obj) : Below w.heap.size w (w.alloc o) := (Below.refl _ w).alloc (Nat.le_refl _) o
def DoAt (w : World) (p : Nat) (S : Nat → Prop) (d : Dsk) (k0 : Nat) (a : Ac) (k : Nat) (e : Ending) (w' : World) : Prop :=
  ∃ rv, e = .returned (.tuple #[rv, .int .i64 ((actD d a k).2.2.1 : Int), .int .i64 ((actD d a k).2.2.2 : Int)]) ∧ w'.ownsRow w.heap.size 5 1 rv (actD d a k).2.1.length (bvs (actD d a k).2.1) ∧ Dt w w' p S (actD d a k).1 (k0 + 2)
theorem u8_wrap (m : Int) : IntKind.u8.wrap m = ((UInt8.ofNat (m % 256).toNat).toNat : Int) := by
  rw [UInt8.toNat_ofNat']
  simp [IntKind.wrap, IntKind.bits, IntKind.signed]
  omega

set_option maxHeartbeats 1000000 in
theorem do_u_0 (w : World) (p : Nat) (S : Nat → Prop) (d : Dsk) (k0 : Nat) (a : Ac) (h : Dk w p S d k0) (hk : k0 + 2 ≤ 90000) (hi : a.In w) (hn : a.Near) :
    Calls Try.prog 13 #[.pointer (some ⟨p, 0, none⟩), actV 0 a.name a.dst a.bv a.n a.m a.pn a.pv] w (DoAt w p S d k0 a 0) := by
  have HD := Lib.hid (fun o => h.below (below_alloc w o) (Nat.le_refl _))
  go_enter Try.func13, Try.ntmps13
  go_wp2_with fail
  refine (create_u _ p S d k0 a.name (HD.out _) hk (by have := hn.name; omega)).mono ?_
  rintro e w1 ⟨rfl, ht⟩
  have HT := Lib.hid (Dt.pre (below_alloc w _) ht)
  clear ht
  go_wp2_with fail
  refine (code_any (d.create a.name).2 _ (create_le d _)).mono ?_
  rintro e w3 ⟨rfl, rfl⟩
  go_wp2
  exact bodyPost_ret (v := .tuple #[.slice none 0 0, .int .i64 0, .int .i64 ((d.create a.name).2 : Int)]) (by simp [results, Try.results13, go_sem]) rfl ⟨_, rfl, World.ownsRow_nil _ _ _ _, HT.out⟩

set_option maxHeartbeats 1000000 in
theorem do_u_1 (w : World) (p : Nat) (S : Nat → Prop) (d : Dsk) (k0 : Nat) (a : Ac) (h : Dk w p S d k0) (hk : k0 + 2 ≤ 90000) (hi : a.In w) (hn : a.Near) :
    Calls Try.prog 13 #[.pointer (some ⟨p, 0, none⟩), actV 1 a.name a.dst a.bv a.n a.m a.pn a.pv] w (DoAt w p S d k0 a 1) := by
  have HD := Lib.hid (fun o => h.below (below_alloc w o) (Nat.le_refl _))
  go_enter Try.func13, Try.ntmps13
  go_wp2_with fail
  refine (append_u _ p S d k0 a.name a.bv a.b (HD.out _) hk (hi.b.mono (below_alloc w _) (Nat.le_refl _)) (by have := hn.b; omega)).mono ?_
  rintro e w1 ⟨rfl, ht⟩
  have HT := Lib.hid (Dt.pre (below_alloc w _) ht)
  clear ht
  go_wp2_with fail
  refine (code_any (d.append a.name a.b).2 _ (append_le d _ _)).mono ?_
  rintro e w3 ⟨rfl, rfl⟩
  go_wp2
  exact bodyPost_ret (v := .tuple #[.slice none 0 0, .int .i64 0, .int .i64 ((d.append a.name a.b).2 : Int)]) (by simp [results, Try.results13, go_sem]) rfl ⟨_, rfl, World.ownsRow_nil _ _ _ _, HT.out⟩

set_option maxHeartbeats 1000000 in
theorem do_u_2 (w : World) (p : Nat) (S : Nat → Prop) (d : Dsk) (k0 : Nat) (a : Ac) (h : Dk w p S d k0) (hk : k0 + 2 ≤ 90000) (hi : a.In w) (hn : a.Near) :
    Calls Try.prog 13 #[.pointer (some ⟨p, 0, none⟩), actV 2 a.name a.dst a.bv a.n a.m a.pn a.pv] w (DoAt w p S d k0 a 2) := by
  have HD := Lib.hid (fun o => h.below (below_alloc w o) (Nat.le_refl _))
  go_enter Try.func13, Try.ntmps13
  go_wp2_with fail
  refine (sync_u _ p S d k0 a.name (HD.out _) hk).mono ?_
  rintro e w1 ⟨rfl, ht⟩
  have HT := Lib.hid (Dt.pre (below_alloc w _) ht)
  clear ht
  go_wp2_with fail
  refine (code_any (d.sync a.name).2 _ (sync_le d _)).mono ?_
  rintro e w3 ⟨rfl, rfl⟩
  go_wp2
  exact bodyPost_ret (v := .tuple #[.slice none 0 0, .int .i64 0, .int .i64 ((d.sync a.name).2 : Int)]) (by simp [results, Try.results13, go_sem]) rfl ⟨_, rfl, World.ownsRow_nil _ _ _ _, HT.out⟩

set_option maxHeartbeats 1000000 in
theorem do_u_3 (w : World) (p : Nat) (S : Nat → Prop) (d : Dsk) (k0 : Nat) (a : Ac) (h : Dk w p S d k0) (hk : k0 + 2 ≤ 90000) (hi : a.In w) (hn : a.Near) :
    Calls Try.prog 13 #[.pointer (some ⟨p, 0, none⟩), actV 3 a.name a.dst a.bv a.n a.m a.pn a.pv] w (DoAt w p S d k0 a 3) := by
  have HD := Lib.hid (fun o => h.below (below_alloc w o) (Nat.le_refl _))
  go_enter Try.func13, Try.ntmps13
  go_wp2_with fail
  refine (syncNames_u _ p S d k0 (HD.out _) hk).mono ?_
  rintro e w1 ⟨rfl, ht⟩
  have HT := Lib.hid (Dt.pre (below_alloc w _) ht)
  clear ht
  go_wp2_with fail
  refine (code_any (d.syncNames).2 _ (syncNames_le d)).mono ?_
  rintro e w3 ⟨rfl, rfl⟩
  go_wp2
  exact bodyPost_ret (v := .tuple #[.slice none 0 0, .int .i64 0, .int .i64 ((d.syncNames).2 : Int)]) (by simp [results, Try.results13, go_sem]) rfl ⟨_, rfl, World.ownsRow_nil _ _ _ _, HT.out⟩

set_option maxHeartbeats 1000000 in
theorem do_u_4 (w : World) (p : Nat) (S : Nat → Prop) (d : Dsk) (k0 : Nat) (a : Ac) (h : Dk w p S d k0) (hk : k0 + 2 ≤ 90000) (hi : a.In w) (hn : a.Near) :
    Calls Try.prog 13 #[.pointer (some ⟨p, 0, none⟩), actV 4 a.name a.dst a.bv a.n a.m a.pn a.pv] w (DoAt w p S d k0 a 4) := by
  have HD := Lib.hid (fun o => h.below (below_alloc w o) (Nat.le_refl _))
  go_enter Try.func13, Try.ntmps13
  go_wp2_with fail
  refine (rename_u _ p S d k0 a.name a.dst (HD.out _) hk (by have := hn.name; omega) (by have := hn.dst; omega)).mono ?_
  rintro e w1 ⟨rfl, ht⟩
  have HT := Lib.hid (Dt.pre (below_alloc w _) ht)
  clear ht
  go_wp2_with fail
  refine (code_any (d.rename a.name a.dst).2 _ (rename_le d _ _)).mono ?_
  rintro e w3 ⟨rfl, rfl⟩
  go_wp2
  exact bodyPost_ret (v := .tuple #[.slice none 0 0, .int .i64 0, .int .i64 ((d.rename a.name a.dst).2 : Int)]) (by simp [results, Try.results13, go_sem]) rfl ⟨_, rfl, World.ownsRow_nil _ _ _ _, HT.out⟩

set_option maxHeartbeats 1000000 in
theorem do_u_5 (w : World) (p : Nat) (S : Nat → Prop) (d : Dsk) (k0 : Nat) (a : Ac) (h : Dk w p S d k0) (hk : k0 + 2 ≤ 90000) (hi : a.In w) (hn : a.Near) :
    Calls Try.prog 13 #[.pointer (some ⟨p, 0, none⟩), actV 5 a.name a.dst a.bv a.n a.m a.pn a.pv] w (DoAt w p S d k0 a 5) := by
  have HD := Lib.hid (fun o => h.below (below_alloc w o) (Nat.le_refl _))
  go_enter Try.func13, Try.ntmps13
  go_wp2_with fail
  refine (remove_u _ p S d k0 a.name (HD.out _) hk (by have := hn.name; omega)).mono ?_
  rintro e w1 ⟨rfl, ht⟩
  have HT := Lib.hid (Dt.pre (below_alloc w _) ht)
  clear ht
  go_wp2_with fail
  refine (code_any (d.remove a.name).2 _ (remove_le d _)).mono ?_
  rintro e w3 ⟨rfl, rfl⟩
  go_wp2
  exact bodyPost_ret (v := .tuple #[.slice none 0 0, .int .i64 0, .int .i64 ((d.remove a.name).2 : Int)]) (by simp [results, Try.results13, go_sem]) rfl ⟨_, rfl, World.ownsRow_nil _ _ _ _, HT.out⟩

set_option maxHeartbeats 1000000 in
theorem do_u_6 (w : World) (p : Nat) (S : Nat → Prop) (d : Dsk) (k0 : Nat) (a : Ac) (h : Dk w p S d k0) (hk : k0 + 2 ≤ 90000) (hi : a.In w) (hn : a.Near) :
    Calls Try.prog 13 #[.pointer (some ⟨p, 0, none⟩), actV 6 a.name a.dst a.bv a.n a.m a.pn a.pv] w (DoAt w p S d k0 a 6) := by
  have HD := Lib.hid (fun o => h.below (below_alloc w o) (Nat.le_refl _))
  go_enter Try.func13, Try.ntmps13
  go_wp2_with fail
  refine (cut_u _ p S d k0 a.name a.n (HD.out _) hk hi.n.1 hi.n.2).mono ?_
  rintro e w1 ⟨rfl, ht⟩
  have HT := Lib.hid (Dt.pre (below_alloc w _) ht)
  clear ht
  go_wp2_with fail
  refine (code_any (d.cut a.name a.n).2 _ (cut_le d _ _)).mono ?_
  rintro e w3 ⟨rfl, rfl⟩
  go_wp2
  exact bodyPost_ret (v := .tuple #[.slice none 0 0, .int .i64 0, .int .i64 ((d.cut a.name a.n).2 : Int)]) (by simp [results, Try.results13, go_sem]) rfl ⟨_, rfl, World.ownsRow_nil _ _ _ _, HT.out⟩

set_option maxHeartbeats 1000000 in
theorem do_u_7 (w : World) (p : Nat) (S : Nat → Prop) (d : Dsk) (k0 : Nat) (a : Ac) (h : Dk w p S d k0) (hk : k0 + 2 ≤ 90000) (hi : a.In w) (hn : a.Near) :
    Calls Try.prog 13 #[.pointer (some ⟨p, 0, none⟩), actV 7 a.name a.dst a.bv a.n a.m a.pn a.pv] w (DoAt w p S d k0 a 7) := by
  have HD := Lib.hid (fun o => h.below (below_alloc w o) (Nat.le_refl _))
  go_enter Try.func13, Try.ntmps13
  go_wp2_with fail
  refine (arm_u _ p S d k0 a.n (HD.out _) hk hi.n.2).mono ?_
  rintro e w1 ⟨rfl, ht⟩
  have HT := Lib.hid (Dt.pre (below_alloc w _) ht)
  clear ht
  go_wp2_with fail
  refine (code_any (d.arm a.n).2 _ (arm_le d _)).mono ?_
  rintro e w3 ⟨rfl, rfl⟩
  go_wp2
  exact bodyPost_ret (v := .tuple #[.slice none 0 0, .int .i64 0, .int .i64 ((d.arm a.n).2 : Int)]) (by simp [results, Try.results13, go_sem]) rfl ⟨_, rfl, World.ownsRow_nil _ _ _ _, HT.out⟩

set_option maxHeartbeats 1000000 in
theorem do_u_8 (w : World) (p : Nat) (S : Nat → Prop) (d : Dsk) (k0 : Nat) (a : Ac) (h : Dk w p S d k0) (hk : k0 + 2 ≤ 90000) (hi : a.In w) (hn : a.Near) :
    Calls Try.prog 13 #[.pointer (some ⟨p, 0, none⟩), actV 8 a.name a.dst a.bv a.n a.m a.pn a.pv] w (DoAt w p S d k0 a 8) := by
  have HD := Lib.hid (fun o => h.below (below_alloc w o) (Nat.le_refl _))
  go_enter Try.func13, Try.ntmps13
  go_wp2_with fail
  refine (picks_any a.pn a.pv a.pf _ (hi.p.mono (below_alloc w _) (Nat.le_refl _)) (by have := hn.pf; omega)).mono ?_
  rintro e w1 ⟨v', rfl, hown, hb⟩
  obtain ⟨x, c, rfl, _, _⟩ := ownsRow_slice hown
  have HX := Lib.hid (IsX.own hown)
  have HL := Lib.hid hown.lt
  have HB := Lib.hid ((below_alloc w _).trans (hb.mono (by simp)))
  have HD1 := Lib.hid ((HD.out _).below hb (Nat.le_refl _))
  clear hown hb
  go_wp2_with fail
  refine (crash_u _ p S d k0 a.pn _ a.pf HD1.out hk HX.out (by have := hn.pf; omega) (fun b hb hs => by have h1 := (HL.out b hb.2).1; have h2 := h.lt b hs; simp at h1; omega)).mono ?_
  rintro e w2 ⟨rfl, ht⟩
  have HT := Lib.hid (Dt.pre HB.out ht)
  clear ht
  go_wp2_with fail
  refine (code_nil _).mono ?_
  rintro e w3 ⟨rfl, rfl⟩
  go_wp2
  exact bodyPost_ret (v := .tuple #[.slice none 0 0, .int .i64 0, .int .i64 0]) (by simp [results, Try.results13, go_sem]) rfl ⟨_, rfl, World.ownsRow_nil _ _ _ _, HT.out⟩

set_option maxHeartbeats 1000000 in
theorem do_u_9 (w : World) (p : Nat) (S : Nat → Prop) (d : Dsk) (k0 : Nat) (a : Ac) (h : Dk w p S d k0) (hk : k0 + 2 ≤ 90000) (hi : a.In w) (hn : a.Near) :
    Calls Try.prog 13 #[.pointer (some ⟨p, 0, none⟩), actV 9 a.name a.dst a.bv a.n a.m a.pn a.pv] w (DoAt w p S d k0 a 9) := by
  have HD := Lib.hid (fun o => h.below (below_alloc w o) (Nat.le_refl _))
  have hx := u8_wrap a.m
  unfold DoAt actD
  generalize UInt8.ofNat (a.m % 256).toNat = X at hx ⊢
  go_enter Try.func13, Try.ntmps13
  go_wp2_with fail
  refine (spoil_u _ p S d k0 a.name a.n X (HD.out _) hk hi.n.1 hi.n.2).mono ?_
  rintro e w1 ⟨rfl, ht⟩
  have HT := Lib.hid (Dt.pre (below_alloc w _) ht)
  clear ht
  go_wp2_with fail
  refine (code_any (d.spoil a.name a.n X).2 _ (spoil_le d _ _ _)).mono ?_
  rintro e w3 ⟨rfl, rfl⟩
  go_wp2
  exact bodyPost_ret (v := .tuple #[.slice none 0 0, .int .i64 0, .int .i64 ((d.spoil a.name a.n X).2 : Int)]) (by simp [results, Try.results13, go_sem]) rfl ⟨_, rfl, World.ownsRow_nil _ _ _ _, HT.out⟩

set_option maxHeartbeats 1000000 in
theorem do_u_10 (w : World) (p : Nat) (S : Nat → Prop) (d : Dsk) (k0 : Nat) (a : Ac) (h : Dk w p S d k0) (hk : k0 + 2 ≤ 90000) (hi : a.In w) (hn : a.Near) :
    Calls Try.prog 13 #[.pointer (some ⟨p, 0, none⟩), actV 10 a.name a.dst a.bv a.n a.m a.pn a.pv] w (DoAt w p S d k0 a 10) := by
  have HD := Lib.hid (fun o => h.below (below_alloc w o) (Nat.le_refl _))
  go_enter Try.func13, Try.ntmps13
  go_wp2_with fail
  refine (read_u _ p S d k0 a.name a.n a.m (HD.out _) hi.n.1 hi.n.2 hi.m.1 hi.m.2).mono ?_
  rintro e w1 ⟨v', rfl, hown, hb⟩
  have HO := Lib.hid (ownsRow_base hown (base' := w.heap.size) (by simp))
  have HT := Lib.hid (Dt.self (k' := k0 + 2) h ((below_alloc w _).trans (hb.mono (by simp))) (by omega) hk)
  clear hown hb
  go_wp2_with fail
  refine (code_any (d.read a.name a.n a.m).2 _ (read_le d _ _ _)).mono ?_
  rintro e w3 ⟨rfl, rfl⟩
  go_wp2
  exact bodyPost_ret (v := .tuple #[v', .int .i64 0, .int .i64 ((d.read a.name a.n a.m).2 : Int)]) (by simp [results, Try.results13, go_sem]) rfl ⟨_, rfl, HO.out, HT.out⟩

set_option maxHeartbeats 1000000 in
theorem do_u_11 (w : World) (p : Nat) (S : Nat → Prop) (d : Dsk) (k0 : Nat) (a : Ac) (h : Dk w p S d k0) (hk : k0 + 2 ≤ 90000) (hi : a.In w) (hn : a.Near) :
    Calls Try.prog 13 #[.pointer (some ⟨p, 0, none⟩), actV 11 a.name a.dst a.bv a.n a.m a.pn a.pv] w (DoAt w p S d k0 a 11) := by
  have HD := Lib.hid (fun o => h.below (below_alloc w o) (Nat.le_refl _))
  go_enter Try.func13, Try.ntmps13
  go_wp2_with fail
  refine (size_u _ p S d k0 a.name (HD.out _)).mono ?_
  rintro e w1 ⟨rfl, hb⟩
  have HT := Lib.hid (Dt.self (k' := k0 + 2) h ((below_alloc w _).trans (hb.mono (by simp))) (by omega) hk)
  clear hb
  go_wp2_with fail
  refine (code_any (d.size a.name).2 _ (size_le d _)).mono ?_
  rintro e w3 ⟨rfl, rfl⟩
  go_wp2
  exact bodyPost_ret (v := .tuple #[.slice none 0 0, .int .i64 ((d.size a.name).1 : Int), .int .i64 ((d.size a.name).2 : Int)]) (by simp [results, Try.results13, go_sem]) rfl ⟨_, rfl, World.ownsRow_nil _ _ _ _, HT.out⟩

theorem do_u (w : World) (p : Nat) (S : Nat → Prop) (d : Dsk) (k0 : Nat) (a : Ac) (k : Nat) (hak : a.kind = (k : Int)) (h : Dk w p S d k0) (hk : k0 + 2 ≤ 90000) (hi : a.In w) (hn : a.Near) :
    Calls Try.prog 13 #[.pointer (some ⟨p, 0, none⟩), actV (k : Int) a.name a.dst a.bv a.n a.m a.pn a.pv] w (DoAt w p S d k0 a k) := by
  have hk11 : k < 12 := by have := hn.k11; omega
  match k, hk11 with
  | 0, _ => exact do_u_0 w p S d k0 a h hk hi hn
  | 1, _ => exact do_u_1 w p S d k0 a h hk hi hn
  | 2, _ => exact do_u_2 w p S d k0 a h hk hi hn
  | 3, _ => exact do_u_3 w p S d k0 a h hk hi hn
  | 4, _ => exact do_u_4 w p S d k0 a h hk hi hn
  | 5, _ => exact do_u_5 w p S d k0 a h hk hi hn
  | 6, _ => exact do_u_6 w p S d k0 a h hk hi hn
  | 7, _ => exact do_u_7 w p S d k0 a h hk hi hn
  | 8, _ => exact do_u_8 w p S d k0 a h hk hi hn
  | 9, _ => exact do_u_9 w p S d k0 a h hk hi hn
  | 10, _ => exact do_u_10 w p S d k0 a h hk hi hn
  | 11, _ => exact do_u_11 w p S d k0 a h hk hi hn

end Go.Proofs.Ytnofabeajcdddaa
