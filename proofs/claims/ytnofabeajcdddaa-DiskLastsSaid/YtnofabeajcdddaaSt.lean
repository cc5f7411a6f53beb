/- Package disk for those who use it: each call by contract. -/
import Derived.Test.YtnofabeajcdddaaDok
import Derived.Test.YtnofabeajcdddaaNil
import Derived.Test.YtnofabeajcdddaaErrs
namespace Go.Proofs.Ytnofabeajcdddaa
open Go.RowKit Go.Cor

/-- A disk: its box, where it may lie, what it is; k: no more than so many calls. -/
structure Dk (w : World) (p : Nat) (S : Nat → Prop) (d : Dsk) (k : Nat) : Prop where
  is : IsD w p S d
  ok : d.Ok k
  small : k ≤ 90000
  lt : ∀ b, S b → b < w.heap.size
/-- What a call of a disk leaves. -/
def Dt (w w' : World) (p : Nat) (S : Nat → Prop) (d' : Dsk) (k' : Nat) : Prop := ∃ S' : Nat → Prop, Dk w' p S' d' k' ∧ Kept S w w' ∧ ∀ b, S' b → S b ∨ w.heap.size ≤ b
theorem Dk.kept {S T : Nat → Prop} {w w' : World} {p k : Nat} {d : Dsk} (h : Dk w p S d k) (hk : Kept T w w') (hT : ∀ b, S b → ¬ T b) : Dk w' p S d k := ⟨h.is.kept hk hT, h.ok, h.small, fun b hb => Nat.lt_of_lt_of_le (h.lt b hb) hk.size⟩
theorem Dk.below {S : Nat → Prop} {w w' : World} {p k B : Nat} {d : Dsk} (h : Dk w p S d k) (hb : Below B w w') (hB : w.heap.size ≤ B) : Dk w' p S d k := h.kept (Kept.of_below (S := fun _ => False) hb hB) (fun _ _ h => h)
theorem Dt.of {w w' : World} {L : Lay} {S : Nat → Prop} {d d' : Dsk} {k' : Nat} (hS : ∀ t b, L.own d.files.length t = some b → S b) (hf : Fin' w L d w' d') (ok : d'.Ok k') (hs : k' ≤ 90000) : Dt w w' L.p S d' k' := by
  obtain ⟨S', h1, h2, h3⟩ := Turned.of_fin hS hf
  exact ⟨S', ⟨h1, ok, hs, fun b hb => (h3 b hb).2⟩, h2, fun b hb => (h3 b hb).1⟩
theorem Dt.ge {w w' : World} {p k' B : Nat} {S : Nat → Prop} {d' : Dsk} (h : Dt w w' p S d' k') (hB : B ≤ w.heap.size) (hS : ∀ b, S b → B ≤ b) : ∃ S', Dk w' p S' d' k' ∧ (∀ b, S' b → B ≤ b) ∧ Below B w w' := by
  obtain ⟨S', h1, h2, h3⟩ := h
  refine ⟨S', h1, fun b hb => ?_, h2.below hB (fun k hk hs => by have := hS k hs; omega)⟩
  rcases h3 b hb with h4 | h4
  · exact hS b h4
  · omega
theorem create_u (w : World) (p : Nat) (S : Nat → Prop) (d : Dsk) (k : Nat) (n : ByteArray) (h : Dk w p S d k) (hk : k + 2 ≤ 90000) (hn : n.size ≤ 281474976710656) :
    Calls Try.prog 18 #[.pointer (some ⟨p, 0, none⟩), .string n] w fun e w' => e = .returned (cerr (d.create n).2) ∧ Dt w w' p S (d.create n).1 (k + 2) := by
  have hok := h.ok
  obtain ⟨⟨L, rfl, hc, hA, hS⟩, _, hs, _⟩ := h
  refine (create_any w L d k n ⟨hA, hc, hok, by omega⟩ hn).mono ?_
  rintro e w' ⟨rfl, hf⟩
  exact ⟨rfl, Dt.of hS hf (Ok.create hok n) hk⟩
theorem append_u (w : World) (p : Nat) (S : Nat → Prop) (d : Dsk) (k : Nat) (n : ByteArray) (v : Value) (l : List UInt8) (h : Dk w p S d k) (hk : k + 2 ≤ 90000) (hv : IsB w v l) (hl : l.length ≤ 1000) :
    Calls Try.prog 19 #[.pointer (some ⟨p, 0, none⟩), .string n, v] w fun e w' => e = .returned (cerr (d.append n l).2) ∧ Dt w w' p S (d.append n l).1 (k + 2) := by
  have hok := h.ok
  obtain ⟨⟨L, rfl, hc, hA, hS⟩, _, hs, _⟩ := h
  refine (append_any w L d k n v l ⟨hA, hc, hok, by omega⟩ hv hl).mono ?_
  rintro e w' ⟨rfl, hf⟩
  exact ⟨rfl, Dt.of hS hf (Ok.append hok n l) hk⟩
theorem sync_u (w : World) (p : Nat) (S : Nat → Prop) (d : Dsk) (k : Nat) (n : ByteArray) (h : Dk w p S d k) (hk : k + 2 ≤ 90000) :
    Calls Try.prog 20 #[.pointer (some ⟨p, 0, none⟩), .string n] w fun e w' => e = .returned (cerr (d.sync n).2) ∧ Dt w w' p S (d.sync n).1 (k + 2) := by
  have hok := h.ok
  obtain ⟨⟨L, rfl, hc, hA, hS⟩, _, hs, _⟩ := h
  refine (sync_any w L d k n ⟨hA, hc, hok, by omega⟩).mono ?_
  rintro e w' ⟨rfl, hf⟩
  exact ⟨rfl, Dt.of hS hf (Ok.sync hok n) hk⟩
theorem syncNames_u (w : World) (p : Nat) (S : Nat → Prop) (d : Dsk) (k : Nat) (h : Dk w p S d k) (hk : k + 2 ≤ 90000) :
    Calls Try.prog 21 #[.pointer (some ⟨p, 0, none⟩)] w fun e w' => e = .returned (cerr (d.syncNames).2) ∧ Dt w w' p S (d.syncNames).1 (k + 2) := by
  have hok := h.ok
  obtain ⟨⟨L, rfl, hc, hA, hS⟩, _, hs, _⟩ := h
  refine (syncNames_any w L d k  ⟨hA, hc, hok, by omega⟩).mono ?_
  rintro e w' ⟨rfl, hf⟩
  exact ⟨rfl, Dt.of hS hf (Ok.syncNames hok) hk⟩
theorem rename_u (w : World) (p : Nat) (S : Nat → Prop) (d : Dsk) (k : Nat) (n t : ByteArray) (h : Dk w p S d k) (hk : k + 2 ≤ 90000) (hn : n.size ≤ 281474976710656) (ht : t.size ≤ 281474976710656) :
    Calls Try.prog 23 #[.pointer (some ⟨p, 0, none⟩), .string n, .string t] w fun e w' => e = .returned (cerr (d.rename n t).2) ∧ Dt w w' p S (d.rename n t).1 (k + 2) := by
  have hok := h.ok
  obtain ⟨⟨L, rfl, hc, hA, hS⟩, _, hs, _⟩ := h
  refine (rename_any w L d k n t ⟨hA, hc, hok, by omega⟩ hn ht).mono ?_
  rintro e w' ⟨rfl, hf⟩
  exact ⟨rfl, Dt.of hS hf (Ok.rename hok n t) hk⟩
theorem remove_u (w : World) (p : Nat) (S : Nat → Prop) (d : Dsk) (k : Nat) (n : ByteArray) (h : Dk w p S d k) (hk : k + 2 ≤ 90000) (hn : n.size ≤ 281474976710656) :
    Calls Try.prog 31 #[.pointer (some ⟨p, 0, none⟩), .string n] w fun e w' => e = .returned (cerr (d.remove n).2) ∧ Dt w w' p S (d.remove n).1 (k + 2) := by
  have hok := h.ok
  obtain ⟨⟨L, rfl, hc, hA, hS⟩, _, hs, _⟩ := h
  refine (remove_any w L d k n ⟨hA, hc, hok, by omega⟩ hn).mono ?_
  rintro e w' ⟨rfl, hf⟩
  exact ⟨rfl, Dt.of hS hf (Ok.remove hok n) hk⟩
theorem cut_u (w : World) (p : Nat) (S : Nat → Prop) (d : Dsk) (k : Nat) (n : ByteArray) (z : Int) (h : Dk w p S d k) (hk : k + 2 ≤ 90000) (hm1 : -9223372036854775808 ≤ z) (hm2 : z ≤ 9223372036854775807) :
    Calls Try.prog 32 #[.pointer (some ⟨p, 0, none⟩), .string n, .int .i64 z] w fun e w' => e = .returned (cerr (d.cut n z).2) ∧ Dt w w' p S (d.cut n z).1 (k + 2) := by
  have hok := h.ok
  obtain ⟨⟨L, rfl, hc, hA, hS⟩, _, hs, _⟩ := h
  refine (cut_any w L d k n z ⟨hA, hc, hok, by omega⟩ hm1 hm2).mono ?_
  rintro e w' ⟨rfl, hf⟩
  exact ⟨rfl, Dt.of hS hf (Ok.cut hok n z) hk⟩
theorem arm_u (w : World) (p : Nat) (S : Nat → Prop) (d : Dsk) (k : Nat) (z : Int) (h : Dk w p S d k) (hk : k + 2 ≤ 90000) (hm2 : z ≤ 9223372036854775807) :
    Calls Try.prog 22 #[.pointer (some ⟨p, 0, none⟩), .int .i64 z] w fun e w' => e = .returned (cerr (d.arm z).2) ∧ Dt w w' p S (d.arm z).1 (k + 2) := by
  have hok := h.ok
  obtain ⟨⟨L, rfl, hc, hA, hS⟩, _, hs, _⟩ := h
  refine (arm_any w L d k z ⟨hA, hc, hok, by omega⟩).mono ?_
  rintro e w' ⟨rfl, hf⟩
  exact ⟨rfl, Dt.of hS hf (Ok.armed hok z hm2) hk⟩
theorem spoil_u (w : World) (p : Nat) (S : Nat → Prop) (d : Dsk) (k : Nat) (n : ByteArray) (z : Int) (x : UInt8) (h : Dk w p S d k) (hk : k + 2 ≤ 90000) (hm1 : -9223372036854775808 ≤ z) (hm2 : z ≤ 9223372036854775807) :
    Calls Try.prog 33 #[.pointer (some ⟨p, 0, none⟩), .string n, .int .i64 z, .int .u8 (x.toNat : Int)] w fun e w' => e = .returned (cerr (d.spoil n z x).2) ∧ Dt w w' p S (d.spoil n z x).1 (k + 2) := by
  have hok := h.ok
  obtain ⟨⟨L, rfl, hc, hA, hS⟩, _, hs, _⟩ := h
  refine (spoil_any w L d k n z x ⟨hA, hc, hok, by omega⟩ hm1 hm2).mono ?_
  rintro e w' ⟨rfl, hf⟩
  exact ⟨rfl, Dt.of hS hf (Ok.spoil hok n z x) hk⟩
theorem crash_u (w : World) (p : Nat) (S : Nat → Prop) (d : Dsk) (k : Nat) (names : Int) (pv : Value) (ps : List Pck) (h : Dk w p S d k) (hk : k + 2 ≤ 90000) (hpv : IsX w 2 pv ps.length (row pck ps)) (hps : ps.length ≤ 100000) (hpn : ∀ b, liesX pv ps.length b → ¬ S b) :
    Calls Try.prog 25 #[.pointer (some ⟨p, 0, none⟩), .agg #[.int .i64 names, pv]] w fun e w' => e = .returned .nilIface ∧ Dt w w' p S (d.crash names ps) (k + 2) := by
  have hok := h.ok
  obtain ⟨⟨L, rfl, hc, hA, hS⟩, _, hs, _⟩ := h
  refine (crash_any w L d k names pv ps ⟨hA, hc, hok, by omega⟩ hpv hps (fun b hb ⟨t, ht⟩ => hpn b hb (hS t b ht))).mono ?_
  rintro e w' ⟨rfl, hf⟩
  exact ⟨rfl, Dt.of hS hf (Ok.crash hok names ps) hk⟩
theorem read_u (w : World) (p : Nat) (S : Nat → Prop) (d : Dsk) (k : Nat) (n : ByteArray) (m z : Int) (h : Dk w p S d k) (hm1 : -9223372036854775808 ≤ m) (hm2 : m ≤ 9223372036854775807) (hz1 : -9223372036854775808 ≤ z) (hz2 : z ≤ 9223372036854775807) :
    Calls Try.prog 17 #[.pointer (some ⟨p, 0, none⟩), .string n, .int .i64 m, .int .i64 z] w fun e w' => ∃ v', e = .returned (.tuple #[v', cerr (d.read n m z).2]) ∧ w'.ownsRow w.heap.size 5 1 v' (d.read n m z).1.length (bvs (d.read n m z).1) ∧ Below w.heap.size w w' := by
  have hok := h.ok
  obtain ⟨⟨L, rfl, hc, hA, hS⟩, _, hs, _⟩ := h
  exact read_any w L d k n m z ⟨hA, hc, hok, by omega⟩ hm1 hm2 hz1 hz2
theorem size_u (w : World) (p : Nat) (S : Nat → Prop) (d : Dsk) (k : Nat) (n : ByteArray) (h : Dk w p S d k) :
    Calls Try.prog 27 #[.pointer (some ⟨p, 0, none⟩), .string n] w fun e w' => e = .returned (.tuple #[.int .i64 ((d.size n).1 : Int), cerr (d.size n).2]) ∧ Below w.heap.size w w' := by
  have hok := h.ok
  obtain ⟨⟨L, rfl, hc, hA, hS⟩, _, hs, _⟩ := h
  exact size_any w L d k n ⟨hA, hc, hok, by omega⟩
theorem used_u (w : World) (p : Nat) (S : Nat → Prop) (d : Dsk) (k : Nat) (h : Dk w p S d k) :
    Calls Try.prog 29 #[.pointer (some ⟨p, 0, none⟩)] w fun e w' => e = .returned (.int .i64 (d.used : Int)) ∧ Below w.heap.size w w' := by
  have hok := h.ok
  obtain ⟨⟨L, rfl, hc, hA, hS⟩, _, hs, _⟩ := h
  exact used_any w L d k ⟨hA, hc, hok, by omega⟩
theorem names_u (w : World) (p : Nat) (S : Nat → Prop) (d : Dsk) (k : Nat) (h : Dk w p S d k) :
    Calls Try.prog 28 #[.pointer (some ⟨p, 0, none⟩)] w fun e w' => ∃ v', e = .returned v' ∧ w'.ownsRow w.heap.size 9 1 v' d.now.length (nms d.now) ∧ Below w.heap.size w w' := by
  have hok := h.ok
  obtain ⟨⟨L, rfl, hc, hA, hS⟩, _, hs, _⟩ := h
  exact names_any w L d k ⟨hA, hc, hok, by omega⟩
theorem down_u (w : World) (p : Nat) (S : Nat → Prop) (d : Dsk) (k : Nat) (h : Dk w p S d k) :
    Calls Try.prog 24 #[.pointer (some ⟨p, 0, none⟩)] w fun e w' => e = .returned (.bool (isDown d.armed)) ∧ w = w' := by
  obtain ⟨⟨L, rfl, hc, hA, hS⟩, _, hs, _⟩ := h
  exact down_any w L d hA.blk
theorem new_u (cap : Nat) (w : World) (hc : cap ≤ 1073741824) :
    Calls Try.prog 10 #[.int .i64 (cap : Int)] w fun e w' => ∃ p, e = .returned (.tuple #[.pointer (some ⟨p, 0, none⟩), .nilIface]) ∧ Dk w' p (fun b => b = p) (newD cap) 0 ∧ w.heap.size ≤ p ∧ Below w.heap.size w w' := by
  refine (new_ok cap w hc).mono ?_
  rintro e w' ⟨rfl, h1, h2, h3⟩
  exact ⟨_, rfl, ⟨h1, ⟨hc, List.Pairwise.nil, List.Pairwise.nil, (fun e he => by cases he), (fun e he => by cases he), (fun e he => by cases he), (fun e he => by cases he), Nat.le_refl _, Nat.le_refl _, Nat.le_refl _, (fun n hn => by cases hn)⟩, by decide, fun b hb => by rw [hb]; exact h3⟩, Nat.le_refl _, h2⟩
theorem code_any (k : Nat) (w : World) (hk : k ≤ 17) :
    Calls Try.prog 11 #[cerr k] w fun e w' => e = .returned (.int .i64 (k : Int)) ∧ w = w' := by
  by_cases h : k = 0
  · subst h
    exact code_nil w
  · rw [cerr_pos h]
    exact code_code k w (by omega) (by omega)

end Go.Proofs.Ytnofabeajcdddaa
