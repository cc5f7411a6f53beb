/- The statements of layer 1 (pack): the last walk. -/
import Derived.Test.YtmcihecipcgcoaaLaw01d
namespace Go.Proofs.Ytmcihecipcgcoaa
open Go.RowKit Go.Cor
set_option linter.unusedVariables false

/-- A slice of numbers. -/
def IsN (w : World) (v : Value) (ns : List Nat) : Prop :=
  ∃ a cap, v = .slice a ns.length cap ∧ (ns.length = 0 ∨ ∃ b off, a = some ⟨b, off, none⟩ ∧ ∀ i, i < ns.length → w.cell? ⟨b, off + i, none⟩ = some (.int .u64 (ns.getD i 0 : Nat))) ∧ ∀ i, i < ns.length → ns.getD i 0 < 18446744073709551616

theorem isN_of_row {w : World} {a : Option Addr} {len cap : Nat} {zs : List Int}
    (h : (a = none ∧ len = 0 ∧ cap = 0 ∧ zs = []) ∨
      ∃ x, a = some x ∧ len ≤ cap ∧ cap ≤ maxLen ∧ zs.length = cap ∧ (∀ i, i < zs.length → w.cell? (x.add i) = some (.int .u64 (zs.getD i 0))) ∧ ∀ n ∈ zs, (Lit.int .u64 n).wf = true) :
    ∃ ns : List Nat, ns.length = len ∧ IsN w (.slice a len cap) ns := by
  rcases h with ⟨rfl, rfl, rfl, rfl⟩ | ⟨x, rfl, hl, hm, hz, hcell, hwz⟩
  · exact ⟨[], rfl, none, 0, rfl, .inl rfl, by simp⟩
  · have hlen : ((zs.take len).map Int.toNat).length = len := by simp; omega
    have hget : ∀ i, i < len → ((zs.take len).map Int.toNat).getD i 0 = (zs.getD i 0).toNat := fun i hi => by
      simp only [List.getD_eq_getElem?_getD, List.getElem?_map, List.getElem?_take, if_pos hi]
      rw [List.getElem?_eq_getElem (by omega)]
      simp
    have hb : ∀ i, i < len → 0 ≤ zs.getD i 0 ∧ zs.getD i 0 < 18446744073709551616 := fun i hi =>
      wf_u64 (hwz (zs.getD i 0) (by rw [List.getD_eq_getElem?_getD, List.getElem?_eq_getElem (by omega)]; simp))
    refine ⟨(zs.take len).map Int.toNat, hlen, some x, cap, by rw [hlen], ?_, fun i hi => ?_⟩
    · rw [hlen]
      by_cases h0 : len = 0
      · exact .inl h0
      · obtain ⟨b, off, spot⟩ := x
        have hc := hcell 0 (by omega)
        have hspot : spot = none := by simpa [Addr.add] using World.cell?_spot hc
        subst hspot
        refine .inr ⟨b, off, rfl, fun i hi => ?_⟩
        have h1 := hcell i (by omega)
        rw [add_lit] at h1
        rw [h1, hget i hi]
        have := hb i hi
        congr 2
        omega
    · rw [hlen] at hi
      rw [hget i hi]
      have := hb i hi
      omega

/-- Numbers one behind the other. -/
def cat (ns : List Nat) : List UInt8 := ns.flatMap fun n => le n 8
theorem length_cat (ns : List Nat) : (cat ns).length = 8 * ns.length := by
  induction ns with
  | nil => rfl
  | cons n r ih => rw [cat, List.flatMap_cons, List.length_append, length_le, List.length_cons, ← cat, ih]; omega
theorem cat_snoc (ns : List Nat) (k : Nat) (h : k < ns.length) : cat (ns.take (k + 1)) = cat (ns.take k) ++ le (ns.getD k 0) 8 := by
  rw [List.take_succ_eq_append_getElem h, cat, List.flatMap_append, ← cat]
  simp [List.getD_eq_getElem?_getD, List.getElem?_eq_getElem h]
theorem cat_drop (ns : List Nat) (k : Nat) (h : k < ns.length) : ∃ r, (cat ns).drop (8 * k) = le (ns.getD k 0) 8 ++ r := by
  refine ⟨cat (ns.drop (k + 1)), ?_⟩
  have h2 : cat ns = cat (ns.take (k + 1)) ++ cat (ns.drop (k + 1)) := by
    rw [cat, cat, cat, ← List.flatMap_append, List.take_append_drop]
  rw [h2, cat_snoc ns k h, List.append_assoc]
  exact List.drop_left' (by rw [length_cat]; simp; omega)
theorem le_take (n a b : Nat) (h : a ≤ b) : (le n b).take a = le n a := by
  induction a generalizing n b with
  | zero => simp [le]
  | succ a ih =>
    cases b with
    | zero => omega
    | succ b => rw [le, le, List.take_succ_cons, ih _ _ (by omega)]

theorem cat_num8 (ns : List Nat) (k : Nat) (h : k < ns.length) (hn : ns.getD k 0 < 18446744073709551616) : num (((cat ns).drop (8 * k)).take 8) = ns.getD k 0 := by
  obtain ⟨r, hr⟩ := cat_drop ns k h
  rw [hr, List.take_left' (length_le _ _), num_le]
  exact Nat.mod_eq_of_lt hn
theorem cat_num2 (ns : List Nat) (k : Nat) (h : k < ns.length) : num (((cat ns).drop (8 * k)).take 2) = ns.getD k 0 % 65536 := by
  obtain ⟨r, hr⟩ := cat_drop ns k h
  rw [hr, List.take_append_of_le_length (by rw [length_le]; decide), le_take _ _ _ (by decide), num_le]

theorem and_65535 (n : Nat) (h : n < 18446744073709551616) : bits .and .u64 (n : Int) 65535 = ((n % 65536 : Nat) : Int) := by
  have := u64_and_nat n 65535 h (by decide)
  rw [show ((65535 : Nat) : Int) = 65535 from rfl] at this
  rw [this]
  congr 1
  exact Nat.and_two_pow_sub_one_eq_mod n 16

/-- The places. -/
def places (k : Nat) : List Value := (List.range k).map fun j : Nat => .int .i64 (8 * (j : Int))
theorem places_succ (k : Nat) : places (k + 1) = places k ++ [.int .i64 (8 * (k : Int))] := by
  simp [places, List.range_succ]
theorem length_places (k : Nat) : (places k).length = k := by simp [places]
theorem places_get (n k : Nat) (h : k < n) : (places n)[k]? = some (.int .i64 (8 * (k : Int))) := by
  simp [places, List.getElem?_range h]

theorem ownsRow_below {w w' : World} {base : Nat} {e : TypeId} {size : Nat} {v : Value} {n : Nat} {xs : List Value} {B : Nat} (h : w.ownsRow base e size v n xs) (hb : Below B w w') (hB : w.heap.size ≤ B) : w'.ownsRow base e size v n xs := by
  refine ⟨h.1, ?_⟩
  rcases h.2 with h2 | ⟨g, cap, cur, h1, h2, h3, h4⟩
  · exact .inl h2
  · refine .inr ⟨g, cap, cur, h1, h2, ?_, h4⟩
    have : g < w.heap.size := (Array.getElem?_eq_some_iff.1 h3).1
    rw [hb.block g (by omega)]
    exact h3

theorem ownsRow_base {w : World} {base base' : Nat} {e : TypeId} {size : Nat} {v : Value} {n : Nat} {xs : List Value} (h : w.ownsRow base e size v n xs) (hB : base' ≤ base) : w.ownsRow base' e size v n xs := by
  refine ⟨h.1, ?_⟩
  rcases h.2 with h2 | ⟨g, cap, cur, h1, h2, h3⟩
  · exact .inl h2
  · exact .inr ⟨g, cap, cur, h1, by omega, h3⟩

/-- What Put tells, as a row of its own. -/
theorem put_okO (v : Value) (l : List UInt8) (n : Nat) (s : Nat) (w : World) (h : Sized (s : Int)) (hn : n ≤ great (s : Int)) (hv : IsB w v l) (hl : l.length ≤ 1099511627776) :
    Calls Try.prog 9 #[v, .int .u64 n, .int .i64 (s : Int)] w fun e w' =>
      ∃ g cap, e = .returned (.tuple #[.slice (some ⟨g, 0, none⟩) (l.length + s) cap, .nilIface]) ∧ w'.ownsRow w.heap.size 5 1 (.slice (some ⟨g, 0, none⟩) (l.length + s) cap) (l.length + s) (bvs (l ++ le n s)) ∧ w.heap.size ≤ g ∧ g < w'.heap.size ∧ Below w.heap.size w w' := by
  refine (put_ok v l n s w h hn hv hl).mono ?_
  rintro e w' ⟨v', rfl, hown, hb⟩
  rw [show (l ++ le n s).length = l.length + s from by simp [length_le]] at *
  have hs1 : 1 ≤ s := by unfold Sized at h; omega
  rcases hown.2 with ⟨_, h0⟩ | ⟨g, cap, cur, rfl, h1, h2, h3⟩
  · omega
  · exact ⟨g, cap, rfl, hown, h1, (Array.getElem?_eq_some_iff.1 h2).1, hb⟩

theorem cat_facts {w wr w2 : World} {a b : Value} {o : Obj} {k n : Nat} {xs ys : List Value} {p : Addr} {u : Value} {e e' : TypeId}
    (hg : (wr.alloc o).grownBy w2 a.ownBlock) (hbel : Below w.heap.size w wr) (howna : wr.ownsRow w.heap.size e 1 a k xs) (hownb : wr.ownsRow w.heap.size e' 1 b n ys)
    (hne : b.ownBlock = none ∨ b.ownBlock ≠ a.ownBlock) (hc : w.cell? p = some u) :
    Hid (w2.ownsRow w.heap.size e' 1 b n ys) ∧ Below w.heap.size w w2 ∧ w2.cell? p = some u := by
  have hb2 : Below w.heap.size w w2 := (hbel.alloc hbel.size _).grown hg (by have := hbel.size; simp; omega) (fun j hj => (howna.lt j hj).1)
  exact ⟨(hownb.alloc _).kept hg hne, hb2, by rw [hb2.cell (cell_lt hc)]; exact hc⟩

theorem Try.infoInt : (Try.prog.info? 3).map (fun i => (i.zero, i.size, i.bytes)) = some (some (.int .i64 0), 1, 8) := by kernel_rfl

set_option maxHeartbeats 1000000 in
theorem packCat_any (x : Option Addr) (cap : Nat) (ns : List Nat) (w : World) (hv : IsN w (.slice x ns.length cap) ns) :
    Calls Try.prog 6 #[.slice x ns.length cap] w fun e w' => e = .returned (.bool true) ∧ Below w.heap.size w w' := by
  by_cases hl : 100 < ns.length
  · clear hv
    go_enter Try.func6, Try.ntmps6
    go_wp2_with (go_at_call 8; refine (alive_any _).mono ?_; rintro e w1 ⟨rfl, hb1⟩)
    go_ret
    exact ⟨rfl, hb1⟩
  have HC : Hid (∀ i, i < ns.length → ∃ b off, x = some ⟨b, off, none⟩ ∧ w.cell? ⟨b, off + i, none⟩ = some (.int .u64 (ns.getD i 0 : Nat)) ∧ ns.getD i 0 < 18446744073709551616) := by
    obtain ⟨a, c, e, hc, hn⟩ := hv
    cases e
    intro i hi
    rcases hc with hE | ⟨b, off, rfl, hc⟩
    · omega
    · exact ⟨b, off, rfl, hc i hi, hn i hi⟩
  clear hv
  obtain ⟨i0, hi0, hz0, hz1, hz2⟩ := info_parts Try.infoInt
  go_enter Try.func6, Try.ntmps6
  go_wp2_with fail
  refine (alive_any _).mono ?_
  rintro e w1 ⟨rfl, hb1⟩
  have hown0 : (w1.alloc (.cells #[] 3)).ownsRow w.heap.size 3 1 (.slice (some ⟨w1.heap.size, 0, none⟩) 0 0) 0 (places 0) := by
    have := World.ownsRow_lit (base := w.heap.size) (e := 3) (size := 1) w1 #[] 0 hb1.size (Nat.zero_le _) rfl
    simpa [places] using this
  go_wp2_with fail
  go_loopw [3, 4, 5, 6, 7] (fun b a i _ _ wr => ∃ k : Nat, ∃ y c, k ≤ ns.length ∧ i = .int .i64 k ∧ b = .slice y (8 * k) c ∧ wr.ownsRow w.heap.size 5 1 b (8 * k) (bvs (cat (ns.take k))) ∧ wr.ownsRow w.heap.size 3 1 a k (places k) ∧ (b.ownBlock = none ∨ b.ownBlock ≠ a.ownBlock) ∧ Below w.heap.size w wr) (fun _ _ i _ _ _ => ns.length - (intOf i).toNat)
  case atStart => exact ⟨0, none, 0, by omega, rfl, rfl, World.ownsRow_nil _ _ _ _, hown0, .inl rfl, hb1.alloc hb1.size _⟩
  case round =>
    obtain ⟨k, y, c, hk, rfl, rfl, hownb, howna, hne, hbel⟩ := hrel
    by_cases hlt : k < ns.length
    · obtain ⟨b, off, rfl, hcell, hn64⟩ := HC.out k hlt
      obtain ⟨n, hn⟩ : ∃ n, n = ns.getD k 0 := ⟨_, rfl⟩
      rw [← hn] at hcell hn64
      have HN := Lib.hid hn
      clear hn
      go_wp2_with (at_builtin; refine wpList_append_own _ rfl _ _ 46 rfl w.heap.size 3 i0 (.int .i64 0) 1 8 Try.underlying46 hi0 hz0 hz1 hz2 rfl (by decide) _ _ _ rfl (howna.alloc _) ⟨wr.heap.size, 0, none⟩ 1 1 [.int .i64 (8 * (k : Int))] rfl rfl ?c1 ?c2 ?c3 ?c4 ?c5 ?_; rotate_left 5; intro v' w2 hown' hgrow _; obtain ⟨hownb2, hbel2, hcell2⟩ := cat_facts hgrow hbel howna hownb hne hcell; clear hgrow)
      case c1 => exact cell_one_new _ _ _
      case c2 => intro u hu; simp at hu; subst hu; rfl
      case c3 => unfold maxLen; omega
      case c4 => omega
      case c5 => have := hbel.size; simp; omega
      refine (put_okO _ (cat (ns.take k)) n 8 _ (.inr (.inr (.inr rfl))) ?_ (IsB.own hownb2.out (by rw [length_cat]; simp; omega)) (by rw [length_cat]; simp; omega)).mono ?_
      · have : great 8 = 18446744073709551615 := rfl
        show n ≤ great 8
        omega
      rintro e w3 ⟨g, c', rfl, hown3, hg1, hg2, hb3⟩
      have hlen : (cat (ns.take k)).length = 8 * k := by rw [length_cat]; simp; omega
      rw [hlen] at hown3 ⊢
      have H3 := Lib.hid (show w3.ownsRow w.heap.size 5 1 (.slice (some ⟨g, 0, none⟩) (8 * (k + 1)) c') (8 * (k + 1)) (bvs (cat (ns.take (k + 1)))) from by
        rw [cat_snoc ns k hlt, ← HN.out, show 8 * (k + 1) = 8 * k + 8 from by omega]
        exact ownsRow_base hown3 hbel2.size)
      have H4 := Lib.hid (show w3.ownsRow w.heap.size 3 1 v' (k + 1) (places (k + 1)) from by
        rw [places_succ]
        exact ownsRow_below hown' hb3 (Nat.le_refl _))
      have H5 := Lib.hid (show (Value.slice (some ⟨g, 0, none⟩) (8 * (k + 1)) c').ownBlock = none ∨ (Value.slice (some ⟨g, 0, none⟩) (8 * (k + 1)) c').ownBlock ≠ v'.ownBlock from .inr (fun h => by
        have := (hown'.lt g (by rw [← h]; rfl)).2
        omega))
      have H6 := Lib.hid (hbel2.trans (hb3.mono hbel2.size))
      clear hlen hown3 hown' hb3
      go_wp2_with (go_at_call 12; refine (code_nil _).mono ?_; rintro e w5 ⟨rfl, rfl⟩)
      go_roundw
      case rel => exact ⟨k + 1, some ⟨g, 0, none⟩, c', by omega, by go_num, by rw [show 8 * (k + 1) = 8 * k + 8 from by omega], H3.out, H4.out, H5.out, H6.out⟩
      case measure => simp [intOf]; omega
    · obtain rfl : k = ns.length := by omega
      rw [List.take_length] at hownb
      have HB := Lib.hid (IsB.own hownb (by rw [length_cat]))
      have HL := Lib.hid (length_cat ns)
      have HA : Hid (∀ j, j < ns.length → ∃ g cp, u4 = .slice (some ⟨g, 0, none⟩) ns.length cp ∧ wr.cell? ⟨g, j, none⟩ = some (.int .i64 (8 * (j : Int)))) := by
        intro j hj
        rcases howna.2 with ⟨_, h0⟩ | ⟨g, cp, cur, rfl, _⟩
        · omega
        · exact ⟨g, cp, rfl, by rw [howna.cellAt j (by omega), places_get _ _ hj]⟩
      have HBel := Lib.hid hbel
      clear hownb howna hne
      by_cases h0 : ns.length = 0
      · have h0' : (8 * (ns.length : Int) == 0) = true := by simp; omega
        have hneg : 8 * (ns.length : Int) - 7 < 0 := by omega
        go_wp2_with fail
        refine wp_loop_rounds 1 ?_
        rw [rounds_succ]
        go_wp2_with (go_at_call 10; refine (get_arg _ _ _ _ (.inr (by omega))).mono ?_; rintro e w3 ⟨rfl, rfl⟩)
        go_ret
        exact ⟨rfl, HBel.out⟩
      · obtain ⟨g, cp, rfl, _⟩ := HA.out 0 (by omega)
        go_wp2_with fail
        go_loop [8, 9, 10, 11, 12] (fun i _ _ _ _ => ∃ k : Nat, k ≤ ns.length ∧ i = .int .i64 k) (fun i _ _ _ _ => ns.length - (intOf i).toNat)
        case atStart => exact ⟨0, by omega, rfl⟩
        case round =>
          obtain ⟨k, hk, rfl⟩ := hrel
          by_cases hlt : k < ns.length
          · obtain ⟨b, off, rfl, hcell, hn64⟩ := HC.out k hlt
            obtain ⟨g', cp', e', hplace⟩ := HA.out k hlt
            cases e'
            have hcell2 : wr.cell? ⟨b, off + k, none⟩ = some (.int .u64 (ns.getD k 0 : Nat)) := by rw [hbel.cell (cell_lt hcell)]; exact hcell
            have H8 := Lib.hid (get_okJ _ (cat ns) (8 * (k : Int)) (8 * k) 8 wr _ (.inr (.inr (.inr rfl))) (by omega) HB.out (by rw [length_cat]; omega) (by rw [length_cat]; omega) (cat_num8 ns k hlt hn64))
            have H2 := Lib.hid (get_okJ _ (cat ns) (8 * (k : Int)) (8 * k) 2 wr _ (.inr (.inl rfl)) (by omega) HB.out (by rw [length_cat]; omega) (by rw [length_cat]; omega) (cat_num2 ns k hlt))
            have hand := and_65535 _ hn64
            generalize ns.getD k 0 % 65536 = low at H2 hand
            generalize ns.getD k 0 = n at hcell2 H8 H2 hand hn64
            have hlow : low < 18446744073709551616 ∨ True := .inr trivial
            clear hcell hlow
            go_wp2_with fail
            refine H8.out.mono ?_
            rintro e w3 ⟨rfl, rfl⟩
            go_wp2_with fail
            refine H2.out.mono ?_
            rintro e w3 ⟨rfl, rfl⟩
            go_wp2_with (go_at_call 12; refine (code_nil _).mono ?_; rintro e w5 ⟨rfl, rfl⟩)
            go_round
            case rel => exact ⟨k + 1, by omega, by go_num⟩
            case measure => simp [intOf]; omega
          · obtain rfl : k = ns.length := by omega
            obtain ⟨j, hj⟩ : ∃ j : Nat, 8 * (ns.length : Int) - 7 = (j : Int) ∧ 8 * ns.length < j + 8 := ⟨8 * ns.length - 7, by omega, by omega⟩
            have h0' : (8 * (ns.length : Int) == 0) = false := by rw [beq_eq_false_iff_ne]; omega
            have HJ := Lib.hid hj.1
            have hj2 := hj.2
            clear hj
            go_wp2_with fail
            rw [HJ.out]
            refine (get_short _ (cat ns) j 8 _ (.inr (.inr (.inr rfl))) HB.out (by rw [HL.out]; omega) (by have := HJ.out; omega) (by rw [HL.out]; omega)).mono ?_
            rintro e w3 ⟨rfl, rfl⟩
            go_wp2_with (go_at_call 12; refine (code_code 3 _ (by decide) (by decide)).mono ?_; rintro e w5 ⟨rfl, rfl⟩)
            go_ret
            exact ⟨rfl, HBel.out⟩

end Go.Proofs.Ytmcihecipcgcoaa
