/- Zc, Zf. -/
import Derived.Test.YtllbngopfganjaaGreatDoorM16
import Derived.Test.YtllbngopfganjaaGreatDoorM1
import Derived.Test.YtllbngopfganjaaGreatDoorM10
import Derived.Test.YtllbngopfganjaaGreatDoorM3
import Derived.WalkKit
import Derived.ProofKit
import Derived.Lib.Hide
set_option linter.unusedVariables false
set_option linter.unusedSimpArgs false

section
namespace Go.Proofs.YtllbngopfganjaaGreatDoor.Nd
open Go.RowKit Go.Cor

theorem NodeZ.base {w : World} {B B' g : Nat} {S : Nat → Prop} {n : NodeP} {r : Nat} (h : NodeZ w B g S n r) (hB : B' ≤ B) : NodeZ w B' g S n r := by
  obtain ⟨b, q, So, Sv, St, vg, p, tg, d, k, most, wv, ⟨hp, h2, h3, h4, h5, h6, h7⟩, hS⟩ := h
  obtain ⟨b0, l0, k1, k2, k3, k4, k5, k6⟩ := hp.tb
  exact ⟨b, q, So, Sv, St, vg, p, tg, d, k, most, wv, ⟨⟨hp.vr, ⟨b0, l0, k1, k2, k3, k4, k5, fun j hj => ⟨Nat.le_trans hB (k6 j hj).1, (k6 j hj).2⟩⟩, hp.ov, hp.ot, hp.vt, fun j hj => Nat.le_trans hB (hp.lo j hj), fun j hj => ⟨Nat.le_trans hB (hp.ow j hj).1, (hp.ow j hj).2⟩, hp.sz, hp.few, hp.steps, hp.tl⟩, h2, h3, h4, h5, h6, h7⟩, hS⟩
theorem zhandle {w : World} {B g : Nat} {S : Nat → Prop} {n : NodeP} {r : Nat} (h : NodeZ w B g S n (r + 1)) (m : Msg) (x : Option Addr) (L c : Nat) (hv : IsB w (.slice x L c) m.n.data) (hvS : ∀ b, liesB (.slice x L c) m.n.data b → ¬ S b) (hf : m.n.fits) (hid : m.id < 18446744073709551616) (h3 : m.n.data.length ≤ 300) (hg : laidE w) (hB0 : 0 < B) :
    Calls Tryz.prog 9 #[.pointer (some ⟨g, 0, none⟩), mval m (.slice x L c)] w fun e w' => ∃ ax an ac, e = .returned (.tuple #[mval (handM n m) (.slice ax an ac), cerr (handK n m)]) ∧ IsB w' (.slice ax an ac) (handM n m).n.data ∧ (∃ S', NodeZ w' B g S' (handN n m) r ∧ (∀ k, S' k → S k ∨ w.heap.size ≤ k) ∧ Kept S w w' ∧ ∀ b, liesB (.slice ax an ac) (handM n m).n.data b → w.heap.size ≤ b ∧ ¬ S' b) := by
  have hN := h
  obtain ⟨b, q, So, Sv, St, vg, p, tg, d, k, most, wv, h1, hS⟩ := h
  obtain ⟨fr, tt, kd, vo, li, id, co, has, ⟨key, ck, gn, md⟩⟩ := m
  dsimp only at hv hvS hf hid h3
  have hwid : wfU id := wfU_of hid
  have hsame : ∀ (k : Nat) (M : Msg) (v : Value), newB n ⟨fr, tt, kd, vo, li, id, co, has, ⟨key, ck, gn, md⟩⟩ = false → handK n ⟨fr, tt, kd, vo, li, id, co, has, ⟨key, ck, gn, md⟩⟩ = k → handM n ⟨fr, tt, kd, vo, li, id, co, has, ⟨key, ck, gn, md⟩⟩ = M → ∀ (e : Ending) (w' : World), (∃ ax an ac, e = .returned (.tuple #[mval M (.slice ax an ac), cerr k]) ∧ IsB w' (.slice ax an ac) M.n.data ∧ (∀ j, liesB (.slice ax an ac) M.n.data j → w.heap.size ≤ j) ∧ Below w.heap.size w w') →
      ∃ ax an ac, e = .returned (.tuple #[mval (handM n ⟨fr, tt, kd, vo, li, id, co, has, ⟨key, ck, gn, md⟩⟩) (.slice ax an ac), cerr (handK n ⟨fr, tt, kd, vo, li, id, co, has, ⟨key, ck, gn, md⟩⟩)]) ∧ IsB w' (.slice ax an ac) (handM n ⟨fr, tt, kd, vo, li, id, co, has, ⟨key, ck, gn, md⟩⟩).n.data ∧ (∃ S', NodeZ w' B g S' (handN n ⟨fr, tt, kd, vo, li, id, co, has, ⟨key, ck, gn, md⟩⟩) r ∧ (∀ k, S' k → S k ∨ w.heap.size ≤ k) ∧ Kept S w w' ∧ ∀ b, liesB (.slice ax an ac) (handM n ⟨fr, tt, kd, vo, li, id, co, has, ⟨key, ck, gn, md⟩⟩).n.data b → w.heap.size ≤ b ∧ ¬ S' b) := by
    intro k M v hb hk hM e w' ⟨ax, an, ac, h4, h5, h6, h7⟩
    rw [hk, hM, handN_old hb]
    exact ⟨ax, an, ac, h4, h5, S, (hN.below h7).less (Nat.le_succ r), fun j hj => .inl hj, Kept.of_below h7 (Nat.le_refl _), fun j hj => ⟨h6 j hj, fun e => by have := (hN.at j e).2; have := h6 j hj; omega⟩⟩
  have hbad : ∀ (hk : kd = 5 ∨ mcheck ⟨fr, tt, kd, vo, li, id, co, has, ⟨key, ck, gn, md⟩⟩ ≠ 0 ∨ tt ≠ n.place) (e : Ending) (w' : World), (e = .returned (.tuple #[mval mz (.slice none 0 0), err 1]) ∧ Below w.heap.size w w') → _ := fun hk e w' h4 =>
    have e1 : handK n ⟨fr, tt, kd, vo, li, id, co, has, ⟨key, ck, gn, md⟩⟩ = 1 := by unfold handK; rw [if_pos hk]
    hsame 1 mz (.slice none 0 0) (decide_eq_false fun h => by omega) e1 (by unfold handM; rw [if_pos (by omega)]) e w' ⟨none, 0, 0, h4.1, IsB.nil _, fun j hj => absurd rfl hj.1, h4.2⟩
  by_cases h5 : kd = 5
  · exact (handle_ans fr tt kd vo li id co has key ck gn x L c md w h1 hv h5).mono fun e w' h4 => hbad (.inl h5) e w' h4
  by_cases hq : mcheck ⟨fr, tt, kd, vo, li, id, co, has, ⟨key, ck, gn, md⟩⟩ = 0
  case neg => exact (handle_chk fr tt kd vo li id co has key ck gn x L c md w h1 hv h5 _ rfl hq).mono fun e w' h4 => hbad (.inr (.inl hq)) e w' h4
  by_cases hp : tt = n.place
  case neg => exact (handle_place fr tt kd vo li id co has key ck gn x L c md w h1 hv h5 hq hp).mono fun e w' h4 => hbad (.inr (.inr hp)) e w' h4
  have hk0 : handK n ⟨fr, tt, kd, vo, li, id, co, has, ⟨key, ck, gn, md⟩⟩ = 0 := by
    unfold handK
    rw [if_neg (fun h => by
      rcases h with h | h | h
      · exact h5 h
      · exact h hq
      · exact h hp)]
  by_cases hl : li = n.life
  case neg =>
    refine (handle_stale fr tt kd vo li id co has key ck gn x L c md w h1 hv h5 hq hp hl).mono fun e w' h4 => ?_
    obtain ⟨z, y, h4, h6, h7⟩ := h4
    exact hsame 0 ⟨tt, fr, 5, vo, n.life, id, 13, false, nz⟩ (.slice none 0 0) (decide_eq_false fun h => hl h.2.1) hk0 (by unfold handM; rw [if_neg (by omega), if_pos hl]; rfl) e w' ⟨z, 0, y, h4, h6, fun j hj => absurd rfl hj.1, h7⟩
  by_cases hfp : findP fr id n.l < 0
  case neg =>
    refine (handle_found fr tt kd vo li id co has key ck gn x L c md w h1 hv h5 hq hp hl hwid (by omega)).mono fun e w' h4 => ?_
    exact hsame 0 (findM fr id n.l) (.slice none 0 0) (decide_eq_false fun h => hfp h.2.2.1) hk0 (by unfold handM; rw [if_neg (by omega), if_neg (fun h => h hl), if_pos (show 0 ≤ findP fr id n.l by omega)]) e w' h4
  by_cases hrm : n.l.length < 4096
  case neg =>
    refine (handle_busy fr tt kd vo li id co has key ck gn x L c md w h1 hv h5 hq hp hl hwid hfp (decide_eq_false (by omega))).mono fun e w' h4 => ?_
    obtain ⟨z, y, h4, h6, h7⟩ := h4
    exact hsame 0 ⟨tt, fr, 5, vo, li, id, 14, false, nz⟩ (.slice none 0 0) (decide_eq_false fun h => hrm h.2.2.2) hk0 (by unfold handM; rw [if_neg (by omega), if_neg (fun h => h hl), if_neg (show ¬ 0 ≤ findP fr id n.l by omega), if_pos (by omega)]; rfl) e w' ⟨z, 0, y, h4, h6, fun j hj => absurd rfl hj.1, h7⟩
  have hnew : newB n ⟨fr, tt, kd, vo, li, id, co, has, ⟨key, ck, gn, md⟩⟩ = true := decide_eq_true ⟨hk0, hl, hfp, hrm⟩
  have hM : handM n ⟨fr, tt, kd, vo, li, id, co, has, ⟨key, ck, gn, md⟩⟩ = newM n ⟨fr, tt, kd, vo, li, id, co, has, ⟨key, ck, gn, md⟩⟩ := by
    unfold handM
    rw [if_neg (by omega), if_neg (fun h => h hl), if_neg (show ¬ 0 ≤ findP fr id n.l by omega), if_neg (by omega)]
  refine (handle_new fr tt kd vo li id co has key ck gn x L c md w h1 hv h5 hq hp hl hwid hid hfp (decide_eq_true (by omega)) (fun j hj e => hvS j hj ((hS j).2 (.inr (.inl e)))) hf h3 hg hB0).mono fun e w' h4 => ?_
  obtain ⟨ax, an, ac, h4, h6, ⟨S', k1, k2, k3, k4⟩⟩ := h4
  rw [hM, hk0, handN_new hnew]
  exact ⟨ax, an, ac, h4, h6, S', k1, fun j hj => (k2 j hj).imp (hS j).2 (fun e => e), k3.mono (fun j _ hj => (hS j).2 hj), k4⟩

end Go.Proofs.YtllbngopfganjaaGreatDoor.Nd
end

section
namespace Go.Proofs.YtllbngopfganjaaGreatDoor.Nd
open Go.RowKit Go.Cor

/-- An act: its kind, its two numbers, its message, its picks. -/
structure A17 where
  kd : Int
  a : Int
  b : Int
  m : Msg
  mv : Value
  pn : Int
  px : Option Addr
  pl : Nat
  pc : Nat
def zcl (x : A17) : List Value := [.int .i64 x.kd, .int .i64 x.a, .int .i64 x.b, .int .i64 x.m.fr, .int .i64 x.m.to, .int .i64 x.m.kd, .int .i64 x.m.vo, .int .i64 x.m.li, .int .u64 (x.m.id : Int), .int .i64 x.m.co, .bool x.m.has, .int .u64 (x.m.n.key : Int), .int .u32 (x.m.n.cookie : Int), .bool x.m.n.gone, x.mv, .int .i64 x.pn, .slice x.px x.pl x.pc]
theorem zcl_len (x : A17) : (zcl x).length = 17 := rfl
theorem Tryz.sizeAct17 : (Tryz.prog.info? 42).map (·.size) = some 17 := by kernel_rfl
def Good17 (w : World) (x : A17) : Prop := IsB w x.mv x.m.n.data ∧ x.m.n.fits ∧ x.m.id < 18446744073709551616
def IsZ (w : World) (v : Value) (l : List A17) : Prop := IsX w 17 v l.length (row zcl l) ∧ ∀ x ∈ l, Good17 w x
theorem IsZ.mono {w w' : World} {v : Value} {l : List A17} {B : Nat} (h : IsZ w v l) (hb : Below B w w') (hB : w.heap.size ≤ B) : IsZ w' v l := ⟨h.1.mono hb hB, fun x hx => ⟨(h.2 x hx).1.mono hb hB, (h.2 x hx).2⟩⟩
/-- What Far tells: more than is looked at; or not. -/
structure FarT (l : List A17) (w : World) (e : Ending) (w' : World) : Prop where
  same : w = w'
  told : e = .returned (.bool true) ∨ e = .returned (.bool false) ∧ l.length ≤ 50 ∧ ∀ x ∈ l, x.m.n.data.length ≤ 300
theorem FarT.yes {l : List A17} {w : World} : FarT l w (.returned (.bool true)) w := ⟨rfl, .inl rfl⟩
theorem FarT.no {l : List A17} {w : World} (h1 : l.length ≤ 50) (h2 : ∀ x ∈ l, x.m.n.data.length ≤ 300) : FarT l w (.returned (.bool false)) w := ⟨rfl, .inr ⟨rfl, h1, h2⟩⟩
set_option maxRecDepth 100000 in
set_option maxHeartbeats 4000000 in
theorem far17_any (v : Value) (l : List A17) (w : World) (h : IsZ w v l) :
    Calls Tryz.prog 5 #[v] w (FarT l w) := by
  obtain ⟨LL, hLL⟩ : ∃ n, l.length = n := ⟨_, rfl⟩
  have hX := h.1
  rw [hLL] at hX
  have hlen := fun W => len_X (P := Tryz.prog) hX 22 3 42 Tryz.underlying22 W
  have HX := Lib.hid hX
  have HG := Lib.hid h.2
  have HLL := Lib.hid hLL
  clear h hX hLL
  by_cases h50 : 50 < LL
  · have k50 : (50 : Int) < (LL : Int) := by omega
    go_enter Tryz.func5, Tryz.ntmps5
    go_wp2
    go_ret
    exact FarT.yes
  have k50 : ¬ (50 : Int) < (LL : Int) := by omega
  go_enter Tryz.func5, Tryz.ntmps5
  go_wp2_with fail
  obtain ⟨w1, hw1⟩ : ∃ z, z = w := ⟨_, rfl⟩
  subst hw1
  go_loopw [3] (fun k wr => ∃ i : Nat, i ≤ LL ∧ k = .int .i64 i ∧ wr = w1 ∧ Hid (∀ x ∈ l.take i, x.m.n.data.length ≤ 300)) (fun k _ => LL - (intOf k).toNat)
  case atStart => exact ⟨0, Nat.zero_le _, rfl, rfl, Lib.hid (fun x hx => by simp at hx)⟩
  case round =>
    obtain ⟨i, hi, rfl, rfl, HN⟩ := hrel
    by_cases hlt : i < LL
    · obtain ⟨bi, oi, hidx, _, hcell⟩ := indexAt_X HX.out 22 42 Tryz.underlying22 Tryz.sizeAct17 i hlt
      obtain ⟨x, hxl⟩ : ∃ z, l[i]? = some z := ⟨_, List.getElem?_eq_getElem (by rw [HLL.out]; exact hlt)⟩
      obtain ⟨hB, _⟩ := HG.out _ (List.mem_of_getElem? hxl)
      obtain ⟨dl, hdl⟩ : ∃ z, x.m.n.data.length = z := ⟨_, rfl⟩
      obtain ⟨dx, dc, hmv, _, _⟩ := hB.at_len hdl
      have c14 : wr.cell? ⟨bi, oi + 14, none⟩ = some (.slice dx dl dc) := (hcell 14 (by decide)).trans ((row_get zcl_len hxl 14 (by decide)).trans (by show some x.mv = _; rw [hmv]))
      have c16 : wr.cell? ⟨bi, oi + 16, none⟩ = some (.slice x.px x.pl x.pc) := (hcell 16 (by decide)).trans (row_get zcl_len hxl 16 (by decide))
      obtain ⟨fx, hfx⟩ : ∃ z, x.px = z := ⟨_, rfl⟩
      obtain ⟨fl, hfl⟩ : ∃ z, x.pl = z := ⟨_, rfl⟩
      obtain ⟨fc, hfc⟩ : ∃ z, x.pc = z := ⟨_, rfl⟩
      rw [hfx, hfl, hfc] at c16
      have HN1 := Lib.hid (show dl ≤ 300 → ∀ x ∈ l.take (i + 1), x.m.n.data.length ≤ 300 from fun h3 y hy => by
        rw [List.take_add_one, hxl] at hy
        rcases List.mem_append.1 hy with hy | hy
        · exact HN.out y hy
        · simp at hy; rw [hy, hdl]; exact h3)
      clear hcell hxl hB hdl hmv hfx hfl hfc
      by_cases h300 : 300 < dl
      · have k300 : (300 : Int) < (dl : Int) := by omega
        as_aux_lemma =>
          go_wp2
          go_ret
          exact FarT.yes
      have k300 : ¬ (300 : Int) < (dl : Int) := by omega
      have HN2 := Lib.hid (HN1.out (by omega))
      by_cases h60 : 60 < fl
      · have k60 : (60 : Int) < (fl : Int) := by omega
        as_aux_lemma =>
          go_wp2
          go_ret
          exact FarT.yes
      have k60 : ¬ (60 : Int) < (fl : Int) := by omega
      as_aux_lemma =>
        go_wp2
        go_roundw
        case rel => exact ⟨i + 1, by omega, by go_num, by first | rfl | trivial, HN2⟩
        case measure => simp [intOf]; omega
    · obtain rfl : i = LL := by omega
      as_aux_lemma =>
        go_wp2
        go_ret
        exact FarT.no (by rw [HLL.out]; omega) (fun x hx => HN.out x (by rw [List.take_of_length_le (Nat.le_of_eq HLL.out)]; exact hx))
/-- What a volume tells of itself, held against itself. -/
theorem Tryz.eqlInfo (s : Vst) (w : World) : (binOp .neq 50 (infoV s) (infoV s)).run Tryz.prog w = .ok (.bool false) w := by
  have hS : Tryz.prog.underlying 50 = some (.struct (Tryz.prog.fieldsOf 50)) := by kernel_rfl
  have hp : Tryz.prog.stoodInHeld 50 = false := by kernel_rfl
  have h : (Op.equalIn 10000 50 (infoV s) (infoV s)).run Tryz.prog w = .ok true w := by
    unfold infoV
    rw [show (10000 : Nat) = 9999 + 1 from rfl, run_equalIn_agg w 9999 50 _ _ hS hp]
    simp only [Program.fieldsOf, Tryz.underlying50]
    go_simp
  unfold infoV at h ⊢
  rw [run_neq_struct, h]
  rfl

end Go.Proofs.YtllbngopfganjaaGreatDoor.Nd
end
