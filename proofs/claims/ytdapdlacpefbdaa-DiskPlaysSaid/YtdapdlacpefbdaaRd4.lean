/- The document's disk: a deed of a file: by contract. -/
import Derived.Test.YtdapdlacpefbdaaRd3
import Derived.Test.YtdapdlacpefbdaaActC
namespace Go.Proofs.Ytdapdlacpefbdaa
open Go.RowKit Go.Cor

/-- What a deed of a file does; it isn't counted. -/
def dwrite (d : Dsk) (a : Ac) (f : Nat) : Nat → Dsk × Nat
  | 1 => if 16777216 < (fat d.files f).b.length + a.b.length then (d, 2) else if d.cap < d.used + a.b.length then (d, 11) else (d.setF f ⟨(fat d.files f).b ++ a.b, (fat d.files f).lasts⟩, 0)
  | 2 => (d.setF f ⟨(fat d.files f).b, (fat d.files f).b.length⟩, 0)
  | 6 => if a.n < 0 ∨ (fat d.files f).b.length < a.n then (d, 1) else (d.setF f ⟨(fat d.files f).b.take a.n.toNat, a.n.toNat⟩, 0)
  | _ => (d, 0)
abbrev actCs (k : Int) (a : Ac) : Array Value := #[.int .i64 k, .string a.name, .string a.dst, a.bv, .int .i64 a.n, .int .i64 a.m, .int .i64 a.pn, a.pv]
theorem two_below {w w' : World} {B q g i j : Nat} {a b : Value} (h : w.cell? ⟨q, i, none⟩ = some a ∧ w.cell? ⟨g, j, none⟩ = some b) (hb : Below B w w') (hq : q < B) (hg : g < B) : w'.cell? ⟨q, i, none⟩ = some a ∧ w'.cell? ⟨g, j, none⟩ = some b :=
  ⟨(hb.cell (p := ⟨q, i, none⟩) hq).trans h.1, (hb.cell (p := ⟨g, j, none⟩) hg).trans h.2⟩
theorem set_two {l : List (Fil × Value)} {i : Nat} {p p' : Fil × Value} (h : l[i]? = some p) : ((row rfe l).set (i * 2) p'.2).set (i * 2 + 1) (.int .i64 (p'.1.lasts : Int)) = row rfe (l.set i p') := by
  have h1 := row_set rfe_len (y := (p.1, p'.2)) h 0 (by decide) p'.2 rfl
  rw [Nat.add_zero] at h1
  have hi : i < l.length := (List.getElem?_eq_some_iff.1 h).1
  have h2 : (l.set i (p.1, p'.2))[i]? = some (p.1, p'.2) := by rw [List.getElem?_set_self hi]
  have h3 := row_set rfe_len (y := p') h2 1 (by decide) (.int .i64 (p'.1.lasts : Int)) rfl
  rw [h1, h3, List.set_set]
theorem own_len (x : Option Addr) (n m c : Nat) : (Value.slice x n c).ownBlock = (Value.slice x m c).ownBlock := by cases x <;> rfl
/-- A file in its place: the two cells. -/
theorem rwrite_fin {w w9 : World} {g F f : Nat} {L : RL} {R : Nat → Prop} {d : Dsk} {p p' : Fil × Value} (hw : Below w.heap.size w w9) (hA : RAt w9 g L R d) (hp : L.fps[f]? = some p) (hf : L.fil.ownBlock = some F) (hB : IsB w9 p'.2 p'.1.b) (hl : ∀ b, liesB p'.2 p'.1.b b → R b ∨ w.heap.size ≤ b) (hg : g < w.heap.size) (hF : F < w.heap.size)
    (hst : ∀ (W : World), W.ownsRow 0 50 2 L.fil L.fps.length (row rfe L.fps) → (W.setCell ⟨F, f * 2, none⟩ p'.2).ownsRow 0 50 2 L.fil L.fps.length ((row rfe L.fps).set (f * 2) p'.2) ∧ ((W.setCell ⟨F, f * 2, none⟩ p'.2).setCell ⟨F, f * 2 + 1, none⟩ (.int .i64 (p'.1.lasts : Int))).ownsRow 0 50 2 L.fil L.fps.length (((row rfe L.fps).set (f * 2) p'.2).set (f * 2 + 1) (.int .i64 (p'.1.lasts : Int)))) :
    Rs w g L R (d.setF f p'.1) ((w9.setCell ⟨F, f * 2, none⟩ p'.2).setCell ⟨F, f * 2 + 1, none⟩ (.int .i64 (p'.1.lasts : Int))) := by
  have hk : Kept (fun b => L.fil.ownBlock = some b) w9 ((w9.setCell ⟨F, f * 2, none⟩ p'.2).setCell ⟨F, f * 2 + 1, none⟩ (.int .i64 (p'.1.lasts : Int))) := ((Kept.refl _ w9).setCell (p := ⟨F, f * 2, none⟩) (.inl hf) _).setCell (p := ⟨F, f * 2 + 1, none⟩) (.inl hf) _
  have hlf : ∀ b, liesB p'.2 p'.1.b b → b ≠ g ∧ L.fil.ownBlock ≠ some b := fun b hb => by
    rcases hl b hb with h | h
    · exact ⟨(hA.rest.rg b h).1, (hA.rest.rg b h).2.1⟩
    · exact ⟨fun e => by omega, fun e => by rw [hf] at e; have := Option.some.inj e; omega⟩
  have hr := hA.rest.setFile hp hf hk (by have h := (hst w9 hA.rest.fil).2; rw [set_two hp] at h; exact h) (hB.kept hk (fun b hb hs => (hlf b hb).2 hs)) hlf
  refine ⟨{ L with fps := L.fps.set f p' }, _, ⟨hA.box.kept hk (fun e => hA.rest.fg e), hr⟩, (Kept.of_below (S := fun b => b = g ∨ L.fil.ownBlock = some b) hw (Nat.le_refl _)).trans hk (fun j hj _ => .inr hj), fun b hb => ?_, fun b hb => .inl hb⟩
  rcases hb with hb | hb
  · exact .inl hb
  · exact hl b hb
theorem rwrite_st {w : World} {L : RL} {F f : Nat} (u v : Value) (ho : w.ownsRow 0 50 2 L.fil L.fps.length (row rfe L.fps)) (hf : L.fil.ownBlock = some F) (W : World) (h : W.ownsRow 0 50 2 L.fil L.fps.length (row rfe L.fps)) : (W.setCell ⟨F, f * 2, none⟩ u).ownsRow 0 50 2 L.fil L.fps.length ((row rfe L.fps).set (f * 2) u) ∧ ((W.setCell ⟨F, f * 2, none⟩ u).setCell ⟨F, f * 2 + 1, none⟩ v).ownsRow 0 50 2 L.fil L.fps.length (((row rfe L.fps).set (f * 2) u).set (f * 2 + 1) v) := by
  rcases ho.2 with ⟨h1, _⟩ | ⟨g2, cap, cur, h1, _⟩
  · rw [h1] at hf; cases hf
  · rw [h1] at hf h ⊢
    obtain rfl : g2 = F := by have := Option.some.inj hf; exact this
    have h2 := (h.stored (f * 2) u).1
    exact ⟨h2, (h2.stored (f * 2 + 1) v).1⟩
def RwAt (w : World) (g : Nat) (L : RL) (R : Nat → Prop) (d : Dsk) (a : Ac) (f k : Nat) (e : Ending) (w' : World) : Prop := e = .returned (.int .i64 ((dwrite d a f k).2 : Int)) ∧ Rs w g L R (dwrite d a f k).1 w'

set_option maxRecDepth 100000 in
set_option maxHeartbeats 4000000 in
theorem rwrite_2 (w : World) (g : Nat) (L : RL) (R : Nat → Prop) (d : Dsk) (kk : Nat) (a : Ac) (f : Nat) (h : RAt w g L R d) (ok : d.Ok kk) (hk : kk ≤ 90000) (hf : f < d.files.length) (hi : a.In w) (hn : a.Near) :
    Calls Try.prog 51 #[.pointer (some ⟨g, 0, none⟩), actV 2 a.name a.dst a.bv a.n a.m a.pn a.pv, .int .i64 (f : Int)] w (RwAt w g L R d a f 2) := by
  obtain ⟨fv, hfv, hfB⟩ := h.rest.fileAt hf
  have hflen := (Ok.fat ok hf)
  obtain ⟨F, hF, hidx, hc, hfr, _⟩ := indexAt_own h.rest.fil 33 _ Try.underlying33 Try.sizeRFil f (by rw [rfps_len h.rest]; exact hf)
  have f0 := hc 0 (by decide)
  have f1 := hc 1 (by decide)
  rw [row_get rfe_len hfv _ (by decide)] at f0 f1
  simp only [rfe, List.getElem?_cons_zero, List.getElem?_cons_succ, Nat.add_zero] at f0 f1
  obtain ⟨FB, hFB⟩ : ∃ b, (fat d.files f).b = b := ⟨_, rfl⟩
  obtain ⟨FN, hFN⟩ : ∃ n, FB.length = n := ⟨_, rfl⟩
  obtain ⟨LA, hLA⟩ : ∃ n, (fat d.files f).lasts = n := ⟨_, rfl⟩
  obtain ⟨fx, fz, rfl, hfz, hfm⟩ := hfB.at_len (n := FN) (by rw [hFB]; exact hFN)
  rw [hFB, hFN] at hflen
  rw [hLA] at hflen f1
  rw [hFB] at hfB
  obtain ⟨w1, hw1⟩ : ∃ w1, w1 = (w.alloc (.cells (actCs 2 a) 44)).alloc (.cells #[.slice fx FN fz, .int .i64 (FN : Int)] 50) := ⟨_, rfl⟩
  have hb1 : Below w.heap.size w w1 := by rw [hw1]; exact ((Below.refl _ w).alloc (Nat.le_refl _) _).alloc (by simp) _
  have hs1 : w1.heap.size = w.heap.size + 2 := by rw [hw1]; simp
  have hQ : Blk w1 w.heap.size (actCs 2 a) 44 := by rw [hw1]; exact (Blk.new w _ _).alloc _
  have hX : Blk w1 (w.heap.size + 1) #[.slice fx FN fz, .int .i64 (FN : Int)] 50 := by
    rw [hw1]
    have := Blk.new (w.alloc (.cells (actCs 2 a) 44)) #[.slice fx FN fz, .int .i64 (FN : Int)] 50
    simpa using this
  have hlen := fun W => len_X (P := Try.prog) (isX_of_B hfB) 37 3 _ Try.underlying37 W
  rw [hFN] at hlen
  obtain ⟨_, _, _, _, c4, _⟩ := h.facts
  have hgl := h.box.lt
  have hFl : F < w.heap.size := (h.rest.fil.lt F hF).2
  have HST := Lib.hid (fun u v => rwrite_st (F := F) (f := f) u v h.rest.fil hF)
  have HRB := Lib.hid (show ∀ b, liesB (.slice fx FN fz) FB b → R b from fun b hb => h.rest.rbyt _ (List.mem_of_getElem? hfv) b (by rw [hFB]; exact hb))
  have H := Lib.hid h
  have HO := Lib.hid ok
  have HFV := Lib.hid hfv
  have HFBB := Lib.hid hfB
  have HFB := Lib.hid hFB
  have HFN := Lib.hid hFN
  have HLA := Lib.hid hLA
  have HFF := Lib.hid hF
  have HB1 := Lib.hid hb1
  have HS1 := Lib.hid hs1
  have HA1 := Lib.hid (h.below hb1)
  have HQ := Lib.hid hQ
  have HX := Lib.hid hX
  have HF1 := Lib.hid (show ∀ W, Below w.heap.size w W → W.cell? ⟨F, f * 2, none⟩ = some (.slice fx FN fz) ∧ W.cell? ⟨F, f * 2 + 1, none⟩ = some (.int .i64 (LA : Int)) ∧ W.frozen? ⟨F, f * 2, none⟩ = false ∧ W.frozen? ⟨F, f * 2 + 1, none⟩ = false from fun W hb =>
    ⟨(hb.cell (p := ⟨F, f * 2, none⟩) hFl).trans f0, (hb.cell (p := ⟨F, f * 2 + 1, none⟩) hFl).trans f1, (World.frozen?_of_block (w := w) (hb.block F hFl)).trans (hfr _), (World.frozen?_of_block (w := w) (hb.block F hFl)).trans (hfr _)⟩)
  clear hfv hfB hFB hFN hLA hF hb1 hs1 hQ hX h ok hc
  unfold RwAt dwrite
  have HB9 := HB1
  have hres : d.setF f ⟨(fat d.files f).b, (fat d.files f).b.length⟩ = d.setF f ⟨FB, FN⟩ := by rw [HFB.out, HFN.out]
  rw [hres]
  go_enter Try.func51, Try.ntmps51
  go_wp2_with fail
  rw [← hw1]
  clear hw1
  obtain ⟨s0, s1, s2, s3⟩ := HF1.out w1.drew HB9.out.drew
  have s4 : ((w1.setCell ⟨F, f * 2, none⟩ (Value.slice fx FN fz)).drew).cell? ⟨F, f * 2 + 1, none⟩ = some (.int .i64 (LA : Int)) := (World.cell?_setCell_other w1 ⟨F, f * 2, none⟩ ⟨F, f * 2 + 1, none⟩ (Value.slice fx FN fz) (fun e => by have := congrArg Addr.off e; simp at this)).trans s1
  have s5 : ((w1.setCell ⟨F, f * 2, none⟩ (Value.slice fx FN fz)).drew).frozen? ⟨F, f * 2 + 1, none⟩ = false := by show (w1.setCell _ _).frozen? _ = false; rw [World.frozen?_setCell]; exact s3
  clear f0 f1
  refine AnyE.start (S := (fun wx => wx.cell? ⟨g, 4, none⟩ = some L.fil ∧ wx.cell? ⟨w.heap.size + 1, 0, none⟩ = some (Value.slice fx FN fz) ∧ wx.cell? ⟨w.heap.size + 1, 1, none⟩ = some (.int .i64 (FN : Int)))) 7 (by kernel_rfl) (⟨HA1.out.facts.2.2.2.2.1, HX.out.cell 0 rfl, HX.out.cell 1 rfl⟩) (fun hHeld => ?_)
  refine AnyE.take (i := 0) (v := ?_) rfl (by kernel_rfl) (by kernel_rfl) (by kernel_rfl) (by kernel_rfl) (fun _ _ _ h => h) (Or.inl ⟨by rfl, ?_⟩) (by assumption) ?_
  rotate_left 1
  · intro w hSw
    (try dsimp only at hSw)
    go_simp
    all_goals (with_reducible rfl)
  try simp only [Act.put, List.getElem_toArray, List.getElem_cons_zero, List.getElem_cons_succ, List.setIfInBounds_toArray, List.set_cons_zero, List.set_cons_succ]
  refine AnyE.take (i := 1) (v := ?_) rfl (by kernel_rfl) (by kernel_rfl) (by kernel_rfl) (by kernel_rfl) (fun _ _ _ h => h) (Or.inl ⟨by rfl, ?_⟩) (by assumption) ?_
  rotate_left 1
  · intro w hSw
    (try dsimp only at hSw)
    go_simp
    all_goals (with_reducible rfl)
  try simp only [Act.put, List.getElem_toArray, List.getElem_cons_zero, List.getElem_cons_succ, List.setIfInBounds_toArray, List.set_cons_zero, List.set_cons_succ]
  refine AnyE.take (i := 2) (v := ?_) rfl (by kernel_rfl) (by kernel_rfl) (by kernel_rfl) (by kernel_rfl) (fun _ _ _ h => h) (Or.inl ⟨by rfl, ?_⟩) (by assumption) ?_
  rotate_left 1
  · intro w hSw
    (try dsimp only at hSw)
    go_simp
    all_goals (with_reducible rfl)
  try simp only [Act.put, List.getElem_toArray, List.getElem_cons_zero, List.getElem_cons_succ, List.setIfInBounds_toArray, List.set_cons_zero, List.set_cons_succ]
  refine AnyE.take (i := 3) (v := ?_) rfl (by kernel_rfl) (by kernel_rfl) (by kernel_rfl) (by kernel_rfl) (fun _ _ _ h => h) (Or.inl ⟨by rfl, ?_⟩) (by assumption) ?_
  rotate_left 1
  · intro w hSw
    (try dsimp only at hSw)
    go_simp
    all_goals (with_reducible rfl)
  try simp only [Act.put, List.getElem_toArray, List.getElem_cons_zero, List.getElem_cons_succ, List.setIfInBounds_toArray, List.set_cons_zero, List.set_cons_succ]
  refine AnyE.take (i := 4) (v := ?_) rfl (by kernel_rfl) (by kernel_rfl) (by kernel_rfl) (by kernel_rfl) (fun _ _ _ h => h) (Or.inl ⟨by rfl, ?_⟩) (by assumption) ?_
  rotate_left 1
  · intro w hSw
    (try dsimp only at hSw)
    go_simp
    all_goals (with_reducible rfl)
  try simp only [Act.put, List.getElem_toArray, List.getElem_cons_zero, List.getElem_cons_succ, List.setIfInBounds_toArray, List.set_cons_zero, List.set_cons_succ]
  refine AnyE.take (i := 5) (v := ?_) rfl (by kernel_rfl) (by kernel_rfl) (by kernel_rfl) (by kernel_rfl) (fun _ _ _ h => h) (Or.inl ⟨by rfl, ?_⟩) (by assumption) ?_
  rotate_left 1
  · intro w hSw
    (try dsimp only at hSw)
    go_simp
    all_goals (with_reducible rfl)
  try simp only [Act.put, List.getElem_toArray, List.getElem_cons_zero, List.getElem_cons_succ, List.setIfInBounds_toArray, List.set_cons_zero, List.set_cons_succ]
  refine AnyE.next (rs := [6]) (by kernel_rfl) (by simp) ?_
  refine AllE.cons rfl (fun K hK => ?_) AllE.nil
  go_simp
  refine hK.out _ _ (by assumption) (fun hHeld => ?_)
  clear hK K
  try simp only [Act.put, List.getElem_toArray, List.getElem_cons_zero, List.getElem_cons_succ, List.setIfInBounds_toArray, List.set_cons_zero, List.set_cons_succ]
  refine AnyE.next (rs := [7]) (by kernel_rfl) (by simp) ?_
  refine AllE.last rfl (fun K hK => ?_)
  go_simp
  refine hK.out _ _ ?_
  clear hK K
  try simp only [Act.put, List.getElem_toArray, List.getElem_cons_zero, List.getElem_cons_succ, List.setIfInBounds_toArray, List.set_cons_zero, List.set_cons_succ]
  refine AnyE.done (by kernel_rfl) ?_ _
  go_wp2
  go_ret
  exact ⟨rfl, rwrite_fin (p' := (⟨FB, FN⟩, (Value.slice fx FN fz))) HB9.out.drew (HA1.out.below ((Below.refl _ _).drew)) HFV.out HFF.out (HFBB.out.mono (HB1.out.drew) (Nat.le_refl _)) (fun b hb => .inl (HRB.out b hb)) hgl hFl (HST.out _ _)⟩

set_option maxRecDepth 100000 in
set_option maxHeartbeats 4000000 in
theorem rwrite_6no (w : World) (g : Nat) (L : RL) (R : Nat → Prop) (d : Dsk) (kk : Nat) (a : Ac) (f : Nat) (h : RAt w g L R d) (ok : d.Ok kk) (hk : kk ≤ 90000) (hf : f < d.files.length) (hi : a.In w) (hn : a.Near) (hno : a.n < 0 ∨ ((fat d.files f).b.length : Int) < a.n) :
    Calls Try.prog 51 #[.pointer (some ⟨g, 0, none⟩), actV 6 a.name a.dst a.bv a.n a.m a.pn a.pv, .int .i64 (f : Int)] w (RwAt w g L R d a f 6) := by
  obtain ⟨fv, hfv, hfB⟩ := h.rest.fileAt hf
  have hflen := (Ok.fat ok hf)
  obtain ⟨F, hF, hidx, hc, hfr, _⟩ := indexAt_own h.rest.fil 33 _ Try.underlying33 Try.sizeRFil f (by rw [rfps_len h.rest]; exact hf)
  have f0 := hc 0 (by decide)
  have f1 := hc 1 (by decide)
  rw [row_get rfe_len hfv _ (by decide)] at f0 f1
  simp only [rfe, List.getElem?_cons_zero, List.getElem?_cons_succ, Nat.add_zero] at f0 f1
  obtain ⟨FB, hFB⟩ : ∃ b, (fat d.files f).b = b := ⟨_, rfl⟩
  obtain ⟨FN, hFN⟩ : ∃ n, FB.length = n := ⟨_, rfl⟩
  obtain ⟨LA, hLA⟩ : ∃ n, (fat d.files f).lasts = n := ⟨_, rfl⟩
  obtain ⟨fx, fz, rfl, hfz, hfm⟩ := hfB.at_len (n := FN) (by rw [hFB]; exact hFN)
  rw [hFB, hFN] at hflen
  rw [hLA] at hflen f1
  rw [hFB] at hfB
  obtain ⟨w1, hw1⟩ : ∃ w1, w1 = (w.alloc (.cells (actCs 6 a) 44)).alloc (.cells #[.slice fx FN fz, .int .i64 (LA : Int)] 50) := ⟨_, rfl⟩
  have hb1 : Below w.heap.size w w1 := by rw [hw1]; exact ((Below.refl _ w).alloc (Nat.le_refl _) _).alloc (by simp) _
  have hs1 : w1.heap.size = w.heap.size + 2 := by rw [hw1]; simp
  have hQ : Blk w1 w.heap.size (actCs 6 a) 44 := by rw [hw1]; exact (Blk.new w _ _).alloc _
  have hX : Blk w1 (w.heap.size + 1) #[.slice fx FN fz, .int .i64 (LA : Int)] 50 := by
    rw [hw1]
    have := Blk.new (w.alloc (.cells (actCs 6 a) 44)) #[.slice fx FN fz, .int .i64 (LA : Int)] 50
    simpa using this
  have hlen := fun W => len_X (P := Try.prog) (isX_of_B hfB) 37 3 _ Try.underlying37 W
  rw [hFN] at hlen
  obtain ⟨_, _, _, _, c4, _⟩ := h.facts
  have hgl := h.box.lt
  have hFl : F < w.heap.size := (h.rest.fil.lt F hF).2
  have HST := Lib.hid (fun u v => rwrite_st (F := F) (f := f) u v h.rest.fil hF)
  have HRB := Lib.hid (show ∀ b, liesB (.slice fx FN fz) FB b → R b from fun b hb => h.rest.rbyt _ (List.mem_of_getElem? hfv) b (by rw [hFB]; exact hb))
  have H := Lib.hid h
  have HO := Lib.hid ok
  have HFV := Lib.hid hfv
  have HFBB := Lib.hid hfB
  have HFB := Lib.hid hFB
  have HFN := Lib.hid hFN
  have HLA := Lib.hid hLA
  have HFF := Lib.hid hF
  have HB1 := Lib.hid hb1
  have HS1 := Lib.hid hs1
  have HA1 := Lib.hid (h.below hb1)
  have HQ := Lib.hid hQ
  have HX := Lib.hid hX
  have HF1 := Lib.hid (show ∀ W, Below w.heap.size w W → W.cell? ⟨F, f * 2, none⟩ = some (.slice fx FN fz) ∧ W.cell? ⟨F, f * 2 + 1, none⟩ = some (.int .i64 (LA : Int)) ∧ W.frozen? ⟨F, f * 2, none⟩ = false ∧ W.frozen? ⟨F, f * 2 + 1, none⟩ = false from fun W hb =>
    ⟨(hb.cell (p := ⟨F, f * 2, none⟩) hFl).trans f0, (hb.cell (p := ⟨F, f * 2 + 1, none⟩) hFl).trans f1, (World.frozen?_of_block (w := w) (hb.block F hFl)).trans (hfr _), (World.frozen?_of_block (w := w) (hb.block F hFl)).trans (hfr _)⟩)
  clear hfv hfB hFB hFN hLA hF hb1 hs1 hQ hX h ok hc
  unfold RwAt dwrite
  rw [if_pos hno]
  rw [HFB.out, HFN.out] at hno
  rcases hno with hno | hno
  · go_enter Try.func51, Try.ntmps51
    go_wp2_with fail
    go_wp2
    go_ret
    exact ⟨rfl, Rs.self H.out (by rw [← hw1]; exact HB1.out)⟩
  · have h0 : ¬ a.n < 0 := by omega
    go_enter Try.func51, Try.ntmps51
    go_wp2_with fail
    go_wp2
    go_ret
    exact ⟨rfl, Rs.self H.out (by rw [← hw1]; exact HB1.out)⟩

set_option maxRecDepth 100000 in
set_option maxHeartbeats 4000000 in
theorem rwrite_6yes (w : World) (g : Nat) (L : RL) (R : Nat → Prop) (d : Dsk) (kk : Nat) (a : Ac) (f : Nat) (h : RAt w g L R d) (ok : d.Ok kk) (hk : kk ≤ 90000) (hf : f < d.files.length) (hi : a.In w) (hn : a.Near) (m : Nat) (hm : a.n = (m : Int)) (hle : m ≤ (fat d.files f).b.length) :
    Calls Try.prog 51 #[.pointer (some ⟨g, 0, none⟩), actV 6 a.name a.dst a.bv a.n a.m a.pn a.pv, .int .i64 (f : Int)] w (RwAt w g L R d a f 6) := by
  obtain ⟨fv, hfv, hfB⟩ := h.rest.fileAt hf
  have hflen := (Ok.fat ok hf)
  obtain ⟨F, hF, hidx, hc, hfr, _⟩ := indexAt_own h.rest.fil 33 _ Try.underlying33 Try.sizeRFil f (by rw [rfps_len h.rest]; exact hf)
  have f0 := hc 0 (by decide)
  have f1 := hc 1 (by decide)
  rw [row_get rfe_len hfv _ (by decide)] at f0 f1
  simp only [rfe, List.getElem?_cons_zero, List.getElem?_cons_succ, Nat.add_zero] at f0 f1
  obtain ⟨FB, hFB⟩ : ∃ b, (fat d.files f).b = b := ⟨_, rfl⟩
  obtain ⟨FN, hFN⟩ : ∃ n, FB.length = n := ⟨_, rfl⟩
  obtain ⟨LA, hLA⟩ : ∃ n, (fat d.files f).lasts = n := ⟨_, rfl⟩
  obtain ⟨fx, fz, rfl, hfz, hfm⟩ := hfB.at_len (n := FN) (by rw [hFB]; exact hFN)
  rw [hFB, hFN] at hflen
  rw [hLA] at hflen f1
  rw [hFB] at hfB
  rw [hFB, hFN] at hle
  have hsl := slice_h_X (P := Try.prog) 1 fx FN fz 37 5 Try.underlying37 Try.sizeU8b m (by omega)
  obtain ⟨w1, hw1⟩ : ∃ w1, w1 = (w.alloc (.cells (actCs 6 a) 44)).alloc (.cells #[.slice fx m fz, .int .i64 (m : Int)] 50) := ⟨_, rfl⟩
  have hb1 : Below w.heap.size w w1 := by rw [hw1]; exact ((Below.refl _ w).alloc (Nat.le_refl _) _).alloc (by simp) _
  have hs1 : w1.heap.size = w.heap.size + 2 := by rw [hw1]; simp
  have hQ : Blk w1 w.heap.size (actCs 6 a) 44 := by rw [hw1]; exact (Blk.new w _ _).alloc _
  have hX : Blk w1 (w.heap.size + 1) #[.slice fx m fz, .int .i64 (m : Int)] 50 := by
    rw [hw1]
    have := Blk.new (w.alloc (.cells (actCs 6 a) 44)) #[.slice fx m fz, .int .i64 (m : Int)] 50
    simpa using this
  have hlen := fun W => len_X (P := Try.prog) (isX_of_B hfB) 37 3 _ Try.underlying37 W
  rw [hFN] at hlen
  obtain ⟨_, _, _, _, c4, _⟩ := h.facts
  have hgl := h.box.lt
  have hFl : F < w.heap.size := (h.rest.fil.lt F hF).2
  have HST := Lib.hid (fun u v => rwrite_st (F := F) (f := f) u v h.rest.fil hF)
  have HRB := Lib.hid (show ∀ b, liesB (.slice fx FN fz) FB b → R b from fun b hb => h.rest.rbyt _ (List.mem_of_getElem? hfv) b (by rw [hFB]; exact hb))
  have H := Lib.hid h
  have HO := Lib.hid ok
  have HFV := Lib.hid hfv
  have HFBB := Lib.hid hfB
  have HFB := Lib.hid hFB
  have HFN := Lib.hid hFN
  have HLA := Lib.hid hLA
  have HFF := Lib.hid hF
  have HB1 := Lib.hid hb1
  have HS1 := Lib.hid hs1
  have HA1 := Lib.hid (h.below hb1)
  have HQ := Lib.hid hQ
  have HX := Lib.hid hX
  have HF1 := Lib.hid (show ∀ W, Below w.heap.size w W → W.cell? ⟨F, f * 2, none⟩ = some (.slice fx FN fz) ∧ W.cell? ⟨F, f * 2 + 1, none⟩ = some (.int .i64 (LA : Int)) ∧ W.frozen? ⟨F, f * 2, none⟩ = false ∧ W.frozen? ⟨F, f * 2 + 1, none⟩ = false from fun W hb =>
    ⟨(hb.cell (p := ⟨F, f * 2, none⟩) hFl).trans f0, (hb.cell (p := ⟨F, f * 2 + 1, none⟩) hFl).trans f1, (World.frozen?_of_block (w := w) (hb.block F hFl)).trans (hfr _), (World.frozen?_of_block (w := w) (hb.block F hFl)).trans (hfr _)⟩)
  clear hfv hfB hFB hFN hLA hF hb1 hs1 hQ hX h ok hc
  unfold RwAt dwrite
  have HB9 := HB1
  have hres : (if a.n < 0 ∨ ((fat d.files f).b.length : Int) < a.n then (d, 1) else (d.setF f ⟨(fat d.files f).b.take a.n.toNat, a.n.toNat⟩, 0)) = (d.setF f ⟨FB.take m, m⟩, 0) := by
    rw [HFB.out, HFN.out, hm, if_neg (by omega)]
    rfl
  rw [hres]
  unfold actCs at hw1
  rw [hm] at hw1 ⊢
  have h0 : ¬ (m : Int) < 0 := by omega
  have h1 : ¬ (FN : Int) < (m : Int) := by omega
  have HIB := Lib.hid (show IsB (w1.drew) (.slice fx m fz) (FB.take m) from (HFBB.out.take (j := m) (by rw [HFN.out]; exact hle)).mono (HB1.out.drew) (Nat.le_refl _))
  clear hres
  go_enter Try.func51, Try.ntmps51
  go_wp2_with fail
  rw [← hw1]
  clear hw1
  obtain ⟨s0, s1, s2, s3⟩ := HF1.out w1.drew HB9.out.drew
  have s4 : ((w1.setCell ⟨F, f * 2, none⟩ (Value.slice fx m fz)).drew).cell? ⟨F, f * 2 + 1, none⟩ = some (.int .i64 (LA : Int)) := (World.cell?_setCell_other w1 ⟨F, f * 2, none⟩ ⟨F, f * 2 + 1, none⟩ (Value.slice fx m fz) (fun e => by have := congrArg Addr.off e; simp at this)).trans s1
  have s5 : ((w1.setCell ⟨F, f * 2, none⟩ (Value.slice fx m fz)).drew).frozen? ⟨F, f * 2 + 1, none⟩ = false := by show (w1.setCell _ _).frozen? _ = false; rw [World.frozen?_setCell]; exact s3
  clear f0 f1
  refine AnyE.start (S := (fun wx => wx.cell? ⟨g, 4, none⟩ = some L.fil ∧ wx.cell? ⟨w.heap.size + 1, 0, none⟩ = some (Value.slice fx m fz) ∧ wx.cell? ⟨w.heap.size + 1, 1, none⟩ = some (.int .i64 (m : Int)))) 7 (by kernel_rfl) (⟨HA1.out.facts.2.2.2.2.1, HX.out.cell 0 rfl, HX.out.cell 1 rfl⟩) (fun hHeld => ?_)
  refine AnyE.take (i := 0) (v := ?_) rfl (by kernel_rfl) (by kernel_rfl) (by kernel_rfl) (by kernel_rfl) (fun _ _ _ h => h) (Or.inl ⟨by rfl, ?_⟩) (by assumption) ?_
  rotate_left 1
  · intro w hSw
    (try dsimp only at hSw)
    go_simp
    all_goals (with_reducible rfl)
  try simp only [Act.put, List.getElem_toArray, List.getElem_cons_zero, List.getElem_cons_succ, List.setIfInBounds_toArray, List.set_cons_zero, List.set_cons_succ]
  refine AnyE.take (i := 1) (v := ?_) rfl (by kernel_rfl) (by kernel_rfl) (by kernel_rfl) (by kernel_rfl) (fun _ _ _ h => h) (Or.inl ⟨by rfl, ?_⟩) (by assumption) ?_
  rotate_left 1
  · intro w hSw
    (try dsimp only at hSw)
    go_simp
    all_goals (with_reducible rfl)
  try simp only [Act.put, List.getElem_toArray, List.getElem_cons_zero, List.getElem_cons_succ, List.setIfInBounds_toArray, List.set_cons_zero, List.set_cons_succ]
  refine AnyE.take (i := 2) (v := ?_) rfl (by kernel_rfl) (by kernel_rfl) (by kernel_rfl) (by kernel_rfl) (fun _ _ _ h => h) (Or.inl ⟨by rfl, ?_⟩) (by assumption) ?_
  rotate_left 1
  · intro w hSw
    (try dsimp only at hSw)
    go_simp
    all_goals (with_reducible rfl)
  try simp only [Act.put, List.getElem_toArray, List.getElem_cons_zero, List.getElem_cons_succ, List.setIfInBounds_toArray, List.set_cons_zero, List.set_cons_succ]
  refine AnyE.take (i := 3) (v := ?_) rfl (by kernel_rfl) (by kernel_rfl) (by kernel_rfl) (by kernel_rfl) (fun _ _ _ h => h) (Or.inl ⟨by rfl, ?_⟩) (by assumption) ?_
  rotate_left 1
  · intro w hSw
    (try dsimp only at hSw)
    go_simp
    all_goals (with_reducible rfl)
  try simp only [Act.put, List.getElem_toArray, List.getElem_cons_zero, List.getElem_cons_succ, List.setIfInBounds_toArray, List.set_cons_zero, List.set_cons_succ]
  refine AnyE.take (i := 4) (v := ?_) rfl (by kernel_rfl) (by kernel_rfl) (by kernel_rfl) (by kernel_rfl) (fun _ _ _ h => h) (Or.inl ⟨by rfl, ?_⟩) (by assumption) ?_
  rotate_left 1
  · intro w hSw
    (try dsimp only at hSw)
    go_simp
    all_goals (with_reducible rfl)
  try simp only [Act.put, List.getElem_toArray, List.getElem_cons_zero, List.getElem_cons_succ, List.setIfInBounds_toArray, List.set_cons_zero, List.set_cons_succ]
  refine AnyE.take (i := 5) (v := ?_) rfl (by kernel_rfl) (by kernel_rfl) (by kernel_rfl) (by kernel_rfl) (fun _ _ _ h => h) (Or.inl ⟨by rfl, ?_⟩) (by assumption) ?_
  rotate_left 1
  · intro w hSw
    (try dsimp only at hSw)
    go_simp
    all_goals (with_reducible rfl)
  try simp only [Act.put, List.getElem_toArray, List.getElem_cons_zero, List.getElem_cons_succ, List.setIfInBounds_toArray, List.set_cons_zero, List.set_cons_succ]
  refine AnyE.next (rs := [6]) (by kernel_rfl) (by simp) ?_
  refine AllE.cons rfl (fun K hK => ?_) AllE.nil
  go_simp
  refine hK.out _ _ (by assumption) (fun hHeld => ?_)
  clear hK K
  try simp only [Act.put, List.getElem_toArray, List.getElem_cons_zero, List.getElem_cons_succ, List.setIfInBounds_toArray, List.set_cons_zero, List.set_cons_succ]
  refine AnyE.next (rs := [7]) (by kernel_rfl) (by simp) ?_
  refine AllE.last rfl (fun K hK => ?_)
  go_simp
  refine hK.out _ _ ?_
  clear hK K
  try simp only [Act.put, List.getElem_toArray, List.getElem_cons_zero, List.getElem_cons_succ, List.setIfInBounds_toArray, List.set_cons_zero, List.set_cons_succ]
  refine AnyE.done (by kernel_rfl) ?_ _
  go_wp2
  go_ret
  exact ⟨rfl, rwrite_fin (p' := (⟨FB.take m, m⟩, (Value.slice fx m fz))) HB9.out.drew (HA1.out.below ((Below.refl _ _).drew)) HFV.out HFF.out HIB.out (fun b hb => .inl (HRB.out b ⟨by have := hb.1; rw [List.length_take] at this; omega, (own_len fx FN m fz).trans hb.2⟩)) hgl hFl (HST.out _ _)⟩

set_option maxRecDepth 100000 in
set_option maxHeartbeats 4000000 in
theorem rwrite_1long (w : World) (g : Nat) (L : RL) (R : Nat → Prop) (d : Dsk) (kk : Nat) (a : Ac) (f : Nat) (h : RAt w g L R d) (ok : d.Ok kk) (hk : kk ≤ 90000) (hf : f < d.files.length) (hi : a.In w) (hn : a.Near) (hlong : 16777216 < (fat d.files f).b.length + a.b.length) :
    Calls Try.prog 51 #[.pointer (some ⟨g, 0, none⟩), actV 1 a.name a.dst a.bv a.n a.m a.pn a.pv, .int .i64 (f : Int)] w (RwAt w g L R d a f 1) := by
  obtain ⟨fv, hfv, hfB⟩ := h.rest.fileAt hf
  have hflen := (Ok.fat ok hf)
  obtain ⟨F, hF, hidx, hc, hfr, _⟩ := indexAt_own h.rest.fil 33 _ Try.underlying33 Try.sizeRFil f (by rw [rfps_len h.rest]; exact hf)
  have f0 := hc 0 (by decide)
  have f1 := hc 1 (by decide)
  rw [row_get rfe_len hfv _ (by decide)] at f0 f1
  simp only [rfe, List.getElem?_cons_zero, List.getElem?_cons_succ, Nat.add_zero] at f0 f1
  obtain ⟨FB, hFB⟩ : ∃ b, (fat d.files f).b = b := ⟨_, rfl⟩
  obtain ⟨FN, hFN⟩ : ∃ n, FB.length = n := ⟨_, rfl⟩
  obtain ⟨LA, hLA⟩ : ∃ n, (fat d.files f).lasts = n := ⟨_, rfl⟩
  obtain ⟨fx, fz, rfl, hfz, hfm⟩ := hfB.at_len (n := FN) (by rw [hFB]; exact hFN)
  rw [hFB, hFN] at hflen
  rw [hLA] at hflen f1
  rw [hFB] at hfB
  have hAlen := fun W => len_X (P := Try.prog) (isX_of_B hi.b) 37 3 _ Try.underlying37 W
  obtain ⟨AN, hAN⟩ : ∃ n, a.b.length = n := ⟨_, rfl⟩
  rw [hAN] at hAlen
  have hAl : AN ≤ 300 := by rw [← hAN]; exact hn.b
  have HAN := Lib.hid hAN
  have HAB := Lib.hid hi.b
  clear hAN
  obtain ⟨w1, hw1⟩ : ∃ w1, w1 = (w.alloc (.cells (actCs 1 a) 44)).alloc (.cells #[.slice fx FN fz, .int .i64 (LA : Int)] 50) := ⟨_, rfl⟩
  have hb1 : Below w.heap.size w w1 := by rw [hw1]; exact ((Below.refl _ w).alloc (Nat.le_refl _) _).alloc (by simp) _
  have hs1 : w1.heap.size = w.heap.size + 2 := by rw [hw1]; simp
  have hQ : Blk w1 w.heap.size (actCs 1 a) 44 := by rw [hw1]; exact (Blk.new w _ _).alloc _
  have hX : Blk w1 (w.heap.size + 1) #[.slice fx FN fz, .int .i64 (LA : Int)] 50 := by
    rw [hw1]
    have := Blk.new (w.alloc (.cells (actCs 1 a) 44)) #[.slice fx FN fz, .int .i64 (LA : Int)] 50
    simpa using this
  have hlen := fun W => len_X (P := Try.prog) (isX_of_B hfB) 37 3 _ Try.underlying37 W
  rw [hFN] at hlen
  obtain ⟨_, _, _, _, c4, _⟩ := h.facts
  have hgl := h.box.lt
  have hFl : F < w.heap.size := (h.rest.fil.lt F hF).2
  have HST := Lib.hid (fun u v => rwrite_st (F := F) (f := f) u v h.rest.fil hF)
  have HRB := Lib.hid (show ∀ b, liesB (.slice fx FN fz) FB b → R b from fun b hb => h.rest.rbyt _ (List.mem_of_getElem? hfv) b (by rw [hFB]; exact hb))
  have H := Lib.hid h
  have HO := Lib.hid ok
  have HFV := Lib.hid hfv
  have HFBB := Lib.hid hfB
  have HFB := Lib.hid hFB
  have HFN := Lib.hid hFN
  have HLA := Lib.hid hLA
  have HFF := Lib.hid hF
  have HB1 := Lib.hid hb1
  have HS1 := Lib.hid hs1
  have HA1 := Lib.hid (h.below hb1)
  have HQ := Lib.hid hQ
  have HX := Lib.hid hX
  have HF1 := Lib.hid (show ∀ W, Below w.heap.size w W → W.cell? ⟨F, f * 2, none⟩ = some (.slice fx FN fz) ∧ W.cell? ⟨F, f * 2 + 1, none⟩ = some (.int .i64 (LA : Int)) ∧ W.frozen? ⟨F, f * 2, none⟩ = false ∧ W.frozen? ⟨F, f * 2 + 1, none⟩ = false from fun W hb =>
    ⟨(hb.cell (p := ⟨F, f * 2, none⟩) hFl).trans f0, (hb.cell (p := ⟨F, f * 2 + 1, none⟩) hFl).trans f1, (World.frozen?_of_block (w := w) (hb.block F hFl)).trans (hfr _), (World.frozen?_of_block (w := w) (hb.block F hFl)).trans (hfr _)⟩)
  clear hfv hfB hFB hFN hLA hF hb1 hs1 hQ hX h ok hc
  unfold RwAt dwrite
  rw [if_pos hlong]
  rw [HFB.out, HFN.out, HAN.out] at hlong
  have hlong' : (16777216 : Int) < (FN : Int) + (AN : Int) := by omega
  clear hlong
  go_enter Try.func51, Try.ntmps51
  go_wp2_with fail
  go_ret
  exact ⟨rfl, Rs.self H.out (by rw [← hw1]; exact HB1.out)⟩

set_option maxRecDepth 100000 in
set_option maxHeartbeats 4000000 in
theorem rwrite_1full (w : World) (g : Nat) (L : RL) (R : Nat → Prop) (d : Dsk) (kk : Nat) (a : Ac) (f : Nat) (h : RAt w g L R d) (ok : d.Ok kk) (hk : kk ≤ 90000) (hf : f < d.files.length) (hi : a.In w) (hn : a.Near) (hshort : ¬ 16777216 < (fat d.files f).b.length + a.b.length) (hfull : d.cap < d.used + a.b.length) :
    Calls Try.prog 51 #[.pointer (some ⟨g, 0, none⟩), actV 1 a.name a.dst a.bv a.n a.m a.pn a.pv, .int .i64 (f : Int)] w (RwAt w g L R d a f 1) := by
  obtain ⟨fv, hfv, hfB⟩ := h.rest.fileAt hf
  have hflen := (Ok.fat ok hf)
  obtain ⟨F, hF, hidx, hc, hfr, _⟩ := indexAt_own h.rest.fil 33 _ Try.underlying33 Try.sizeRFil f (by rw [rfps_len h.rest]; exact hf)
  have f0 := hc 0 (by decide)
  have f1 := hc 1 (by decide)
  rw [row_get rfe_len hfv _ (by decide)] at f0 f1
  simp only [rfe, List.getElem?_cons_zero, List.getElem?_cons_succ, Nat.add_zero] at f0 f1
  obtain ⟨FB, hFB⟩ : ∃ b, (fat d.files f).b = b := ⟨_, rfl⟩
  obtain ⟨FN, hFN⟩ : ∃ n, FB.length = n := ⟨_, rfl⟩
  obtain ⟨LA, hLA⟩ : ∃ n, (fat d.files f).lasts = n := ⟨_, rfl⟩
  obtain ⟨fx, fz, rfl, hfz, hfm⟩ := hfB.at_len (n := FN) (by rw [hFB]; exact hFN)
  rw [hFB, hFN] at hflen
  rw [hLA] at hflen f1
  rw [hFB] at hfB
  have hAlen := fun W => len_X (P := Try.prog) (isX_of_B hi.b) 37 3 _ Try.underlying37 W
  obtain ⟨AN, hAN⟩ : ∃ n, a.b.length = n := ⟨_, rfl⟩
  rw [hAN] at hAlen
  have hAl : AN ≤ 300 := by rw [← hAN]; exact hn.b
  have HAN := Lib.hid hAN
  have HAB := Lib.hid hi.b
  clear hAN
  obtain ⟨U, hU⟩ : ∃ u, d.used = u := ⟨_, rfl⟩
  have hUl : U ≤ 1509949440000 := by
    have h1 := usedT_le d.files d.now (fun f hf => (ok.fil f hf).2)
    have h2 := ok.nowN
    have h3 := ok.lenN
    have h4 : usedT d.files d.now = U := hU
    omega
  have hUA : IntKind.i64.wrap ((U : Int) + (AN : Int)) = (U : Int) + (AN : Int) := by rw [IntKind.wrap_i64]; omega
  have HU := Lib.hid hU
  clear hU
  obtain ⟨w1, hw1⟩ : ∃ w1, w1 = (w.alloc (.cells (actCs 1 a) 44)).alloc (.cells #[.slice fx FN fz, .int .i64 (LA : Int)] 50) := ⟨_, rfl⟩
  have hb1 : Below w.heap.size w w1 := by rw [hw1]; exact ((Below.refl _ w).alloc (Nat.le_refl _) _).alloc (by simp) _
  have hs1 : w1.heap.size = w.heap.size + 2 := by rw [hw1]; simp
  have hQ : Blk w1 w.heap.size (actCs 1 a) 44 := by rw [hw1]; exact (Blk.new w _ _).alloc _
  have hX : Blk w1 (w.heap.size + 1) #[.slice fx FN fz, .int .i64 (LA : Int)] 50 := by
    rw [hw1]
    have := Blk.new (w.alloc (.cells (actCs 1 a) 44)) #[.slice fx FN fz, .int .i64 (LA : Int)] 50
    simpa using this
  have hlen := fun W => len_X (P := Try.prog) (isX_of_B hfB) 37 3 _ Try.underlying37 W
  rw [hFN] at hlen
  obtain ⟨_, _, _, _, c4, _⟩ := h.facts
  have hgl := h.box.lt
  have hFl : F < w.heap.size := (h.rest.fil.lt F hF).2
  have HST := Lib.hid (fun u v => rwrite_st (F := F) (f := f) u v h.rest.fil hF)
  have HRB := Lib.hid (show ∀ b, liesB (.slice fx FN fz) FB b → R b from fun b hb => h.rest.rbyt _ (List.mem_of_getElem? hfv) b (by rw [hFB]; exact hb))
  have H := Lib.hid h
  have HO := Lib.hid ok
  have HFV := Lib.hid hfv
  have HFBB := Lib.hid hfB
  have HFB := Lib.hid hFB
  have HFN := Lib.hid hFN
  have HLA := Lib.hid hLA
  have HFF := Lib.hid hF
  have HB1 := Lib.hid hb1
  have HS1 := Lib.hid hs1
  have HA1 := Lib.hid (h.below hb1)
  have HQ := Lib.hid hQ
  have HX := Lib.hid hX
  have HF1 := Lib.hid (show ∀ W, Below w.heap.size w W → W.cell? ⟨F, f * 2, none⟩ = some (.slice fx FN fz) ∧ W.cell? ⟨F, f * 2 + 1, none⟩ = some (.int .i64 (LA : Int)) ∧ W.frozen? ⟨F, f * 2, none⟩ = false ∧ W.frozen? ⟨F, f * 2 + 1, none⟩ = false from fun W hb =>
    ⟨(hb.cell (p := ⟨F, f * 2, none⟩) hFl).trans f0, (hb.cell (p := ⟨F, f * 2 + 1, none⟩) hFl).trans f1, (World.frozen?_of_block (w := w) (hb.block F hFl)).trans (hfr _), (World.frozen?_of_block (w := w) (hb.block F hFl)).trans (hfr _)⟩)
  clear hfv hfB hFB hFN hLA hF hb1 hs1 hQ hX h ok hc
  unfold RwAt dwrite
  rw [if_neg hshort, if_pos hfull]
  rw [HFB.out, HFN.out, HAN.out] at hshort
  rw [HU.out, HAN.out] at hfull
  have hfull' : (d.cap : Int) < (U : Int) + (AN : Int) := by omega
  have hs : ¬ (16777216 : Int) < (FN : Int) + (AN : Int) := by omega
  have T0 : w1.drew.cell? ⟨w.heap.size, 3, none⟩ = some a.bv ∧ w1.drew.cell? ⟨g, 0, none⟩ = some (.int .i64 (d.cap : Int)) := ⟨HQ.out.cell 3 rfl, HA1.out.facts.1⟩
  go_enter Try.func51, Try.ntmps51
  go_wp2_with fail
  rw [← hw1]
  clear hw1
  refine wp_region_held_drew (S := (fun wx => wx.cell? ⟨w.heap.size, 3, none⟩ = some a.bv ∧ wx.cell? ⟨g, 0, none⟩ = some (.int .i64 (d.cap : Int)))) (by kernel_rfl) (T0) (fun hHeld => ?_)
  refine wpAnyH_take (i := 0) (v := ?_) rfl (by kernel_rfl) (by kernel_rfl) (by kernel_rfl) (fun _ _ _ h => h) (Or.inl ⟨by rfl, ?_⟩) (by assumption) ?_
  rotate_left 1
  · intro w hSw
    (try dsimp only at hSw)
    go_simp
    all_goals (with_reducible rfl)
  try simp only [Act.put, List.getElem_toArray, List.getElem_cons_zero, List.getElem_cons_succ, List.setIfInBounds_toArray, List.set_cons_zero, List.set_cons_succ]
  refine wpAnyH_take (i := 2) (v := ?_) rfl (by kernel_rfl) (by kernel_rfl) (by kernel_rfl) (fun _ _ _ h => h) (Or.inl ⟨by rfl, ?_⟩) (by assumption) ?_
  rotate_left 1
  · intro w hSw
    (try dsimp only at hSw)
    go_simp
    all_goals (with_reducible rfl)
  try simp only [Act.put, List.getElem_toArray, List.getElem_cons_zero, List.getElem_cons_succ, List.setIfInBounds_toArray, List.set_cons_zero, List.set_cons_succ]
  refine wpAnyH_take (i := 3) (v := ?_) rfl (by kernel_rfl) (by kernel_rfl) (by kernel_rfl) (fun _ _ _ h => h) (Or.inl ⟨by rfl, ?_⟩) (by assumption) ?_
  rotate_left 1
  · intro w hSw
    (try dsimp only at hSw)
    go_simp
    all_goals (with_reducible rfl)
  try simp only [Act.put, List.getElem_toArray, List.getElem_cons_zero, List.getElem_cons_succ, List.setIfInBounds_toArray, List.set_cons_zero, List.set_cons_succ]
  refine wpAnyH_take (i := 4) (v := ?_) rfl (by kernel_rfl) (by kernel_rfl) (by kernel_rfl) (fun _ _ _ h => h) (Or.inl ⟨by rfl, ?_⟩) (by assumption) ?_
  rotate_left 1
  · intro w hSw
    (try dsimp only at hSw)
    go_simp
    all_goals (with_reducible rfl)
  try simp only [Act.put, List.getElem_toArray, List.getElem_cons_zero, List.getElem_cons_succ, List.setIfInBounds_toArray, List.set_cons_zero, List.set_cons_succ]
  refine wpAnyH_take (i := 6) (v := ?_) rfl (by kernel_rfl) (by kernel_rfl) (by kernel_rfl) (fun _ _ _ h => h) (Or.inl ⟨by rfl, ?_⟩) (by assumption) ?_
  rotate_left 1
  · intro w hSw
    (try dsimp only at hSw)
    go_simp
    all_goals (with_reducible rfl)
  try simp only [Act.put, List.getElem_toArray, List.getElem_cons_zero, List.getElem_cons_succ, List.setIfInBounds_toArray, List.set_cons_zero, List.set_cons_succ]
  refine wpAnyH_take (i := 7) (v := ?_) rfl (by kernel_rfl) (by kernel_rfl) (by kernel_rfl) (fun _ _ _ h => h) (Or.inl ⟨by rfl, ?_⟩) (by assumption) ?_
  rotate_left 1
  · intro w hSw
    (try dsimp only at hSw)
    go_simp
    all_goals (with_reducible rfl)
  try simp only [Act.put, List.getElem_toArray, List.getElem_cons_zero, List.getElem_cons_succ, List.setIfInBounds_toArray, List.set_cons_zero, List.set_cons_succ]
  refine wpAnyH_take (i := 8) (v := ?_) rfl (by kernel_rfl) (by kernel_rfl) (by kernel_rfl) (fun _ _ _ h => h) (Or.inl ⟨by rfl, ?_⟩) (by assumption) ?_
  rotate_left 1
  · intro w hSw
    (try dsimp only at hSw)
    go_simp
    all_goals (with_reducible rfl)
  try simp only [Act.put, List.getElem_toArray, List.getElem_cons_zero, List.getElem_cons_succ, List.setIfInBounds_toArray, List.set_cons_zero, List.set_cons_succ]
  refine wpAnyH_take (i := 9) (v := ?_) rfl (by kernel_rfl) (by kernel_rfl) (by kernel_rfl) (fun _ _ _ h => h) (Or.inl ⟨by rfl, ?_⟩) (by assumption) ?_
  rotate_left 1
  · intro w hSw
    (try dsimp only at hSw)
    go_simp
    all_goals (with_reducible rfl)
  try simp only [Act.put, List.getElem_toArray, List.getElem_cons_zero, List.getElem_cons_succ, List.setIfInBounds_toArray, List.set_cons_zero, List.set_cons_succ]
  refine wpAnyH_ready (rs := [1]) (by kernel_rfl) (by simp) ?_
  refine AllReadyH.cons rfl (fun K hK => ?_) AllReadyH.nil
  go_simp
  refine (rused_any _ g L R d kk (HA1.out.below ((Below.refl _ _).drew)) HO.out hk).mono ?_
  rintro e wa ⟨rfl, hba⟩
  rw [HU.out]
  have T1 : wa.cell? ⟨w.heap.size, 3, none⟩ = some a.bv ∧ wa.cell? ⟨g, 0, none⟩ = some (.int .i64 (d.cap : Int)) := ⟨(hba.cell (cell_lt T0.1)).trans T0.1, (hba.cell (cell_lt T0.2)).trans T0.2⟩
  refine hK.out _ _ (T1) (fun hHeld => ?_)
  clear hK K
  try simp only [Act.put, List.getElem_toArray, List.getElem_cons_zero, List.getElem_cons_succ, List.setIfInBounds_toArray, List.set_cons_zero, List.set_cons_succ]
  refine wpAnyH_take (i := 5) (v := ?_) rfl (by kernel_rfl) (by kernel_rfl) (by kernel_rfl) (fun _ _ _ h => h) (Or.inl ⟨by rfl, ?_⟩) (by assumption) ?_
  rotate_left 1
  · intro w hSw
    (try dsimp only at hSw)
    go_simp
    all_goals (with_reducible rfl)
  try simp only [Act.put, List.getElem_toArray, List.getElem_cons_zero, List.getElem_cons_succ, List.setIfInBounds_toArray, List.set_cons_zero, List.set_cons_succ]
  refine wpAnyH_take (i := 10) (v := ?_) rfl (by kernel_rfl) (by kernel_rfl) (by kernel_rfl) (fun _ _ _ h => h) (Or.inl ⟨by rfl, ?_⟩) (by assumption) ?_
  rotate_left 1
  · intro w hSw
    (try dsimp only at hSw)
    go_simp
    all_goals (with_reducible rfl)
  try simp only [Act.put, List.getElem_toArray, List.getElem_cons_zero, List.getElem_cons_succ, List.setIfInBounds_toArray, List.set_cons_zero, List.set_cons_succ]
  refine wpAnyH_done (by kernel_rfl) ?_ _
  go_wp2
  go_ret
  exact ⟨rfl, Rs.self H.out (HB1.out.trans (((Below.refl w1.heap.size w1).drew.trans hba).mono HB1.out.size))⟩

set_option maxRecDepth 100000 in
set_option maxHeartbeats 4000000 in
theorem rwrite_1yes (w : World) (g : Nat) (L : RL) (R : Nat → Prop) (d : Dsk) (kk : Nat) (a : Ac) (f : Nat) (h : RAt w g L R d) (ok : d.Ok kk) (hk : kk ≤ 90000) (hf : f < d.files.length) (hi : a.In w) (hn : a.Near) (hshort : ¬ 16777216 < (fat d.files f).b.length + a.b.length) (hroom : ¬ d.cap < d.used + a.b.length) :
    Calls Try.prog 51 #[.pointer (some ⟨g, 0, none⟩), actV 1 a.name a.dst a.bv a.n a.m a.pn a.pv, .int .i64 (f : Int)] w (RwAt w g L R d a f 1) := by
  obtain ⟨fv, hfv, hfB⟩ := h.rest.fileAt hf
  have hflen := (Ok.fat ok hf)
  obtain ⟨F, hF, hidx, hc, hfr, _⟩ := indexAt_own h.rest.fil 33 _ Try.underlying33 Try.sizeRFil f (by rw [rfps_len h.rest]; exact hf)
  have f0 := hc 0 (by decide)
  have f1 := hc 1 (by decide)
  rw [row_get rfe_len hfv _ (by decide)] at f0 f1
  simp only [rfe, List.getElem?_cons_zero, List.getElem?_cons_succ, Nat.add_zero] at f0 f1
  obtain ⟨FB, hFB⟩ : ∃ b, (fat d.files f).b = b := ⟨_, rfl⟩
  obtain ⟨FN, hFN⟩ : ∃ n, FB.length = n := ⟨_, rfl⟩
  obtain ⟨LA, hLA⟩ : ∃ n, (fat d.files f).lasts = n := ⟨_, rfl⟩
  obtain ⟨fx, fz, rfl, hfz, hfm⟩ := hfB.at_len (n := FN) (by rw [hFB]; exact hFN)
  rw [hFB, hFN] at hflen
  rw [hLA] at hflen f1
  rw [hFB] at hfB
  have hAlen := fun W => len_X (P := Try.prog) (isX_of_B hi.b) 37 3 _ Try.underlying37 W
  obtain ⟨AN, hAN⟩ : ∃ n, a.b.length = n := ⟨_, rfl⟩
  rw [hAN] at hAlen
  have hAl : AN ≤ 300 := by rw [← hAN]; exact hn.b
  have HAN := Lib.hid hAN
  have HAB := Lib.hid hi.b
  clear hAN
  obtain ⟨U, hU⟩ : ∃ u, d.used = u := ⟨_, rfl⟩
  have hUl : U ≤ 1509949440000 := by
    have h1 := usedT_le d.files d.now (fun f hf => (ok.fil f hf).2)
    have h2 := ok.nowN
    have h3 := ok.lenN
    have h4 : usedT d.files d.now = U := hU
    omega
  have hUA : IntKind.i64.wrap ((U : Int) + (AN : Int)) = (U : Int) + (AN : Int) := by rw [IntKind.wrap_i64]; omega
  have HU := Lib.hid hU
  clear hU
  obtain ⟨w1, hw1⟩ : ∃ w1, w1 = (w.alloc (.cells (actCs 1 a) 44)).alloc (.cells #[.slice fx FN fz, .int .i64 (LA : Int)] 50) := ⟨_, rfl⟩
  have hb1 : Below w.heap.size w w1 := by rw [hw1]; exact ((Below.refl _ w).alloc (Nat.le_refl _) _).alloc (by simp) _
  have hs1 : w1.heap.size = w.heap.size + 2 := by rw [hw1]; simp
  have hQ : Blk w1 w.heap.size (actCs 1 a) 44 := by rw [hw1]; exact (Blk.new w _ _).alloc _
  have hX : Blk w1 (w.heap.size + 1) #[.slice fx FN fz, .int .i64 (LA : Int)] 50 := by
    rw [hw1]
    have := Blk.new (w.alloc (.cells (actCs 1 a) 44)) #[.slice fx FN fz, .int .i64 (LA : Int)] 50
    simpa using this
  have hlen := fun W => len_X (P := Try.prog) (isX_of_B hfB) 37 3 _ Try.underlying37 W
  rw [hFN] at hlen
  obtain ⟨_, _, _, _, c4, _⟩ := h.facts
  have hgl := h.box.lt
  have hFl : F < w.heap.size := (h.rest.fil.lt F hF).2
  have HST := Lib.hid (fun u v => rwrite_st (F := F) (f := f) u v h.rest.fil hF)
  have HRB := Lib.hid (show ∀ b, liesB (.slice fx FN fz) FB b → R b from fun b hb => h.rest.rbyt _ (List.mem_of_getElem? hfv) b (by rw [hFB]; exact hb))
  have H := Lib.hid h
  have HO := Lib.hid ok
  have HFV := Lib.hid hfv
  have HFBB := Lib.hid hfB
  have HFB := Lib.hid hFB
  have HFN := Lib.hid hFN
  have HLA := Lib.hid hLA
  have HFF := Lib.hid hF
  have HB1 := Lib.hid hb1
  have HS1 := Lib.hid hs1
  have HA1 := Lib.hid (h.below hb1)
  have HQ := Lib.hid hQ
  have HX := Lib.hid hX
  have HF1 := Lib.hid (show ∀ W, Below w.heap.size w W → W.cell? ⟨F, f * 2, none⟩ = some (.slice fx FN fz) ∧ W.cell? ⟨F, f * 2 + 1, none⟩ = some (.int .i64 (LA : Int)) ∧ W.frozen? ⟨F, f * 2, none⟩ = false ∧ W.frozen? ⟨F, f * 2 + 1, none⟩ = false from fun W hb =>
    ⟨(hb.cell (p := ⟨F, f * 2, none⟩) hFl).trans f0, (hb.cell (p := ⟨F, f * 2 + 1, none⟩) hFl).trans f1, (World.frozen?_of_block (w := w) (hb.block F hFl)).trans (hfr _), (World.frozen?_of_block (w := w) (hb.block F hFl)).trans (hfr _)⟩)
  clear hfv hfB hFB hFN hLA hF hb1 hs1 hQ hX h ok hc
  unfold RwAt dwrite
  rw [if_neg hshort, if_neg hroom]
  rw [HFB.out, HFN.out, HAN.out] at hshort
  rw [HU.out, HAN.out] at hroom
  have hroom' : ¬ (d.cap : Int) < (U : Int) + (AN : Int) := by omega
  have hres : d.setF f ⟨(fat d.files f).b ++ a.b, (fat d.files f).lasts⟩ = d.setF f ⟨FB ++ a.b, LA⟩ := by rw [HFB.out, HLA.out]
  rw [hres]
  obtain ⟨ib, hib, hib0, hib1, hib2⟩ := info_parts Try.infoU8
  have HI := Lib.hid hib
  have HZ0 := Lib.hid hib0
  have HZ1 := Lib.hid hib1
  have HZ2 := Lib.hid hib2
  clear hib hib0 hib1 hib2 hres
  have hs : ¬ (16777216 : Int) < (FN : Int) + (AN : Int) := by omega
  have T0 : w1.drew.cell? ⟨w.heap.size, 3, none⟩ = some a.bv ∧ w1.drew.cell? ⟨g, 0, none⟩ = some (.int .i64 (d.cap : Int)) := ⟨HQ.out.cell 3 rfl, HA1.out.facts.1⟩
  go_enter Try.func51, Try.ntmps51
  go_wp2_with fail
  rw [← hw1]
  clear hw1
  refine wp_region_held_drew (S := (fun wx => wx.cell? ⟨w.heap.size, 3, none⟩ = some a.bv ∧ wx.cell? ⟨g, 0, none⟩ = some (.int .i64 (d.cap : Int)))) (by kernel_rfl) (T0) (fun hHeld => ?_)
  refine wpAnyH_take (i := 0) (v := ?_) rfl (by kernel_rfl) (by kernel_rfl) (by kernel_rfl) (fun _ _ _ h => h) (Or.inl ⟨by rfl, ?_⟩) (by assumption) ?_
  rotate_left 1
  · intro w hSw
    (try dsimp only at hSw)
    go_simp
    all_goals (with_reducible rfl)
  try simp only [Act.put, List.getElem_toArray, List.getElem_cons_zero, List.getElem_cons_succ, List.setIfInBounds_toArray, List.set_cons_zero, List.set_cons_succ]
  refine wpAnyH_take (i := 2) (v := ?_) rfl (by kernel_rfl) (by kernel_rfl) (by kernel_rfl) (fun _ _ _ h => h) (Or.inl ⟨by rfl, ?_⟩) (by assumption) ?_
  rotate_left 1
  · intro w hSw
    (try dsimp only at hSw)
    go_simp
    all_goals (with_reducible rfl)
  try simp only [Act.put, List.getElem_toArray, List.getElem_cons_zero, List.getElem_cons_succ, List.setIfInBounds_toArray, List.set_cons_zero, List.set_cons_succ]
  refine wpAnyH_take (i := 3) (v := ?_) rfl (by kernel_rfl) (by kernel_rfl) (by kernel_rfl) (fun _ _ _ h => h) (Or.inl ⟨by rfl, ?_⟩) (by assumption) ?_
  rotate_left 1
  · intro w hSw
    (try dsimp only at hSw)
    go_simp
    all_goals (with_reducible rfl)
  try simp only [Act.put, List.getElem_toArray, List.getElem_cons_zero, List.getElem_cons_succ, List.setIfInBounds_toArray, List.set_cons_zero, List.set_cons_succ]
  refine wpAnyH_take (i := 4) (v := ?_) rfl (by kernel_rfl) (by kernel_rfl) (by kernel_rfl) (fun _ _ _ h => h) (Or.inl ⟨by rfl, ?_⟩) (by assumption) ?_
  rotate_left 1
  · intro w hSw
    (try dsimp only at hSw)
    go_simp
    all_goals (with_reducible rfl)
  try simp only [Act.put, List.getElem_toArray, List.getElem_cons_zero, List.getElem_cons_succ, List.setIfInBounds_toArray, List.set_cons_zero, List.set_cons_succ]
  refine wpAnyH_take (i := 6) (v := ?_) rfl (by kernel_rfl) (by kernel_rfl) (by kernel_rfl) (fun _ _ _ h => h) (Or.inl ⟨by rfl, ?_⟩) (by assumption) ?_
  rotate_left 1
  · intro w hSw
    (try dsimp only at hSw)
    go_simp
    all_goals (with_reducible rfl)
  try simp only [Act.put, List.getElem_toArray, List.getElem_cons_zero, List.getElem_cons_succ, List.setIfInBounds_toArray, List.set_cons_zero, List.set_cons_succ]
  refine wpAnyH_take (i := 7) (v := ?_) rfl (by kernel_rfl) (by kernel_rfl) (by kernel_rfl) (fun _ _ _ h => h) (Or.inl ⟨by rfl, ?_⟩) (by assumption) ?_
  rotate_left 1
  · intro w hSw
    (try dsimp only at hSw)
    go_simp
    all_goals (with_reducible rfl)
  try simp only [Act.put, List.getElem_toArray, List.getElem_cons_zero, List.getElem_cons_succ, List.setIfInBounds_toArray, List.set_cons_zero, List.set_cons_succ]
  refine wpAnyH_take (i := 8) (v := ?_) rfl (by kernel_rfl) (by kernel_rfl) (by kernel_rfl) (fun _ _ _ h => h) (Or.inl ⟨by rfl, ?_⟩) (by assumption) ?_
  rotate_left 1
  · intro w hSw
    (try dsimp only at hSw)
    go_simp
    all_goals (with_reducible rfl)
  try simp only [Act.put, List.getElem_toArray, List.getElem_cons_zero, List.getElem_cons_succ, List.setIfInBounds_toArray, List.set_cons_zero, List.set_cons_succ]
  refine wpAnyH_take (i := 9) (v := ?_) rfl (by kernel_rfl) (by kernel_rfl) (by kernel_rfl) (fun _ _ _ h => h) (Or.inl ⟨by rfl, ?_⟩) (by assumption) ?_
  rotate_left 1
  · intro w hSw
    (try dsimp only at hSw)
    go_simp
    all_goals (with_reducible rfl)
  try simp only [Act.put, List.getElem_toArray, List.getElem_cons_zero, List.getElem_cons_succ, List.setIfInBounds_toArray, List.set_cons_zero, List.set_cons_succ]
  refine wpAnyH_ready (rs := [1]) (by kernel_rfl) (by simp) ?_
  refine AllReadyH.cons rfl (fun K hK => ?_) AllReadyH.nil
  go_simp
  refine (rused_any _ g L R d kk (HA1.out.below ((Below.refl _ _).drew)) HO.out hk).mono ?_
  rintro e wa ⟨rfl, hba⟩
  rw [HU.out]
  have T1 : wa.cell? ⟨w.heap.size, 3, none⟩ = some a.bv ∧ wa.cell? ⟨g, 0, none⟩ = some (.int .i64 (d.cap : Int)) := ⟨(hba.cell (cell_lt T0.1)).trans T0.1, (hba.cell (cell_lt T0.2)).trans T0.2⟩
  refine hK.out _ _ (T1) (fun hHeld => ?_)
  clear hK K
  try simp only [Act.put, List.getElem_toArray, List.getElem_cons_zero, List.getElem_cons_succ, List.setIfInBounds_toArray, List.set_cons_zero, List.set_cons_succ]
  refine wpAnyH_take (i := 5) (v := ?_) rfl (by kernel_rfl) (by kernel_rfl) (by kernel_rfl) (fun _ _ _ h => h) (Or.inl ⟨by rfl, ?_⟩) (by assumption) ?_
  rotate_left 1
  · intro w hSw
    (try dsimp only at hSw)
    go_simp
    all_goals (with_reducible rfl)
  try simp only [Act.put, List.getElem_toArray, List.getElem_cons_zero, List.getElem_cons_succ, List.setIfInBounds_toArray, List.set_cons_zero, List.set_cons_succ]
  refine wpAnyH_take (i := 10) (v := ?_) rfl (by kernel_rfl) (by kernel_rfl) (by kernel_rfl) (fun _ _ _ h => h) (Or.inl ⟨by rfl, ?_⟩) (by assumption) ?_
  rotate_left 1
  · intro w hSw
    (try dsimp only at hSw)
    go_simp
    all_goals (with_reducible rfl)
  try simp only [Act.put, List.getElem_toArray, List.getElem_cons_zero, List.getElem_cons_succ, List.setIfInBounds_toArray, List.set_cons_zero, List.set_cons_succ]
  refine wpAnyH_done (by kernel_rfl) ?_ _
  have HFX := Lib.hid (show IsX w 1 (.slice fx FN fz) FN (bvs FB) from by have h := isX_of_B HFBB.out; rwa [HFN.out] at h)
  have HAX := Lib.hid (show IsX w 1 a.bv AN (bvs a.b) from by have h := isX_of_B HAB.out; rwa [HAN.out] at h)
  have HBwa := Lib.hid ((Below.refl w1.heap.size w1).drew.trans hba)
  have HBa := Lib.hid (HB1.out.trans (HBwa.out.mono HB1.out.size))
  have HXa := Lib.hid (HX.out.below HBwa.out HX.out.lt)
  have V0 : wa.drew.cell? ⟨w.heap.size + 1, 0, none⟩ = some (.slice fx FN fz) ∧ wa.drew.cell? ⟨w.heap.size, 3, none⟩ = some a.bv := ⟨HXa.out.cell 0 rfl, T1.1⟩
  have hX1 : w.heap.size + 1 < wa.heap.size := HXa.out.lt
  have hQ1 : w.heap.size < wa.heap.size := by omega
  have V1 := two_below V0 (bel_alloc wa.drew (.cells #[] 5)) hX1 hQ1
  clear T0 T1 hba
  go_wp2_with fail
  refine AnyE.start (S := (fun wx => wx.cell? ⟨w.heap.size + 1, 0, none⟩ = some (.slice fx FN fz) ∧ wx.cell? ⟨w.heap.size, 3, none⟩ = some a.bv)) 8 (by kernel_rfl) (V0) (fun hHeld => ?_)
  refine AnyE.take (i := 1) (v := ?_) rfl (by kernel_rfl) (by kernel_rfl) (by kernel_rfl) (by kernel_rfl) (fun _ _ _ h => h) (Or.inl ⟨by rfl, ?_⟩) (by assumption) ?_
  rotate_left 1
  · intro w hSw
    (try dsimp only at hSw)
    go_simp
    all_goals (with_reducible rfl)
  try simp only [Act.put, List.getElem_toArray, List.getElem_cons_zero, List.getElem_cons_succ, List.setIfInBounds_toArray, List.set_cons_zero, List.set_cons_succ]
  refine AnyE.take (i := 2) (v := ?_) rfl (by kernel_rfl) (by kernel_rfl) (by kernel_rfl) (by kernel_rfl) (fun _ _ _ h => h) (Or.inl ⟨by rfl, ?_⟩) (by assumption) ?_
  rotate_left 1
  · intro w hSw
    (try dsimp only at hSw)
    go_simp
    all_goals (with_reducible rfl)
  try simp only [Act.put, List.getElem_toArray, List.getElem_cons_zero, List.getElem_cons_succ, List.setIfInBounds_toArray, List.set_cons_zero, List.set_cons_succ]
  refine AnyE.take (i := 4) (v := ?_) rfl (by kernel_rfl) (by kernel_rfl) (by kernel_rfl) (by kernel_rfl) (fun _ _ _ h => h) (Or.inl ⟨by rfl, ?_⟩) (by assumption) ?_
  rotate_left 1
  · intro w hSw
    (try dsimp only at hSw)
    go_simp
    all_goals (with_reducible rfl)
  try simp only [Act.put, List.getElem_toArray, List.getElem_cons_zero, List.getElem_cons_succ, List.setIfInBounds_toArray, List.set_cons_zero, List.set_cons_succ]
  refine AnyE.take (i := 5) (v := ?_) rfl (by kernel_rfl) (by kernel_rfl) (by kernel_rfl) (by kernel_rfl) (fun _ _ _ h => h) (Or.inl ⟨by rfl, ?_⟩) (by assumption) ?_
  rotate_left 1
  · intro w hSw
    (try dsimp only at hSw)
    go_simp
    all_goals (with_reducible rfl)
  try simp only [Act.put, List.getElem_toArray, List.getElem_cons_zero, List.getElem_cons_succ, List.setIfInBounds_toArray, List.set_cons_zero, List.set_cons_succ]
  refine AnyE.next (rs := [0]) (by kernel_rfl) (by simp) ?_
  refine AllE.cons rfl (fun K hK => ?_) AllE.nil
  go_simp
  refine hK.out _ _ (V1) (fun hHeld => ?_)
  clear hK K
  try simp only [Act.put, List.getElem_toArray, List.getElem_cons_zero, List.getElem_cons_succ, List.setIfInBounds_toArray, List.set_cons_zero, List.set_cons_succ]
  refine AnyE.next (rs := [3]) (by kernel_rfl) (by simp) ?_
  refine AllE.cons rfl (fun K hK => ?_) AllE.nil
  refine step_append_X (by rfl) _ _ 37 rfl wa.heap.size 5 ib _ 1 1 Try.underlying37 HI.out HZ0.out HZ1.out HZ2.out rfl (by decide) _ [] 0 rfl (own_litAt wa.drew wa.heap.size 5 1 wa.heap.size rfl (Nat.le_refl _)) _ FN _ rfl (HFX.out.mono (HBa.out.drew.alloc HBa.out.size _) (Nat.le_refl _)) (bvs_one _) (by unfold maxLen; omega) (by omega) (by simp) ?_
  intro v3 w3 hown3 hgr3 hat3
  have HO3 := Lib.hid (show w3.ownsRow wa.heap.size 5 1 v3 FN (bvs FB) from by have h := hown3; rw [Nat.zero_add] at h; simpa using h)
  have HB3 := Lib.hid (show Below wa.heap.size wa w3 from (((Below.refl wa.heap.size wa).drew).alloc (Nat.le_refl _) _).grown hgr3 (by simp) (fun j hj => by have e : some wa.heap.size = some j := hj; have := Option.some.inj e; omega))
  have V3 := two_below V0 (show Below wa.heap.size wa.drew w3 from ⟨HB3.out.os, HB3.out.tape, HB3.out.output, HB3.out.size, HB3.out.block⟩) hX1 hQ1
  clear hown3 hgr3 hat3
  refine hK.out _ _ (V3) (fun hHeld => ?_)
  clear hK K
  try simp only [Act.put, List.getElem_toArray, List.getElem_cons_zero, List.getElem_cons_succ, List.setIfInBounds_toArray, List.set_cons_zero, List.set_cons_succ]
  refine AnyE.next (rs := [6]) (by kernel_rfl) (by simp) ?_
  refine AllE.cons rfl (fun K hK => ?_) AllE.nil
  refine step_append_X (by rfl) _ _ 37 rfl wa.heap.size 5 ib _ 1 1 Try.underlying37 HI.out HZ0.out HZ1.out HZ2.out rfl (by decide) _ (bvs FB) FN rfl HO3.out _ AN _ rfl (HAX.out.mono (HBa.out.trans (HB3.out.mono HBa.out.size)) (Nat.le_refl _)) (bvs_one _) (by unfold maxLen; omega) (by omega) HB3.out.size ?_
  intro v6 w6 hown6 hgr6 hat6
  obtain ⟨x6, z6, rfl, _, _⟩ := ownsRow_slice hown6
  have HO6 := Lib.hid (show w6.ownsRow wa.heap.size 5 1 (.slice x6 (FN + AN) z6) (FB ++ a.b).length (bvs (FB ++ a.b)) from by rw [List.length_append, bvs_append, HFN.out, HAN.out]; exact hown6)
  have HB6 := Lib.hid (HB3.out.grown hgr6 HB3.out.size (fun j hj => (HO3.out.lt j hj).1))
  have V6 := two_below V0 (show Below wa.heap.size wa.drew w6 from ⟨HB6.out.os, HB6.out.tape, HB6.out.output, HB6.out.size, HB6.out.block⟩) hX1 hQ1
  have HXX6 := Lib.hid (HXa.out.below HB6.out hX1)
  have gx := HXX6.out.free 0
  clear hown6 hgr6 hat6
  refine hK.out _ _ (V6) (fun hHeld => ?_)
  clear hK K
  try simp only [Act.put, List.getElem_toArray, List.getElem_cons_zero, List.getElem_cons_succ, List.setIfInBounds_toArray, List.set_cons_zero, List.set_cons_succ]
  refine AnyE.next (rs := [7]) (by kernel_rfl) (by simp) ?_
  refine AllE.cons rfl (fun K hK => ?_) AllE.nil
  go_simp
  refine hK.out _ _ (V6) (fun hHeld => ?_)
  clear hK K
  try simp only [Act.put, List.getElem_toArray, List.getElem_cons_zero, List.getElem_cons_succ, List.setIfInBounds_toArray, List.set_cons_zero, List.set_cons_succ]
  refine AnyE.next (rs := [8]) (by kernel_rfl) (by simp) ?_
  refine AllE.last rfl (fun K hK => ?_)
  go_simp
  refine hK.out _ _ ?_
  clear hK K
  try simp only [Act.put, List.getElem_toArray, List.getElem_cons_zero, List.getElem_cons_succ, List.setIfInBounds_toArray, List.set_cons_zero, List.set_cons_succ]
  refine AnyE.done (by kernel_rfl) ?_ _
  have HXS := Lib.hid (HXX6.out.set 0 (.slice x6 (FN + AN) z6))
  have HBW := Lib.hid (show Below w.heap.size w (w6.setCell ⟨w.heap.size + 1, 0, none⟩ (.slice x6 (FN + AN) z6)) from (HBa.out.trans (HB6.out.mono HBa.out.size)).setCell (p := ⟨w.heap.size + 1, 0, none⟩) (by show w.heap.size ≤ w.heap.size + 1; omega) _)
  have HAS := Lib.hid (H.out.below HBW.out)
  have HIS := Lib.hid (show IsB (w6.setCell ⟨w.heap.size + 1, 0, none⟩ (.slice x6 (FN + AN) z6)).drew (.slice x6 (FN + AN) z6) (FB ++ a.b) from (IsB.own HO6.out rfl).kept (((Kept.refl (fun j => j = w.heap.size + 1) w6).setCell (p := ⟨w.heap.size + 1, 0, none⟩) (.inl rfl) _).drew) (fun k hk e => by have h1 := (HO6.out.lt k hk.2).1; rw [e] at h1; omega))
  obtain ⟨w9, hw9⟩ : ∃ w9, w9 = w6.setCell ⟨w.heap.size + 1, 0, none⟩ (.slice x6 (FN + AN) z6) := ⟨_, rfl⟩
  rw [← hw9] at HXS HBW HAS HIS ⊢
  clear hw9 V0 V1 V3 V6 gx
  have HB9 := HBW
  go_wp2_with fail
  obtain ⟨s0, s1, s2, s3⟩ := HF1.out w9.drew HB9.out.drew
  have s4 : ((w9.setCell ⟨F, f * 2, none⟩ (Value.slice x6 (FN + AN) z6)).drew).cell? ⟨F, f * 2 + 1, none⟩ = some (.int .i64 (LA : Int)) := (World.cell?_setCell_other w9 ⟨F, f * 2, none⟩ ⟨F, f * 2 + 1, none⟩ (Value.slice x6 (FN + AN) z6) (fun e => by have := congrArg Addr.off e; simp at this)).trans s1
  have s5 : ((w9.setCell ⟨F, f * 2, none⟩ (Value.slice x6 (FN + AN) z6)).drew).frozen? ⟨F, f * 2 + 1, none⟩ = false := by show (w9.setCell _ _).frozen? _ = false; rw [World.frozen?_setCell]; exact s3
  clear f0 f1
  refine AnyE.start (S := (fun wx => wx.cell? ⟨g, 4, none⟩ = some L.fil ∧ wx.cell? ⟨w.heap.size + 1, 0, none⟩ = some (Value.slice x6 (FN + AN) z6) ∧ wx.cell? ⟨w.heap.size + 1, 1, none⟩ = some (.int .i64 (LA : Int)))) 7 (by kernel_rfl) (⟨HAS.out.facts.2.2.2.2.1, HXS.out.cell 0 rfl, HXS.out.cell 1 rfl⟩) (fun hHeld => ?_)
  refine AnyE.take (i := 0) (v := ?_) rfl (by kernel_rfl) (by kernel_rfl) (by kernel_rfl) (by kernel_rfl) (fun _ _ _ h => h) (Or.inl ⟨by rfl, ?_⟩) (by assumption) ?_
  rotate_left 1
  · intro w hSw
    (try dsimp only at hSw)
    go_simp
    all_goals (with_reducible rfl)
  try simp only [Act.put, List.getElem_toArray, List.getElem_cons_zero, List.getElem_cons_succ, List.setIfInBounds_toArray, List.set_cons_zero, List.set_cons_succ]
  refine AnyE.take (i := 1) (v := ?_) rfl (by kernel_rfl) (by kernel_rfl) (by kernel_rfl) (by kernel_rfl) (fun _ _ _ h => h) (Or.inl ⟨by rfl, ?_⟩) (by assumption) ?_
  rotate_left 1
  · intro w hSw
    (try dsimp only at hSw)
    go_simp
    all_goals (with_reducible rfl)
  try simp only [Act.put, List.getElem_toArray, List.getElem_cons_zero, List.getElem_cons_succ, List.setIfInBounds_toArray, List.set_cons_zero, List.set_cons_succ]
  refine AnyE.take (i := 2) (v := ?_) rfl (by kernel_rfl) (by kernel_rfl) (by kernel_rfl) (by kernel_rfl) (fun _ _ _ h => h) (Or.inl ⟨by rfl, ?_⟩) (by assumption) ?_
  rotate_left 1
  · intro w hSw
    (try dsimp only at hSw)
    go_simp
    all_goals (with_reducible rfl)
  try simp only [Act.put, List.getElem_toArray, List.getElem_cons_zero, List.getElem_cons_succ, List.setIfInBounds_toArray, List.set_cons_zero, List.set_cons_succ]
  refine AnyE.take (i := 3) (v := ?_) rfl (by kernel_rfl) (by kernel_rfl) (by kernel_rfl) (by kernel_rfl) (fun _ _ _ h => h) (Or.inl ⟨by rfl, ?_⟩) (by assumption) ?_
  rotate_left 1
  · intro w hSw
    (try dsimp only at hSw)
    go_simp
    all_goals (with_reducible rfl)
  try simp only [Act.put, List.getElem_toArray, List.getElem_cons_zero, List.getElem_cons_succ, List.setIfInBounds_toArray, List.set_cons_zero, List.set_cons_succ]
  refine AnyE.take (i := 4) (v := ?_) rfl (by kernel_rfl) (by kernel_rfl) (by kernel_rfl) (by kernel_rfl) (fun _ _ _ h => h) (Or.inl ⟨by rfl, ?_⟩) (by assumption) ?_
  rotate_left 1
  · intro w hSw
    (try dsimp only at hSw)
    go_simp
    all_goals (with_reducible rfl)
  try simp only [Act.put, List.getElem_toArray, List.getElem_cons_zero, List.getElem_cons_succ, List.setIfInBounds_toArray, List.set_cons_zero, List.set_cons_succ]
  refine AnyE.take (i := 5) (v := ?_) rfl (by kernel_rfl) (by kernel_rfl) (by kernel_rfl) (by kernel_rfl) (fun _ _ _ h => h) (Or.inl ⟨by rfl, ?_⟩) (by assumption) ?_
  rotate_left 1
  · intro w hSw
    (try dsimp only at hSw)
    go_simp
    all_goals (with_reducible rfl)
  try simp only [Act.put, List.getElem_toArray, List.getElem_cons_zero, List.getElem_cons_succ, List.setIfInBounds_toArray, List.set_cons_zero, List.set_cons_succ]
  refine AnyE.next (rs := [6]) (by kernel_rfl) (by simp) ?_
  refine AllE.cons rfl (fun K hK => ?_) AllE.nil
  go_simp
  refine hK.out _ _ (by assumption) (fun hHeld => ?_)
  clear hK K
  try simp only [Act.put, List.getElem_toArray, List.getElem_cons_zero, List.getElem_cons_succ, List.setIfInBounds_toArray, List.set_cons_zero, List.set_cons_succ]
  refine AnyE.next (rs := [7]) (by kernel_rfl) (by simp) ?_
  refine AllE.last rfl (fun K hK => ?_)
  go_simp
  refine hK.out _ _ ?_
  clear hK K
  try simp only [Act.put, List.getElem_toArray, List.getElem_cons_zero, List.getElem_cons_succ, List.setIfInBounds_toArray, List.set_cons_zero, List.set_cons_succ]
  refine AnyE.done (by kernel_rfl) ?_ _
  go_wp2
  go_ret
  exact ⟨rfl, rwrite_fin (p' := (⟨FB ++ a.b, LA⟩, (Value.slice x6 (FN + AN) z6))) HB9.out.drew (HAS.out.below ((Below.refl _ _).drew)) HFV.out HFF.out HIS.out (fun b hb => .inr (by have h1 := (HO6.out.lt b hb.2).1; omega)) hgl hFl (HST.out _ _)⟩
theorem rwrite_any (w : World) (g : Nat) (L : RL) (R : Nat → Prop) (d : Dsk) (kk : Nat) (a : Ac) (f k : Nat) (h : RAt w g L R d) (ok : d.Ok kk) (hk : kk ≤ 90000) (hf : f < d.files.length) (hi : a.In w) (hn : a.Near) (hkk : k = 1 ∨ k = 2 ∨ k = 6) :
    Calls Try.prog 51 #[.pointer (some ⟨g, 0, none⟩), actV (k : Int) a.name a.dst a.bv a.n a.m a.pn a.pv, .int .i64 (f : Int)] w (RwAt w g L R d a f k) := by
  rcases hkk with rfl | rfl | rfl
  · by_cases h1 : 16777216 < (fat d.files f).b.length + a.b.length
    · exact rwrite_1long w g L R d kk a f h ok hk hf hi hn h1
    · by_cases h2 : d.cap < d.used + a.b.length
      · exact rwrite_1full w g L R d kk a f h ok hk hf hi hn h1 h2
      · exact rwrite_1yes w g L R d kk a f h ok hk hf hi hn h1 h2
  · exact rwrite_2 w g L R d kk a f h ok hk hf hi hn
  · by_cases h1 : a.n < 0 ∨ ((fat d.files f).b.length : Int) < a.n
    · exact rwrite_6no w g L R d kk a f h ok hk hf hi hn h1
    · obtain ⟨m, hm⟩ := Int.eq_ofNat_of_zero_le (show 0 ≤ a.n by omega)
      exact rwrite_6yes w g L R d kk a f h ok hk hf hi hn m hm (by omega)

end Go.Proofs.Ytdapdlacpefbdaa
