/- The document's disk: a deed of names: by contract. -/
import Derived.Test.YtdapdlacpefbdaaRd2
import Derived.Test.YtdapdlacpefbdaaOrdE
namespace Go.Proofs.Ytdapdlacpefbdaa
open Go.RowKit Go.Cor

abbrev rdv (x : Dd) : Value := .agg #[.int .i64 (kOf x), .string x.src, .string x.dst, .int .i64 (x.file : Int)]
/-- The deed is done, but isn't counted. -/
def dturned (d : Dsk) (x : Dd) : Dsk := { d with now := turnT d.now x, deeds := d.deeds ++ [x] }
def Five (w : World) (q g j : Nat) (a b c d e : Value) : Prop := w.cell? ⟨q, 0, none⟩ = some a ∧ w.cell? ⟨q, 1, none⟩ = some b ∧ w.cell? ⟨q, 2, none⟩ = some c ∧ w.cell? ⟨q, 3, none⟩ = some d ∧ w.cell? ⟨g, j, none⟩ = some e
theorem Five.below {w w' : World} {B q g j : Nat} {a b c d e : Value} (h : Five w q g j a b c d e) (hb : Below B w w') (hq : q < B) (hg : g < B) : Five w' q g j a b c d e :=
  ⟨(hb.cell (p := ⟨q, 0, none⟩) hq).trans h.1, (hb.cell (p := ⟨q, 1, none⟩) hq).trans h.2.1, (hb.cell (p := ⟨q, 2, none⟩) hq).trans h.2.2.1, (hb.cell (p := ⟨q, 3, none⟩) hq).trans h.2.2.2.1, (hb.cell (p := ⟨g, j, none⟩) hg).trans h.2.2.2.2⟩
theorem Five.alloc {w : World} {q g j : Nat} {a b c d e : Value} (h : Five w q g j a b c d e) (o : Obj) : Five (w.alloc o) q g j a b c d e :=
  h.below (bel_alloc w o) (cell_lt h.1) (cell_lt h.2.2.2.2)
theorem IsX.litAt (w : World) (cs : Array Value) (T : TypeId) (size n b : Nat) (hb : w.heap.size = b) (hs : cs.size = n * size) (hm : n ≤ maxLen) : IsX (w.alloc (.cells cs T)) size (.slice (some ⟨b, 0, none⟩) n n) n cs.toList := by
  subst hb
  exact IsX.lit w cs T size n hs hm
theorem own_litAt (w : World) (B : Nat) (T : TypeId) (size b : Nat) (hb : w.heap.size = b) (hB : B ≤ b) : (w.alloc (.cells #[] T)).ownsRow B T size (.slice (some ⟨b, 0, none⟩) 0 0) 0 [] := by
  subst hb
  exact World.ownsRow_lit (base := B) (e := T) (size := size) w #[] 0 hB (Nat.zero_le _) (by simp)

theorem rdeed_fin {w w2 w9 : World} {g : Nat} {L L1 : RL} {R R1 : Nat → Prop} {d : Dsk} {x : Dd} {v9 : Value} (hA : RAt w9 g L1 R1 { d with now := turnT d.now x }) (ho : w9.ownsRow w2.heap.size 110 4 v9 (d.deeds ++ [x]).length (row rdd (d.deeds ++ [x]))) (hb : Below w2.heap.size w2.drew w9) (hg : g < w2.heap.size)
    (hk : Kept (fun b => b = g ∨ L.fil.ownBlock = some b) w w2) (hR : ∀ b, R1 b → R b ∨ w.heap.size ≤ b) (hF : ∀ b, L.fil.ownBlock = some b → b < w.heap.size) (hL : L1.fil = L.fil) : Rs w g L R (dturned d x) (w9.setCell ⟨g, 3, none⟩ v9) := by
  have hl : ∀ b, liesX v9 (d.deeds ++ [x]).length b → w2.heap.size ≤ b := fun b hb => (ho.lt b hb.2).1
  have h := hA.setDee (IsX.own ho) (fun b hb2 => ⟨fun e => by have := hl b hb2; omega, fun e => by have h1 := hl b hb2; rw [hL] at e; have h2 := hF b e; have := hk.size; omega⟩)
  refine ⟨_, _, h, ((hk.trans (Kept.of_below (S := fun _ => False) ((Below.refl w2.heap.size w2).drew.trans hb) (Nat.le_refl _)) (fun _ h => h.elim)).setCell (p := ⟨g, 3, none⟩) (.inl (.inl rfl)) v9), fun b hb2 => ?_, fun b hb2 => .inl (by rw [← hL]; exact hb2)⟩
  rcases hb2 with hb2 | hb2
  · exact hR b hb2
  · have := hl b hb2; have := hk.size; exact .inr (by omega)

set_option maxRecDepth 100000 in
set_option maxHeartbeats 4000000 in
theorem rdeed_any (w : World) (g : Nat) (L : RL) (R : Nat → Prop) (d : Dsk) (k : Nat) (x : Dd) (h : RAt w g L R d) (ok : d.Ok k) (hk : k ≤ 90000) (hx : x.src = noName → x.dst ≠ noName) :
    Calls Try.prog 50 #[.pointer (some ⟨g, 0, none⟩), rdv x] w fun e w' => e = .returned (.tuple #[]) ∧ Rs w g L R (dturned d x) w' := by
  obtain ⟨w0, hw0⟩ : ∃ w0, w0 = w.alloc (.cells #[.int .i64 (kOf x), .string x.src, .string x.dst, .int .i64 (x.file : Int)] 110) := ⟨_, rfl⟩
  have hb0 : Below w.heap.size w w0 := by rw [hw0]; exact bel_alloc w _
  have hs0 : w0.heap.size = w.heap.size + 1 := by rw [hw0]; simp
  have hbl : Blk w0 w.heap.size #[.int .i64 (kOf x), .string x.src, .string x.dst, .int .i64 (x.file : Int)] 110 := by rw [hw0]; exact Blk.new w _ _
  have hat := h.below hb0
  have hgl : g < w.heap.size := h.box.lt
  have hnl : d.now.length ≤ 90000 := by have h1 := ok.nowN; have h2 := ok.lenN; omega
  have hdl : d.deeds.length ≤ 90000 := by have h2 := ok.lenN; omega
  obtain ⟨ND, hND⟩ : ∃ n, d.deeds.length = n := ⟨_, rfl⟩
  obtain ⟨ib, hib, hib0, hib1, hib2⟩ := info_parts Try.infoRDeed
  have HT := Lib.hid (fun W (hW : IsN W L.now d.now) => rturn_any L.now d.now x W hW (by omega) hx (fun e he hn => by have := (ok.nowF e he).2; rw [hn] at this; cases this))
  have S0 : Five w0.drew w.heap.size g 1 (.int .i64 (kOf x)) (.string x.src) (.string x.dst) (.int .i64 (x.file : Int)) L.now := ⟨hbl.cell 0 rfl, hbl.cell 1 rfl, hbl.cell 2 rfl, hbl.cell 3 rfl, hat.facts.2.1⟩
  have HAT := Lib.hid hat
  have HBL := Lib.hid hbl
  have HB0 := Lib.hid hb0
  have HS0 := Lib.hid hs0
  have HFL := Lib.hid (show ∀ b, L.fil.ownBlock = some b → b < w.heap.size from fun b hb => (h.rest.fil.lt b hb).2)
  have HND := Lib.hid hND
  have HI := Lib.hid hib
  have HZ0 := Lib.hid hib0
  have HZ1 := Lib.hid hib1
  have HZ2 := Lib.hid hib2
  rw [hND] at hdl
  clear hat hbl h hb0 hs0 hND hib hib0 hib1 hib2 hx ok
  go_enter Try.func50, Try.ntmps50
  go_upto_region 1 with fail
  rw [← hw0]
  clear hw0
  refine AnyE.start (S := (fun wx => wx.cell? ⟨w.heap.size, 0, none⟩ = some (.int .i64 (kOf x)) ∧ wx.cell? ⟨w.heap.size, 1, none⟩ = some (.string x.src) ∧ wx.cell? ⟨w.heap.size, 2, none⟩ = some (.string x.dst) ∧ wx.cell? ⟨w.heap.size, 3, none⟩ = some (.int .i64 (x.file : Int)) ∧ wx.cell? ⟨g, 1, none⟩ = some L.now)) 9 (by kernel_rfl) (S0) (fun hHeld => ?_)
  refine AnyE.take (i := 0) (v := ?_) rfl (by kernel_rfl) (by kernel_rfl) (by kernel_rfl) (by kernel_rfl) (fun _ _ _ h => h) (Or.inl ⟨by rfl, ?_⟩) (by assumption) ?_
  rotate_left 1
  · intro w hSw
    (try dsimp only at hSw)
    go_simp
    all_goals (with_reducible rfl)
  try simp only [Act.put, List.getElem_toArray, List.getElem_cons_zero, List.getElem_cons_succ, List.setIfInBounds_toArray, List.set_cons_zero, List.set_cons_succ]
  refine AnyE.take (i := 1) (v := ?_) rfl (by kernel_rfl) (by kernel_rfl) (by kernel_rfl) (by kernel_rfl) (fun _ _ _ h => h) (Or.inl ⟨by rfl, ?_⟩) (by assumption) ?_
  rotate_left 1
  · intro w hSw
    (try dsimp only at hSw)
    go_simp
    all_goals (with_reducible rfl)
  try simp only [Act.put, List.getElem_toArray, List.getElem_cons_zero, List.getElem_cons_succ, List.setIfInBounds_toArray, List.set_cons_zero, List.set_cons_succ]
  refine AnyE.take (i := 2) (v := ?_) rfl (by kernel_rfl) (by kernel_rfl) (by kernel_rfl) (by kernel_rfl) (fun _ _ _ h => h) (Or.inl ⟨by rfl, ?_⟩) (by assumption) ?_
  rotate_left 1
  · intro w hSw
    (try dsimp only at hSw)
    go_simp
    all_goals (with_reducible rfl)
  try simp only [Act.put, List.getElem_toArray, List.getElem_cons_zero, List.getElem_cons_succ, List.setIfInBounds_toArray, List.set_cons_zero, List.set_cons_succ]
  refine AnyE.take (i := 3) (v := ?_) rfl (by kernel_rfl) (by kernel_rfl) (by kernel_rfl) (by kernel_rfl) (fun _ _ _ h => h) (Or.inl ⟨by rfl, ?_⟩) (by assumption) ?_
  rotate_left 1
  · intro w hSw
    (try dsimp only at hSw)
    go_simp
    all_goals (with_reducible rfl)
  try simp only [Act.put, List.getElem_toArray, List.getElem_cons_zero, List.getElem_cons_succ, List.setIfInBounds_toArray, List.set_cons_zero, List.set_cons_succ]
  refine AnyE.take (i := 4) (v := ?_) rfl (by kernel_rfl) (by kernel_rfl) (by kernel_rfl) (by kernel_rfl) (fun _ _ _ h => h) (Or.inl ⟨by rfl, ?_⟩) (by assumption) ?_
  rotate_left 1
  · intro w hSw
    (try dsimp only at hSw)
    go_simp
    all_goals (with_reducible rfl)
  try simp only [Act.put, List.getElem_toArray, List.getElem_cons_zero, List.getElem_cons_succ, List.setIfInBounds_toArray, List.set_cons_zero, List.set_cons_succ]
  refine AnyE.take (i := 5) (v := ?_) rfl (by kernel_rfl) (by kernel_rfl) (by kernel_rfl) (by kernel_rfl) (fun _ _ _ h => h) (Or.inl ⟨by rfl, ?_⟩) (by assumption) ?_
  rotate_left 1
  · intro w hSw
    (try dsimp only at hSw)
    go_simp
    all_goals (with_reducible rfl)
  try simp only [Act.put, List.getElem_toArray, List.getElem_cons_zero, List.getElem_cons_succ, List.setIfInBounds_toArray, List.set_cons_zero, List.set_cons_succ]
  refine AnyE.next (rs := [6]) (by kernel_rfl) (by simp) ?_
  refine AllE.cons rfl (fun K hK => ?_) AllE.nil
  go_simp
  refine (HT.out _ (HAT.out.below ((Below.refl _ _).drew)).rest.now).mono ?_
  rintro e w1 ⟨vq, rfl, hown, hb⟩
  obtain ⟨x1, z1, rfl, _, _⟩ := ownsRow_slice hown
  have S1 := S0.below hb (by show w.heap.size < w0.heap.size; rw [HS0.out]; omega) (by show g < w0.heap.size; rw [HS0.out]; omega)
  have HA1 := Lib.hid ((HAT.out.below ((Below.refl _ _).drew)).below hb)
  have HN1 := Lib.hid (show IsN w1 (Value.slice x1 (turnT d.now x).length z1) (turnT d.now x) from IsX.own hown)
  have HL1 := Lib.hid (show ∀ b, (Value.slice x1 (turnT d.now x).length z1).ownBlock = some b → w0.heap.size ≤ b from fun b hb => (hown.lt b hb).1)
  have HBL1 := Lib.hid (HBL.out.below ((Below.refl w0.heap.size w0).drew.trans hb) (show w.heap.size < w0.heap.size by rw [HS0.out]; omega))
  have HB1 := Lib.hid (HB0.out.trans (((Below.refl w0.heap.size w0).drew.trans hb).mono HB0.out.size))
  have g1 := HA1.out.box.free 1
  clear hown hb
  refine hK.out _ _ (S1) (fun hHeld => ?_)
  clear hK K
  try simp only [Act.put, List.getElem_toArray, List.getElem_cons_zero, List.getElem_cons_succ, List.setIfInBounds_toArray, List.set_cons_zero, List.set_cons_succ]
  refine AnyE.next (rs := [7]) (by kernel_rfl) (by simp) ?_
  refine AllE.cons rfl (fun K hK => ?_) AllE.nil
  go_simp
  refine hK.out _ _ (S1) (fun hHeld => ?_)
  clear hK K
  try simp only [Act.put, List.getElem_toArray, List.getElem_cons_zero, List.getElem_cons_succ, List.setIfInBounds_toArray, List.set_cons_zero, List.set_cons_succ]
  refine AnyE.next (rs := [8]) (by kernel_rfl) (by simp) ?_
  refine AllE.cons rfl (fun K hK => ?_) AllE.nil
  go_simp
  refine hK.out _ _ (S1) (fun hHeld => ?_)
  clear hK K
  try simp only [Act.put, List.getElem_toArray, List.getElem_cons_zero, List.getElem_cons_succ, List.setIfInBounds_toArray, List.set_cons_zero, List.set_cons_succ]
  refine AnyE.next (rs := [9]) (by kernel_rfl) (by simp) ?_
  refine AllE.last rfl (fun K hK => ?_)
  go_simp
  refine hK.out _ _ ?_
  clear hK K
  try simp only [Act.put, List.getElem_toArray, List.getElem_cons_zero, List.getElem_cons_succ, List.setIfInBounds_toArray, List.set_cons_zero, List.set_cons_succ]
  refine AnyE.done (by kernel_rfl) ?_ _
  have HA2 := Lib.hid (HA1.out.setNow HN1.out (fun b hb => ⟨fun e => by have := HL1.out b hb.2; rw [HS0.out] at this; omega, fun e => by have h1 := HL1.out b hb.2; have h2 := HFL.out b e; rw [HS0.out] at h1; omega⟩))
  have HBL2 := Lib.hid (HBL1.out.other (a := ⟨g, 1, none⟩) (by show g ≠ w.heap.size; omega) (Value.slice x1 (turnT d.now x).length z1))
  have HK2 := Lib.hid (show Kept (fun b => b = g ∨ L.fil.ownBlock = some b) w (w1.setCell ⟨g, 1, none⟩ (Value.slice x1 (turnT d.now x).length z1)) from (Kept.of_below HB1.out (Nat.le_refl _)).setCell (p := ⟨g, 1, none⟩) (.inl (.inl rfl)) (Value.slice x1 (turnT d.now x).length z1))
  have HR2 := Lib.hid (show ∀ b, (R b ∨ liesX (Value.slice x1 (turnT d.now x).length z1) (turnT d.now x).length b) → R b ∨ w.heap.size ≤ b from fun b hb => hb.imp id (fun h => by have := HL1.out b h.2; rw [HS0.out] at this; omega))
  obtain ⟨w2, hw2⟩ : ∃ w2, w2 = w1.setCell ⟨g, 1, none⟩ (Value.slice x1 (turnT d.now x).length z1) := ⟨_, rfl⟩
  rw [← hw2] at HA2 HBL2 HK2 ⊢
  clear HA1 HN1 HBL1 HB1 S1 S0 g1 hw2 HT HAT HBL HB0 HL1
  obtain ⟨L1, hL1⟩ : ∃ L1, L1 = ({ L with now := Value.slice x1 (turnT d.now x).length z1 } : RL) := ⟨_, rfl⟩
  have HLF := Lib.hid (show L1.fil = L.fil from by rw [hL1])
  have HLD := Lib.hid (show L1.dee = L.dee from by rw [hL1])
  rw [← hL1] at HA2
  clear hL1
  obtain ⟨R1, hR1⟩ : ∃ R1 : Nat → Prop, R1 = (fun b => R b ∨ liesX (Value.slice x1 (turnT d.now x).length z1) (turnT d.now x).length b) := ⟨_, rfl⟩
  rw [← hR1] at HA2
  have HR2 := Lib.hid (show ∀ b, R1 b → R b ∨ w.heap.size ≤ b from by rw [hR1]; exact HR2.out)
  clear hR1
  have T0 : Five w2.drew w.heap.size g 3 (.int .i64 (kOf x)) (.string x.src) (.string x.dst) (.int .i64 (x.file : Int)) L1.dee := ⟨HBL2.out.cell 0 rfl, HBL2.out.cell 1 rfl, HBL2.out.cell 2 rfl, HBL2.out.cell 3 rfl, HA2.out.facts.2.2.2.1⟩
  have HD2 := Lib.hid (show IsX w2.drew 4 L1.dee ND (row rdd d.deeds) from by have := HA2.out.rest.dee; rw [← HND.out]; exact this)
  have hgw2 : g < w2.heap.size := HA2.out.box.lt
  have hqw2 : w.heap.size < w2.heap.size := HBL2.out.lt
  go_wp2_with fail
  refine AnyE.start (S := (fun wx => wx.cell? ⟨w.heap.size, 0, none⟩ = some (.int .i64 (kOf x)) ∧ wx.cell? ⟨w.heap.size, 1, none⟩ = some (.string x.src) ∧ wx.cell? ⟨w.heap.size, 2, none⟩ = some (.string x.dst) ∧ wx.cell? ⟨w.heap.size, 3, none⟩ = some (.int .i64 (x.file : Int)) ∧ wx.cell? ⟨g, 3, none⟩ = some L1.dee)) 12 (by kernel_rfl) (T0) (fun hHeld => ?_)
  refine AnyE.take (i := 0) (v := ?_) rfl (by kernel_rfl) (by kernel_rfl) (by kernel_rfl) (by kernel_rfl) (fun _ _ _ h => h) (Or.inl ⟨by rfl, ?_⟩) (by assumption) ?_
  rotate_left 1
  · intro w hSw
    (try dsimp only at hSw)
    go_simp
    all_goals (with_reducible rfl)
  try simp only [Act.put, List.getElem_toArray, List.getElem_cons_zero, List.getElem_cons_succ, List.setIfInBounds_toArray, List.set_cons_zero, List.set_cons_succ]
  refine AnyE.take (i := 2) (v := ?_) rfl (by kernel_rfl) (by kernel_rfl) (by kernel_rfl) (by kernel_rfl) (fun _ _ _ h => h) (Or.inl ⟨by rfl, ?_⟩) (by assumption) ?_
  rotate_left 1
  · intro w hSw
    (try dsimp only at hSw)
    go_simp
    all_goals (with_reducible rfl)
  try simp only [Act.put, List.getElem_toArray, List.getElem_cons_zero, List.getElem_cons_succ, List.setIfInBounds_toArray, List.set_cons_zero, List.set_cons_succ]
  refine AnyE.take (i := 3) (v := ?_) rfl (by kernel_rfl) (by kernel_rfl) (by kernel_rfl) (by kernel_rfl) (fun _ _ _ h => h) (Or.inl ⟨by rfl, ?_⟩) (by assumption) ?_
  rotate_left 1
  · intro w hSw
    (try dsimp only at hSw)
    go_simp
    all_goals (with_reducible rfl)
  try simp only [Act.put, List.getElem_toArray, List.getElem_cons_zero, List.getElem_cons_succ, List.setIfInBounds_toArray, List.set_cons_zero, List.set_cons_succ]
  refine AnyE.take (i := 4) (v := ?_) rfl (by kernel_rfl) (by kernel_rfl) (by kernel_rfl) (by kernel_rfl) (fun _ _ _ h => h) (Or.inl ⟨by rfl, ?_⟩) (by assumption) ?_
  rotate_left 1
  · intro w hSw
    (try dsimp only at hSw)
    go_simp
    all_goals (with_reducible rfl)
  try simp only [Act.put, List.getElem_toArray, List.getElem_cons_zero, List.getElem_cons_succ, List.setIfInBounds_toArray, List.set_cons_zero, List.set_cons_succ]
  refine AnyE.take (i := 5) (v := ?_) rfl (by kernel_rfl) (by kernel_rfl) (by kernel_rfl) (by kernel_rfl) (fun _ _ _ h => h) (Or.inl ⟨by rfl, ?_⟩) (by assumption) ?_
  rotate_left 1
  · intro w hSw
    (try dsimp only at hSw)
    go_simp
    all_goals (with_reducible rfl)
  try simp only [Act.put, List.getElem_toArray, List.getElem_cons_zero, List.getElem_cons_succ, List.setIfInBounds_toArray, List.set_cons_zero, List.set_cons_succ]
  refine AnyE.take (i := 7) (v := ?_) rfl (by kernel_rfl) (by kernel_rfl) (by kernel_rfl) (by kernel_rfl) (fun _ _ _ h => h) (Or.inl ⟨by rfl, ?_⟩) (by assumption) ?_
  rotate_left 1
  · intro w hSw
    (try dsimp only at hSw)
    go_simp
    all_goals (with_reducible rfl)
  try simp only [Act.put, List.getElem_toArray, List.getElem_cons_zero, List.getElem_cons_succ, List.setIfInBounds_toArray, List.set_cons_zero, List.set_cons_succ]
  refine AnyE.next (rs := [1, 8]) (by kernel_rfl) (by simp) ?_
  refine AllE.cons rfl (fun K hK => ?_) ?_
  · go_simp
    refine hK.out _ _ (T0.alloc _) (fun hHeld => ?_)
    clear hK K
    try simp only [Act.put, List.getElem_toArray, List.getElem_cons_zero, List.getElem_cons_succ, List.setIfInBounds_toArray, List.set_cons_zero, List.set_cons_succ]
    refine AnyE.next (rs := [6, 8]) (by kernel_rfl) (by simp) ?_
    refine AllE.cons rfl (fun K hK => ?_) ?_
    · refine step_append_X (by rfl) _ _ 32 rfl w2.heap.size 110 ib _ 4 48 Try.underlying32 HI.out HZ0.out HZ1.out HZ2.out rfl (by decide) _ [] 0 rfl (own_litAt w2.drew w2.heap.size 110 4 w2.heap.size rfl (Nat.le_refl _)) _ ND _ rfl (HD2.out.mono ((Below.refl w2.heap.size w2.drew).alloc (by have h := (Below.refl w2.heap.size w2.drew).size; exact h) (.cells #[] 110)) (Nat.le_refl _)) (row_mem fun x _ => rdd_one x) (by unfold maxLen; omega) (by omega) (by have h := ((Below.refl w2.heap.size w2.drew).alloc (by have h := (Below.refl w2.heap.size w2.drew).size; exact h) (.cells #[] 110)).size; exact h) ?_
      intro v6 w6 hown6 hgr6 hat6
      have HO6 := Lib.hid (show w6.ownsRow w2.heap.size 110 4 v6 ND (row rdd d.deeds) from by have h := hown6; rw [Nat.zero_add] at h; simpa using h)
      have HB6 := Lib.hid (((Below.refl w2.heap.size w2.drew).alloc (by have h := (Below.refl w2.heap.size w2.drew).size; exact h) (.cells #[] 110)).grown hgr6 (by have h := ((Below.refl w2.heap.size w2.drew).alloc (by have h := (Below.refl w2.heap.size w2.drew).size; exact h) (.cells #[] 110)).size; exact h) (fun j hj => by have h := ((own_litAt w2.drew w2.heap.size 110 4 w2.heap.size rfl (Nat.le_refl _))).lt j hj; exact h.1))
      have S6 := T0.below HB6.out hqw2 hgw2
      refine hK.out _ _ (S6) (fun hHeld => ?_)
      clear hK K
      try simp only [Act.put, List.getElem_toArray, List.getElem_cons_zero, List.getElem_cons_succ, List.setIfInBounds_toArray, List.set_cons_zero, List.set_cons_succ]
      refine AnyE.next (rs := [8]) (by kernel_rfl) (by simp) ?_
      refine AllE.cons rfl (fun K hK => ?_) AllE.nil
      go_simp
      refine hK.out _ _ (S6.alloc _) (fun hHeld => ?_)
      clear hK K
      try simp only [Act.put, List.getElem_toArray, List.getElem_cons_zero, List.getElem_cons_succ, List.setIfInBounds_toArray, List.set_cons_zero, List.set_cons_succ]
      refine AnyE.next (rs := [9]) (by kernel_rfl) (by simp) ?_
      refine AllE.cons rfl (fun K hK => ?_) AllE.nil
      refine step_append_X (by rfl) _ _ 32 rfl w2.heap.size 110 ib _ 4 48 Try.underlying32 HI.out HZ0.out HZ1.out HZ2.out rfl (by decide) _ (row rdd d.deeds) ND rfl (HO6.out.alloc (.cells #[.int .i64 (kOf x), .string x.src, .string x.dst, .int .i64 (x.file : Int)] 110)) _ 1 _ rfl (IsX.litAt w6 #[.int .i64 (kOf x), .string x.src, .string x.dst, .int .i64 (x.file : Int)] 110 4 1 w6.heap.size rfl rfl (by decide)) (rdd_one x) (by unfold maxLen; omega) (by omega) (by have h := (HB6.out.alloc HB6.out.size (.cells #[.int .i64 (kOf x), .string x.src, .string x.dst, .int .i64 (x.file : Int)] 110)).size; exact h) ?_
      intro v9 w9 hown9 hgr9 hat9
      obtain ⟨x9, z9, rfl, _, _⟩ := ownsRow_slice hown9
      have HO9 := Lib.hid (show w9.ownsRow w2.heap.size 110 4 (.slice x9 (ND + 1) z9) (d.deeds ++ [x]).length (row rdd (d.deeds ++ [x])) from by rw [List.length_append, row_append, row_one, HND.out]; exact hown9)
      have HB9 := Lib.hid ((HB6.out.alloc HB6.out.size (.cells #[.int .i64 (kOf x), .string x.src, .string x.dst, .int .i64 (x.file : Int)] 110)).grown hgr9 (by have h := (HB6.out.alloc HB6.out.size (.cells #[.int .i64 (kOf x), .string x.src, .string x.dst, .int .i64 (x.file : Int)] 110)).size; exact h) (fun j hj => by have h := ((HO6.out.alloc (.cells #[.int .i64 (kOf x), .string x.src, .string x.dst, .int .i64 (x.file : Int)] 110))).lt j hj; exact h.1))
      have S9 := T0.below HB9.out hqw2 hgw2
      have HA9 := Lib.hid (HA2.out.below (show Below w2.heap.size w2 w9 from ((Below.refl w2.heap.size w2).drew).trans HB9.out))
      have g3 := HA9.out.box.free 3
      clear hown9 hgr9 hat9
      refine hK.out _ _ (S9) (fun hHeld => ?_)
      clear hK K
      try simp only [Act.put, List.getElem_toArray, List.getElem_cons_zero, List.getElem_cons_succ, List.setIfInBounds_toArray, List.set_cons_zero, List.set_cons_succ]
      refine AnyE.next (rs := [10]) (by kernel_rfl) (by simp) ?_
      refine AllE.cons rfl (fun K hK => ?_) AllE.nil
      go_simp
      refine hK.out _ _ (S9) (fun hHeld => ?_)
      clear hK K
      try simp only [Act.put, List.getElem_toArray, List.getElem_cons_zero, List.getElem_cons_succ, List.setIfInBounds_toArray, List.set_cons_zero, List.set_cons_succ]
      refine AnyE.next (rs := [11]) (by kernel_rfl) (by simp) ?_
      refine AllE.cons rfl (fun K hK => ?_) AllE.nil
      go_simp
      refine hK.out _ _ (S9) (fun hHeld => ?_)
      clear hK K
      try simp only [Act.put, List.getElem_toArray, List.getElem_cons_zero, List.getElem_cons_succ, List.setIfInBounds_toArray, List.set_cons_zero, List.set_cons_succ]
      refine AnyE.next (rs := [12]) (by kernel_rfl) (by simp) ?_
      refine AllE.last rfl (fun K hK => ?_)
      go_simp
      refine hK.out _ _ ?_
      clear hK K
      try simp only [Act.put, List.getElem_toArray, List.getElem_cons_zero, List.getElem_cons_succ, List.setIfInBounds_toArray, List.set_cons_zero, List.set_cons_succ]
      refine AnyE.done (by kernel_rfl) ?_ _
      go_wp2
      go_end0
      exact ⟨rfl, rdeed_fin HA9.out HO9.out HB9.out hgw2 HK2.out HR2.out HFL.out HLF.out⟩
    refine AllE.cons rfl (fun K hK => ?_) AllE.nil
    go_simp
    refine hK.out _ _ ((T0.alloc _).alloc _) (fun hHeld => ?_)
    clear hK K
    try simp only [Act.put, List.getElem_toArray, List.getElem_cons_zero, List.getElem_cons_succ, List.setIfInBounds_toArray, List.set_cons_zero, List.set_cons_succ]
    refine AnyE.next (rs := [6]) (by kernel_rfl) (by simp) ?_
    refine AllE.cons rfl (fun K hK => ?_) AllE.nil
    refine step_append_X (by rfl) _ _ 32 rfl w2.heap.size 110 ib _ 4 48 Try.underlying32 HI.out HZ0.out HZ1.out HZ2.out rfl (by decide) _ [] 0 rfl ((own_litAt w2.drew w2.heap.size 110 4 w2.heap.size rfl (Nat.le_refl _)).alloc (.cells #[.int .i64 (kOf x), .string x.src, .string x.dst, .int .i64 (x.file : Int)] 110)) _ ND _ rfl (HD2.out.mono (((Below.refl w2.heap.size w2.drew).alloc (by have h := (Below.refl w2.heap.size w2.drew).size; exact h) (.cells #[] 110)).alloc (by have h := ((Below.refl w2.heap.size w2.drew).alloc (by have h := (Below.refl w2.heap.size w2.drew).size; exact h) (.cells #[] 110)).size; exact h) (.cells #[.int .i64 (kOf x), .string x.src, .string x.dst, .int .i64 (x.file : Int)] 110)) (Nat.le_refl _)) (row_mem fun x _ => rdd_one x) (by unfold maxLen; omega) (by omega) (by have h := (((Below.refl w2.heap.size w2.drew).alloc (by have h := (Below.refl w2.heap.size w2.drew).size; exact h) (.cells #[] 110)).alloc (by have h := ((Below.refl w2.heap.size w2.drew).alloc (by have h := (Below.refl w2.heap.size w2.drew).size; exact h) (.cells #[] 110)).size; exact h) (.cells #[.int .i64 (kOf x), .string x.src, .string x.dst, .int .i64 (x.file : Int)] 110)).size; exact h) ?_
    intro v6 w6 hown6 hgr6 hat6
    have HO6 := Lib.hid (show w6.ownsRow w2.heap.size 110 4 v6 ND (row rdd d.deeds) from by have h := hown6; rw [Nat.zero_add] at h; simpa using h)
    have HB6 := Lib.hid ((((Below.refl w2.heap.size w2.drew).alloc (by have h := (Below.refl w2.heap.size w2.drew).size; exact h) (.cells #[] 110)).alloc (by have h := ((Below.refl w2.heap.size w2.drew).alloc (by have h := (Below.refl w2.heap.size w2.drew).size; exact h) (.cells #[] 110)).size; exact h) (.cells #[.int .i64 (kOf x), .string x.src, .string x.dst, .int .i64 (x.file : Int)] 110)).grown hgr6 (by have h := (((Below.refl w2.heap.size w2.drew).alloc (by have h := (Below.refl w2.heap.size w2.drew).size; exact h) (.cells #[] 110)).alloc (by have h := ((Below.refl w2.heap.size w2.drew).alloc (by have h := (Below.refl w2.heap.size w2.drew).size; exact h) (.cells #[] 110)).size; exact h) (.cells #[.int .i64 (kOf x), .string x.src, .string x.dst, .int .i64 (x.file : Int)] 110)).size; exact h) (fun j hj => by have h := (((own_litAt w2.drew w2.heap.size 110 4 w2.heap.size rfl (Nat.le_refl _)).alloc (.cells #[.int .i64 (kOf x), .string x.src, .string x.dst, .int .i64 (x.file : Int)] 110))).lt j hj; exact h.1))
    have S6 := T0.below HB6.out hqw2 hgw2
    refine hK.out _ _ (S6) (fun hHeld => ?_)
    clear hK K
    try simp only [Act.put, List.getElem_toArray, List.getElem_cons_zero, List.getElem_cons_succ, List.setIfInBounds_toArray, List.set_cons_zero, List.set_cons_succ]
    refine AnyE.next (rs := [9]) (by kernel_rfl) (by simp) ?_
    refine AllE.cons rfl (fun K hK => ?_) AllE.nil
    refine step_append_X (by rfl) _ _ 32 rfl w2.heap.size 110 ib _ 4 48 Try.underlying32 HI.out HZ0.out HZ1.out HZ2.out rfl (by decide) _ (row rdd d.deeds) ND rfl HO6.out _ 1 _ rfl (((IsX.litAt (w2.drew.alloc (.cells #[] 110)) #[.int .i64 (kOf x), .string x.src, .string x.dst, .int .i64 (x.file : Int)] 110 4 1 (w2.heap.size + 1) (by simp) rfl (by decide))).kept ((Kept.refl (fun j => some w2.heap.size = some j) _).grown hgr6 (fun k hk => .inl hk)) (fun k hk hs => by have h1 : some (w2.heap.size + 1) = some k := hk.2; have h2 := Option.some.inj h1; have h3 := Option.some.inj hs; omega)) (rdd_one x) (by unfold maxLen; omega) (by omega) (by have h := HB6.out.size; exact h) ?_
    intro v9 w9 hown9 hgr9 hat9
    obtain ⟨x9, z9, rfl, _, _⟩ := ownsRow_slice hown9
    have HO9 := Lib.hid (show w9.ownsRow w2.heap.size 110 4 (.slice x9 (ND + 1) z9) (d.deeds ++ [x]).length (row rdd (d.deeds ++ [x])) from by rw [List.length_append, row_append, row_one, HND.out]; exact hown9)
    have HB9 := Lib.hid (HB6.out.grown hgr9 (by have h := HB6.out.size; exact h) (fun j hj => by have h := (HO6.out).lt j hj; exact h.1))
    have S9 := T0.below HB9.out hqw2 hgw2
    have HA9 := Lib.hid (HA2.out.below (show Below w2.heap.size w2 w9 from ((Below.refl w2.heap.size w2).drew).trans HB9.out))
    have g3 := HA9.out.box.free 3
    clear hown9 hgr9 hat9
    refine hK.out _ _ (S9) (fun hHeld => ?_)
    clear hK K
    try simp only [Act.put, List.getElem_toArray, List.getElem_cons_zero, List.getElem_cons_succ, List.setIfInBounds_toArray, List.set_cons_zero, List.set_cons_succ]
    refine AnyE.next (rs := [10]) (by kernel_rfl) (by simp) ?_
    refine AllE.cons rfl (fun K hK => ?_) AllE.nil
    go_simp
    refine hK.out _ _ (S9) (fun hHeld => ?_)
    clear hK K
    try simp only [Act.put, List.getElem_toArray, List.getElem_cons_zero, List.getElem_cons_succ, List.setIfInBounds_toArray, List.set_cons_zero, List.set_cons_succ]
    refine AnyE.next (rs := [11]) (by kernel_rfl) (by simp) ?_
    refine AllE.cons rfl (fun K hK => ?_) AllE.nil
    go_simp
    refine hK.out _ _ (S9) (fun hHeld => ?_)
    clear hK K
    try simp only [Act.put, List.getElem_toArray, List.getElem_cons_zero, List.getElem_cons_succ, List.setIfInBounds_toArray, List.set_cons_zero, List.set_cons_succ]
    refine AnyE.next (rs := [12]) (by kernel_rfl) (by simp) ?_
    refine AllE.last rfl (fun K hK => ?_)
    go_simp
    refine hK.out _ _ ?_
    clear hK K
    try simp only [Act.put, List.getElem_toArray, List.getElem_cons_zero, List.getElem_cons_succ, List.setIfInBounds_toArray, List.set_cons_zero, List.set_cons_succ]
    refine AnyE.done (by kernel_rfl) ?_ _
    go_wp2
    go_end0
    exact ⟨rfl, rdeed_fin HA9.out HO9.out HB9.out hgw2 HK2.out HR2.out HFL.out HLF.out⟩
  refine AllE.cons rfl (fun K hK => ?_) AllE.nil
  go_simp
  refine hK.out _ _ (T0.alloc _) (fun hHeld => ?_)
  clear hK K
  try simp only [Act.put, List.getElem_toArray, List.getElem_cons_zero, List.getElem_cons_succ, List.setIfInBounds_toArray, List.set_cons_zero, List.set_cons_succ]
  refine AnyE.next (rs := [1]) (by kernel_rfl) (by simp) ?_
  refine AllE.cons rfl (fun K hK => ?_) AllE.nil
  go_simp
  refine hK.out _ _ ((T0.alloc _).alloc _) (fun hHeld => ?_)
  clear hK K
  try simp only [Act.put, List.getElem_toArray, List.getElem_cons_zero, List.getElem_cons_succ, List.setIfInBounds_toArray, List.set_cons_zero, List.set_cons_succ]
  refine AnyE.next (rs := [6]) (by kernel_rfl) (by simp) ?_
  refine AllE.cons rfl (fun K hK => ?_) AllE.nil
  refine step_append_X (by rfl) _ _ 32 rfl w2.heap.size 110 ib _ 4 48 Try.underlying32 HI.out HZ0.out HZ1.out HZ2.out rfl (by decide) _ [] 0 rfl (own_litAt (w2.drew.alloc (.cells #[.int .i64 (kOf x), .string x.src, .string x.dst, .int .i64 (x.file : Int)] 110)) w2.heap.size 110 4 (w2.heap.size + 1) (by simp) (by omega)) _ ND _ rfl (HD2.out.mono (((Below.refl w2.heap.size w2.drew).alloc (by have h := (Below.refl w2.heap.size w2.drew).size; exact h) (.cells #[.int .i64 (kOf x), .string x.src, .string x.dst, .int .i64 (x.file : Int)] 110)).alloc (by have h := ((Below.refl w2.heap.size w2.drew).alloc (by have h := (Below.refl w2.heap.size w2.drew).size; exact h) (.cells #[.int .i64 (kOf x), .string x.src, .string x.dst, .int .i64 (x.file : Int)] 110)).size; exact h) (.cells #[] 110)) (Nat.le_refl _)) (row_mem fun x _ => rdd_one x) (by unfold maxLen; omega) (by omega) (by have h := (((Below.refl w2.heap.size w2.drew).alloc (by have h := (Below.refl w2.heap.size w2.drew).size; exact h) (.cells #[.int .i64 (kOf x), .string x.src, .string x.dst, .int .i64 (x.file : Int)] 110)).alloc (by have h := ((Below.refl w2.heap.size w2.drew).alloc (by have h := (Below.refl w2.heap.size w2.drew).size; exact h) (.cells #[.int .i64 (kOf x), .string x.src, .string x.dst, .int .i64 (x.file : Int)] 110)).size; exact h) (.cells #[] 110)).size; exact h) ?_
  intro v6 w6 hown6 hgr6 hat6
  have HO6 := Lib.hid (show w6.ownsRow w2.heap.size 110 4 v6 ND (row rdd d.deeds) from by have h := hown6; rw [Nat.zero_add] at h; simpa using h)
  have HB6 := Lib.hid ((((Below.refl w2.heap.size w2.drew).alloc (by have h := (Below.refl w2.heap.size w2.drew).size; exact h) (.cells #[.int .i64 (kOf x), .string x.src, .string x.dst, .int .i64 (x.file : Int)] 110)).alloc (by have h := ((Below.refl w2.heap.size w2.drew).alloc (by have h := (Below.refl w2.heap.size w2.drew).size; exact h) (.cells #[.int .i64 (kOf x), .string x.src, .string x.dst, .int .i64 (x.file : Int)] 110)).size; exact h) (.cells #[] 110)).grown hgr6 (by have h := (((Below.refl w2.heap.size w2.drew).alloc (by have h := (Below.refl w2.heap.size w2.drew).size; exact h) (.cells #[.int .i64 (kOf x), .string x.src, .string x.dst, .int .i64 (x.file : Int)] 110)).alloc (by have h := ((Below.refl w2.heap.size w2.drew).alloc (by have h := (Below.refl w2.heap.size w2.drew).size; exact h) (.cells #[.int .i64 (kOf x), .string x.src, .string x.dst, .int .i64 (x.file : Int)] 110)).size; exact h) (.cells #[] 110)).size; exact h) (fun j hj => by have h := ((own_litAt (w2.drew.alloc (.cells #[.int .i64 (kOf x), .string x.src, .string x.dst, .int .i64 (x.file : Int)] 110)) w2.heap.size 110 4 (w2.heap.size + 1) (by simp) (by omega))).lt j hj; exact h.1))
  have S6 := T0.below HB6.out hqw2 hgw2
  refine hK.out _ _ (S6) (fun hHeld => ?_)
  clear hK K
  try simp only [Act.put, List.getElem_toArray, List.getElem_cons_zero, List.getElem_cons_succ, List.setIfInBounds_toArray, List.set_cons_zero, List.set_cons_succ]
  refine AnyE.next (rs := [9]) (by kernel_rfl) (by simp) ?_
  refine AllE.cons rfl (fun K hK => ?_) AllE.nil
  refine step_append_X (by rfl) _ _ 32 rfl w2.heap.size 110 ib _ 4 48 Try.underlying32 HI.out HZ0.out HZ1.out HZ2.out rfl (by decide) _ (row rdd d.deeds) ND rfl HO6.out _ 1 _ rfl ((((IsX.litAt w2.drew #[.int .i64 (kOf x), .string x.src, .string x.dst, .int .i64 (x.file : Int)] 110 4 1 w2.heap.size rfl rfl (by decide))).mono (bel_alloc _ (.cells #[] 110)) (Nat.le_refl _)).kept ((Kept.refl (fun j => some (w2.heap.size + 1) = some j) _).grown hgr6 (fun k hk => .inl hk)) (fun k hk hs => by have h1 : some w2.heap.size = some k := hk.2; have h2 := Option.some.inj h1; have h3 := Option.some.inj hs; omega)) (rdd_one x) (by unfold maxLen; omega) (by omega) (by have h := HB6.out.size; exact h) ?_
  intro v9 w9 hown9 hgr9 hat9
  obtain ⟨x9, z9, rfl, _, _⟩ := ownsRow_slice hown9
  have HO9 := Lib.hid (show w9.ownsRow w2.heap.size 110 4 (.slice x9 (ND + 1) z9) (d.deeds ++ [x]).length (row rdd (d.deeds ++ [x])) from by rw [List.length_append, row_append, row_one, HND.out]; exact hown9)
  have HB9 := Lib.hid (HB6.out.grown hgr9 (by have h := HB6.out.size; exact h) (fun j hj => by have h := (HO6.out).lt j hj; exact h.1))
  have S9 := T0.below HB9.out hqw2 hgw2
  have HA9 := Lib.hid (HA2.out.below (show Below w2.heap.size w2 w9 from ((Below.refl w2.heap.size w2).drew).trans HB9.out))
  have g3 := HA9.out.box.free 3
  clear hown9 hgr9 hat9
  refine hK.out _ _ (S9) (fun hHeld => ?_)
  clear hK K
  try simp only [Act.put, List.getElem_toArray, List.getElem_cons_zero, List.getElem_cons_succ, List.setIfInBounds_toArray, List.set_cons_zero, List.set_cons_succ]
  refine AnyE.next (rs := [10]) (by kernel_rfl) (by simp) ?_
  refine AllE.cons rfl (fun K hK => ?_) AllE.nil
  go_simp
  refine hK.out _ _ (S9) (fun hHeld => ?_)
  clear hK K
  try simp only [Act.put, List.getElem_toArray, List.getElem_cons_zero, List.getElem_cons_succ, List.setIfInBounds_toArray, List.set_cons_zero, List.set_cons_succ]
  refine AnyE.next (rs := [11]) (by kernel_rfl) (by simp) ?_
  refine AllE.cons rfl (fun K hK => ?_) AllE.nil
  go_simp
  refine hK.out _ _ (S9) (fun hHeld => ?_)
  clear hK K
  try simp only [Act.put, List.getElem_toArray, List.getElem_cons_zero, List.getElem_cons_succ, List.setIfInBounds_toArray, List.set_cons_zero, List.set_cons_succ]
  refine AnyE.next (rs := [12]) (by kernel_rfl) (by simp) ?_
  refine AllE.last rfl (fun K hK => ?_)
  go_simp
  refine hK.out _ _ ?_
  clear hK K
  try simp only [Act.put, List.getElem_toArray, List.getElem_cons_zero, List.getElem_cons_succ, List.setIfInBounds_toArray, List.set_cons_zero, List.set_cons_succ]
  refine AnyE.done (by kernel_rfl) ?_ _
  go_wp2
  go_end0
  exact ⟨rfl, rdeed_fin HA9.out HO9.out HB9.out hgw2 HK2.out HR2.out HFL.out HLF.out⟩

end Go.Proofs.Ytdapdlacpefbdaa
