/- Dov, Rfull. -/
import Derived.Test.YtoblbipkkdiddaaGreatDoorM12
import Derived.Test.YtoblbipkkdiddaaGreatDoorM9
set_option linter.unusedVariables false
set_option linter.unusedSimpArgs false

section
namespace Go.Proofs.YtoblbipkkdiddaaGreatDoor
open Go.RowKit Go.Cor

/-- An act: its kind, its number, its needle. -/
structure A9 where
  kind : Int
  m : Int
  n : Ndl
abbrev av (a : A9) (v : Value) : Value := .agg #[.int .i64 a.kind, .int .i64 a.m, .int .u64 (a.n.key : Int), .int .u32 (a.n.cookie : Int), .bool a.n.gone, v]
def actV (s : Vst) (a : A9) : Vst × Nat :=
  if a.kind = 0 then s.put a.n else if a.kind = 1 then s.del a.n.key a.n.cookie else if a.kind = 2 then (s, s.look a.n.key a.n.cookie) else if a.kind = 4 then s.set a.m a.n.gone else (s, 0)
theorem look_le (s : Vst) (k c : Nat) : s.look k c ≤ 17 := by
  unfold Vst.look
  split
  · omega
  · split
    · omega
    · split <;> omega
theorem put_le (s : Vst) (n : Ndl) : (s.put n).2 ≤ 17 := by
  have h := ncheck_le n
  unfold Vst.put
  split
  · simp
  · split
    · simp only; omega
    · split
      · simp
      · split
        · simp only; split <;> omega
        · unfold Vst.write; split <;> simp
theorem del_le (s : Vst) (k c : Nat) : (s.del k c).2 ≤ 17 := by
  have h := look_le s k c
  unfold Vst.del
  split
  · exact h
  · split
    · simp
    · unfold Vst.write; split <;> simp
theorem set_le (s : Vst) (e : Int) (b : Bool) : (s.set e b).2 ≤ 17 := by
  unfold Vst.set
  split
  · simp
  · split <;> simp
/-- What Do leaves. -/
def DovT (w : World) (g p : Nat) (S : Nat → Prop) (d : Dsk) (s : Vst) (k' : Nat) (s' : Vst) (c : Nat) (e : Ending) (w' : World) : Prop :=
  ∃ (m : Ndl) (x : Option Addr) (L cc : Nat) (kv : Value), e = .returned (.tuple #[Nd.nval m (.slice x L cc), kv, .int .i64 (c : Int)]) ∧ VolT w w' g p S d s k' s'
theorem VolT.other {w w0 w2 w3 : World} {g p k' B : Nat} {S : Nat → Prop} {d : Dsk} {s s' : Vst} (h : VolT w0 w2 g p S d s k' s') (hb : Below w.heap.size w w0) (hB : w.heap.size ≤ B) (hB2 : B < w0.heap.size) (hS : ∀ b, S b → b < w.heap.size) (hk : Kept (fun j => j = B) w2 w3) : VolT w w3 g p S d s k' s' := by
  obtain ⟨d', ⟨S', h1, h2, h3⟩, h4⟩ := h
  refine ⟨d', ⟨S', h1.kept hk (fun b hb2 e => ?_), ?_, fun b hb2 => ?_⟩, h4⟩
  · subst e
    rcases h3 b hb2 with h | h
    · have := hS b h; omega
    · omega
  · exact ((Kept.of_below (S := S) hb (Nat.le_refl _)).trans h2 (fun j hj _ => hj)).trans hk (fun j e hj => by subst e; omega)
  · rcases h3 b hb2 with h | h
    · exact .inl h
    · exact .inr (Nat.le_trans hb.size h)
theorem kept_set4 (w : World) (B : Nat) (u0 u1 u2 u3 : Value) : Kept (fun j => j = B) w (set4 w B u0 u1 u2 u3) :=
  ((((Kept.refl (fun j => j = B) w).setCell (.inl rfl) _).setCell (.inl rfl) _).setCell (.inl rfl) _).setCell (.inl rfl) _

set_option maxRecDepth 100000 in
set_option maxHeartbeats 1000000 in
theorem dov_0 (m : Int) (key cookie : Nat) (gone : Bool) (data : List UInt8) (x : Option Addr) (vL vc : Nat) (g p k : Nat) (S : Nat → Prop) (d : Dsk) (s : Vst) (w : World) (h : Vready w g p S d k s) (hv : IsB w (.slice x vL vc) data) (hvS : ∀ b, liesB (.slice x vL vc) data b → ¬ S b) (hn : Ndl.fits ⟨key, cookie, gone, data⟩) (hr : Room' s d ⟨key, cookie, gone, data⟩) :
    Calls Tryz.prog 31 #[.pointer (some ⟨g, 0, none⟩), .agg #[.int .i64 0, .int .i64 m, .int .u64 (key : Int), .int .u32 (cookie : Int), .bool gone, .slice x vL vc]] w (DovT w g p S d s (k + 4) (s.put ⟨key, cookie, gone, data⟩).1 (s.put ⟨key, cookie, gone, data⟩).2) := by
  have HB0 := Lib.hid (two_below w #[.int .i64 0, .int .i64 m, .int .u64 (key : Int), .int .u32 (cookie : Int), .bool gone, .slice x vL vc] #[.int .u64 0, .int .u32 0, .bool false, .slice none 0 0] 86 48)
  have HR0 := Lib.hid (h.below HB0.out)
  have HC := Lib.hid (put_w ⟨key, cookie, gone, data⟩ (.slice x vL vc) g p k S d s _ HR0.out (hv.mono HB0.out (Nat.le_refl _)) hvS hn hr)
  have HLE := Lib.hid (show (s.put ⟨key, cookie, gone, data⟩).2 ≤ 17 from put_le _ _)
  obtain ⟨q, hq⟩ : ∃ q, (s.put ⟨key, cookie, gone, data⟩).2 = q := ⟨_, rfl⟩
  rw [hq] at HC HLE ⊢
  have HSL := Lib.hid (fun b hb => h.vl.lt b hb)
  clear h hv hvS hn hr hq
  go_enter Tryz.func31, Tryz.ntmps31
  go_wp2_with fail
  refine HC.out.mono ?_
  rintro e w2 ⟨rfl, ht⟩
  have HT := Lib.hid (VolT.other ht HB0.out (Nat.le_succ _) (by simp) HSL.out (kept_set4 w2 (w.heap.size + 1) (.int .u64 0) (.int .u32 0) (.bool false) (.slice none 0 0)))
  have hz := (Blk.new (w.alloc (.cells #[.int .i64 0, .int .i64 m, .int .u64 (key : Int), .int .u32 (cookie : Int), .bool gone, .slice x vL vc] 86)) #[.int .u64 0, .int .u32 0, .bool false, .slice none 0 0] 48)
  rw [show (w.alloc (.cells #[.int .i64 0, .int .i64 m, .int .u64 (key : Int), .int .u32 (cookie : Int), .bool gone, .slice x vL vc] 86)).heap.size = w.heap.size + 1 by simp] at hz
  have hz2 : Blk w2 (w.heap.size + 1) #[.int .u64 0, .int .u32 0, .bool false, .slice none 0 0] 48 := by
    obtain ⟨d', ⟨S', _, h2, _⟩, _⟩ := ht
    exact hz.kept h2 (fun hs => by have := HSL.out _ hs; omega)
  have HZ := Lib.hid hz2
  clear ht hz hz2
  go_wp2_with fail
  refine (code_any q _ HLE.out).mono ?_
  rintro e w3 ⟨rfl, rfl⟩
  have z0 := HZ.out.cell 0 rfl
  have z1 := HZ.out.cell 1 rfl
  have z2 := HZ.out.cell 2 rfl
  have z3 := HZ.out.cell 3 rfl
  have zf := fun j => HZ.out.free j
  have hF := blk_set4 HZ.out (.int .u64 0) (.int .u32 0) (.bool false) (.slice none 0 0)
  have y0 := hF.cell 0 rfl
  have y1 := hF.cell 1 rfl
  have y2 := hF.cell 2 rfl
  have y3 := hF.cell 3 rfl
  have hT := HT.out
  unfold set4 at y0 y1 y2 y3 hT
  have HTT := Lib.hid hT
  have HY := Lib.hid (And.intro y0 (And.intro y1 (And.intro y2 y3)))
  clear hF y0 y1 y2 y3 hT
  go_wp2
  obtain ⟨y0, y1, y2, y3⟩ := HY.out
  exact bodyPost_ret (v := .tuple #[.agg #[.int .u64 0, .int .u32 0, .bool false, .slice none 0 0], .slice none 0 0, .int .i64 (q : Int)]) (by simp [results, Tryz.results31, go_sem, y0, y1, y2, y3]) rfl ⟨⟨0, 0, false, []⟩, none, 0, 0, .slice none 0 0, rfl, HTT.out⟩
set_option maxRecDepth 100000 in
set_option maxHeartbeats 1000000 in
theorem dov_1 (m : Int) (key cookie : Nat) (gone : Bool) (data : List UInt8) (x : Option Addr) (vL vc : Nat) (g p k : Nat) (S : Nat → Prop) (d : Dsk) (s : Vst) (w : World) (h : Vready w g p S d k s) (hk : key < 18446744073709551616) (hc : cookie < 4294967296) (hr : Room' s d (grave key cookie)) :
    Calls Tryz.prog 31 #[.pointer (some ⟨g, 0, none⟩), .agg #[.int .i64 1, .int .i64 m, .int .u64 (key : Int), .int .u32 (cookie : Int), .bool gone, .slice x vL vc]] w (DovT w g p S d s (k + 4) (s.del key cookie).1 (s.del key cookie).2) := by
  have HB0 := Lib.hid (two_below w #[.int .i64 1, .int .i64 m, .int .u64 (key : Int), .int .u32 (cookie : Int), .bool gone, .slice x vL vc] #[.int .u64 0, .int .u32 0, .bool false, .slice none 0 0] 86 48)
  have HR0 := Lib.hid (h.below HB0.out)
  have HC := Lib.hid (del_w key cookie g p k S d s _ HR0.out hk hc hr)
  have HLE := Lib.hid (show (s.del key cookie).2 ≤ 17 from del_le _ _ _)
  obtain ⟨q, hq⟩ : ∃ q, (s.del key cookie).2 = q := ⟨_, rfl⟩
  rw [hq] at HC HLE ⊢
  have HSL := Lib.hid (fun b hb => h.vl.lt b hb)
  clear h hk hc hr hq
  go_enter Tryz.func31, Tryz.ntmps31
  go_wp2_with fail
  refine HC.out.mono ?_
  rintro e w2 ⟨rfl, ht⟩
  have HT := Lib.hid (VolT.other ht HB0.out (Nat.le_succ _) (by simp) HSL.out (kept_set4 w2 (w.heap.size + 1) (.int .u64 0) (.int .u32 0) (.bool false) (.slice none 0 0)))
  have hz := (Blk.new (w.alloc (.cells #[.int .i64 1, .int .i64 m, .int .u64 (key : Int), .int .u32 (cookie : Int), .bool gone, .slice x vL vc] 86)) #[.int .u64 0, .int .u32 0, .bool false, .slice none 0 0] 48)
  rw [show (w.alloc (.cells #[.int .i64 1, .int .i64 m, .int .u64 (key : Int), .int .u32 (cookie : Int), .bool gone, .slice x vL vc] 86)).heap.size = w.heap.size + 1 by simp] at hz
  have hz2 : Blk w2 (w.heap.size + 1) #[.int .u64 0, .int .u32 0, .bool false, .slice none 0 0] 48 := by
    obtain ⟨d', ⟨S', _, h2, _⟩, _⟩ := ht
    exact hz.kept h2 (fun hs => by have := HSL.out _ hs; omega)
  have HZ := Lib.hid hz2
  clear ht hz hz2
  go_wp2_with fail
  refine (code_any q _ HLE.out).mono ?_
  rintro e w3 ⟨rfl, rfl⟩
  have z0 := HZ.out.cell 0 rfl
  have z1 := HZ.out.cell 1 rfl
  have z2 := HZ.out.cell 2 rfl
  have z3 := HZ.out.cell 3 rfl
  have zf := fun j => HZ.out.free j
  have hF := blk_set4 HZ.out (.int .u64 0) (.int .u32 0) (.bool false) (.slice none 0 0)
  have y0 := hF.cell 0 rfl
  have y1 := hF.cell 1 rfl
  have y2 := hF.cell 2 rfl
  have y3 := hF.cell 3 rfl
  have hT := HT.out
  unfold set4 at y0 y1 y2 y3 hT
  have HTT := Lib.hid hT
  have HY := Lib.hid (And.intro y0 (And.intro y1 (And.intro y2 y3)))
  clear hF y0 y1 y2 y3 hT
  go_wp2
  obtain ⟨y0, y1, y2, y3⟩ := HY.out
  exact bodyPost_ret (v := .tuple #[.agg #[.int .u64 0, .int .u32 0, .bool false, .slice none 0 0], .slice none 0 0, .int .i64 (q : Int)]) (by simp [results, Tryz.results31, go_sem, y0, y1, y2, y3]) rfl ⟨⟨0, 0, false, []⟩, none, 0, 0, .slice none 0 0, rfl, HTT.out⟩
set_option maxRecDepth 100000 in
set_option maxHeartbeats 1000000 in
theorem dov_4 (m : Int) (key cookie : Nat) (gone : Bool) (data : List UInt8) (x : Option Addr) (vL vc : Nat) (g p k : Nat) (S : Nat → Prop) (d : Dsk) (s : Vst) (w : World) (h : Vready w g p S d k s) (hu : d.used + 24 ≤ d.cap) :
    Calls Tryz.prog 31 #[.pointer (some ⟨g, 0, none⟩), .agg #[.int .i64 4, .int .i64 m, .int .u64 (key : Int), .int .u32 (cookie : Int), .bool gone, .slice x vL vc]] w (DovT w g p S d s (k + 10) (s.set m gone).1 (s.set m gone).2) := by
  have HB0 := Lib.hid (two_below w #[.int .i64 4, .int .i64 m, .int .u64 (key : Int), .int .u32 (cookie : Int), .bool gone, .slice x vL vc] #[.int .u64 0, .int .u32 0, .bool false, .slice none 0 0] 86 48)
  have HR0 := Lib.hid (h.below HB0.out)
  have HC := Lib.hid (set_v m gone g p k S d s _ HR0.out hu)
  have HLE := Lib.hid (show (s.set m gone).2 ≤ 17 from set_le _ _ _)
  obtain ⟨q, hq⟩ : ∃ q, (s.set m gone).2 = q := ⟨_, rfl⟩
  rw [hq] at HC HLE ⊢
  have HSL := Lib.hid (fun b hb => h.vl.lt b hb)
  clear h hu hq
  go_enter Tryz.func31, Tryz.ntmps31
  go_wp2_with fail
  refine HC.out.mono ?_
  rintro e w2 ⟨rfl, ht⟩
  have HT := Lib.hid (VolT.other ht HB0.out (Nat.le_succ _) (by simp) HSL.out (kept_set4 w2 (w.heap.size + 1) (.int .u64 0) (.int .u32 0) (.bool false) (.slice none 0 0)))
  have hz := (Blk.new (w.alloc (.cells #[.int .i64 4, .int .i64 m, .int .u64 (key : Int), .int .u32 (cookie : Int), .bool gone, .slice x vL vc] 86)) #[.int .u64 0, .int .u32 0, .bool false, .slice none 0 0] 48)
  rw [show (w.alloc (.cells #[.int .i64 4, .int .i64 m, .int .u64 (key : Int), .int .u32 (cookie : Int), .bool gone, .slice x vL vc] 86)).heap.size = w.heap.size + 1 by simp] at hz
  have hz2 : Blk w2 (w.heap.size + 1) #[.int .u64 0, .int .u32 0, .bool false, .slice none 0 0] 48 := by
    obtain ⟨d', ⟨S', _, h2, _⟩, _⟩ := ht
    exact hz.kept h2 (fun hs => by have := HSL.out _ hs; omega)
  have HZ := Lib.hid hz2
  clear ht hz hz2
  go_wp2_with fail
  refine (code_any q _ HLE.out).mono ?_
  rintro e w3 ⟨rfl, rfl⟩
  have z0 := HZ.out.cell 0 rfl
  have z1 := HZ.out.cell 1 rfl
  have z2 := HZ.out.cell 2 rfl
  have z3 := HZ.out.cell 3 rfl
  have zf := fun j => HZ.out.free j
  have hF := blk_set4 HZ.out (.int .u64 0) (.int .u32 0) (.bool false) (.slice none 0 0)
  have y0 := hF.cell 0 rfl
  have y1 := hF.cell 1 rfl
  have y2 := hF.cell 2 rfl
  have y3 := hF.cell 3 rfl
  have hT := HT.out
  unfold set4 at y0 y1 y2 y3 hT
  have HTT := Lib.hid hT
  have HY := Lib.hid (And.intro y0 (And.intro y1 (And.intro y2 y3)))
  clear hF y0 y1 y2 y3 hT
  go_wp2
  obtain ⟨y0, y1, y2, y3⟩ := HY.out
  exact bodyPost_ret (v := .tuple #[.agg #[.int .u64 0, .int .u32 0, .bool false, .slice none 0 0], .slice none 0 0, .int .i64 (q : Int)]) (by simp [results, Tryz.results31, go_sem, y0, y1, y2, y3]) rfl ⟨⟨0, 0, false, []⟩, none, 0, 0, .slice none 0 0, rfl, HTT.out⟩
set_option maxRecDepth 100000 in
set_option maxHeartbeats 1000000 in
theorem dov_2 (m : Int) (key cookie : Nat) (gone : Bool) (data : List UInt8) (x : Option Addr) (vL vc : Nat) (g p k : Nat) (S : Nat → Prop) (d : Dsk) (s : Vst) (w : World) (h : Vready w g p S d k s) :
    Calls Tryz.prog 31 #[.pointer (some ⟨g, 0, none⟩), .agg #[.int .i64 2, .int .i64 m, .int .u64 (key : Int), .int .u32 (cookie : Int), .bool gone, .slice x vL vc]] w (DovT w g p S d s (k + 4) s (s.look key cookie)) := by
  have HB0 := Lib.hid (two_below w #[.int .i64 2, .int .i64 m, .int .u64 (key : Int), .int .u32 (cookie : Int), .bool gone, .slice x vL vc] #[.int .u64 0, .int .u32 0, .bool false, .slice none 0 0] 86 48)
  have HR0 := Lib.hid (h.below HB0.out)
  have HC := Lib.hid ((get_v key cookie g p k S d s _ HR0.out).mono (R' := fun e w' => ∃ (n : Ndl) (nx : Option Addr) (nL nc : Nat), e = .returned (.tuple #[Nd.nval n (.slice nx nL nc), cerr (s.look key cookie)]) ∧ Below (w.alloc (.cells #[.int .i64 2, .int .i64 m, .int .u64 (key : Int), .int .u32 (cookie : Int), .bool gone, .slice x vL vc] 86) |>.alloc (.cells #[.int .u64 0, .int .u32 0, .bool false, .slice none 0 0] 48)).heap.size _ w') (fun e w' ht => by obtain ⟨n, nx, nc, h1, _, h3, _⟩ := ht; exact ⟨n, nx, _, nc, h1, h3⟩))
  have HLE := Lib.hid (look_le s key cookie)
  obtain ⟨q, hq⟩ : ∃ q, s.look key cookie = q := ⟨_, rfl⟩
  rw [hq] at HC HLE ⊢
  have HH := Lib.hid h
  clear h hq
  go_enter Tryz.func31, Tryz.ntmps31
  go_wp2_with fail
  refine HC.out.mono ?_
  rintro e w2 ⟨n, nx, nL, nc, rfl, hb⟩
  obtain ⟨hA, hz, hB, hlt⟩ := two_facts hb
  have HZ := Lib.hid hz
  have HB2 := Lib.hid hB
  have HBA := Lib.hid (HB2.out.alloc HB2.out.size (.cells #[.int .u64 (n.key : Int), .int .u32 (n.cookie : Int), .bool n.gone, .slice nx nL nc] 48))
  have hz3 := hz.alloc (.cells #[.int .u64 (n.key : Int), .int .u32 (n.cookie : Int), .bool n.gone, .slice nx nL nc] 48)
  have hn3 := Blk.new w2 #[.int .u64 (n.key : Int), .int .u32 (n.cookie : Int), .bool n.gone, .slice nx nL nc] 48
  clear hA hz hB hb
  go_wp2_with fail
  obtain ⟨w3, hw3⟩ : ∃ w3, w2.alloc (.cells #[.int .u64 (n.key : Int), .int .u32 (n.cookie : Int), .bool n.gone, .slice nx nL nc] 48) = w3 := ⟨_, rfl⟩
  rw [hw3] at hz3 hn3 HBA
  rw [hw3]
  clear hw3
  have hn4 := hn3.below ((Below.refl w3.heap.size w3).drew) (by have := hn3.lt; omega)
  have hz4 := hz3.below ((Below.refl w3.heap.size w3).drew) (by have := hz3.lt; omega)
  have hb4 : Below w.heap.size w w3.drew := HBA.out.drew
  have hne : w.heap.size + 1 ≠ w2.heap.size := by omega
  obtain ⟨w4, hw4⟩ : ∃ w4, w3.drew = w4 := ⟨_, rfl⟩
  rw [hw4] at hn4 hz4 hb4
  have HN4 := Lib.hid hn4
  have HZ4 := Lib.hid hz4
  have HB4 := Lib.hid hb4
  clear hn3 hz3 hn4 hz4 hb4
  refine AnyE.start (S := (fun wx => wx.cell? ⟨w2.heap.size, 0, none⟩ = some (.int .u64 (n.key : Int)) ∧ wx.cell? ⟨w2.heap.size, 1, none⟩ = some (.int .u32 (n.cookie : Int)) ∧ wx.cell? ⟨w2.heap.size, 2, none⟩ = some (.bool n.gone) ∧ wx.cell? ⟨w2.heap.size, 3, none⟩ = some (.slice nx nL nc))) 5 (by kernel_rfl) (by rw [hw4]; exact ⟨HN4.out.cell 0 rfl, HN4.out.cell 1 rfl, HN4.out.cell 2 rfl, HN4.out.cell 3 rfl⟩) (fun hHeld => ?_)
  rw [hw4]
  rw [hw4] at hHeld
  clear hw4
  refine AnyE.take (i := 0) (v := ?_) rfl (by kernel_rfl) (by kernel_rfl) (by kernel_rfl) (by kernel_rfl) (fun _ _ _ h => h) (Or.inl ⟨by rfl, ?_⟩) (by assumption) ?_
  rotate_left 1
  · intro w hSw
    (try dsimp only at hSw)
    go_simp
    all_goals (with_reducible rfl)
  try simp only [Act.put, List.getElem_toArray, List.getElem_cons_zero, List.getElem_cons_succ, List.setIfInBounds_toArray, List.set_cons_zero, List.set_cons_succ]
  refine AnyE.take (i := 1) (v := ?_) rfl (by kernel_rfl) (by kernel_rfl) (by kernel_rfl) (by kernel_rfl) (fun _ _ _ h => h) (Or.inl ⟨by rfl, ?_⟩) (by assumption) ?_
  rotate_left 1
  · intro w hSw
    (try dsimp only at hSw)
    go_simp
    all_goals (with_reducible rfl)
  try simp only [Act.put, List.getElem_toArray, List.getElem_cons_zero, List.getElem_cons_succ, List.setIfInBounds_toArray, List.set_cons_zero, List.set_cons_succ]
  refine AnyE.next (rs := [2]) (by kernel_rfl) (by simp) ?_
  refine AllE.cons rfl (fun K hK => ?_) AllE.nil
  go_simp
  refine (code_any q _ HLE.out).mono ?_
  rintro e w5 ⟨rfl, rfl⟩
  refine hK.out _ _ (⟨HN4.out.cell 0 rfl, HN4.out.cell 1 rfl, HN4.out.cell 2 rfl, HN4.out.cell 3 rfl⟩) (fun hHeld => ?_)
  clear hK K
  try simp only [Act.put, List.getElem_toArray, List.getElem_cons_zero, List.getElem_cons_succ, List.setIfInBounds_toArray, List.set_cons_zero, List.set_cons_succ]
  have HF := Lib.hid (blk_set4 HZ4.out (.int .u64 (n.key : Int)) (.int .u32 (n.cookie : Int)) (.bool n.gone) (.slice nx nL nc))
  have HX := Lib.hid ((((HN4.out.other (a := ⟨w.heap.size + 1, 0, none⟩) hne (.int .u64 (n.key : Int))).other (a := ⟨w.heap.size + 1, 1, none⟩) hne (.int .u32 (n.cookie : Int))).other (a := ⟨w.heap.size + 1, 2, none⟩) hne (.bool n.gone)).other (a := ⟨w.heap.size + 1, 3, none⟩) hne (.slice nx nL nc))
  have HY := Lib.hid (below_set4 (u0 := .int .u64 (n.key : Int)) (u1 := .int .u32 (n.cookie : Int)) (u2 := .bool n.gone) (u3 := .slice nx nL nc) HB4.out (Nat.le_succ w.heap.size))
  unfold set4 at HF HY
  have z0 := HZ4.out.cell 0 rfl
  have z1 := HZ4.out.cell 1 rfl
  have z2 := HZ4.out.cell 2 rfl
  have z3 := HZ4.out.cell 3 rfl
  have zf := fun j => HZ4.out.free j
  refine AnyE.next (rs := [3]) (by kernel_rfl) (by simp) ?_
  refine AllE.cons rfl (fun K hK => ?_) AllE.nil
  go_simp
  refine hK.out _ _ (⟨HX.out.cell 0 rfl, HX.out.cell 1 rfl, HX.out.cell 2 rfl, HX.out.cell 3 rfl⟩) (fun hHeld => ?_)
  clear hK K
  try simp only [Act.put, List.getElem_toArray, List.getElem_cons_zero, List.getElem_cons_succ, List.setIfInBounds_toArray, List.set_cons_zero, List.set_cons_succ]
  clear z0 z1 z2 z3 zf
  refine AnyE.take (i := 4) (v := ?_) rfl (by kernel_rfl) (by kernel_rfl) (by kernel_rfl) (by kernel_rfl) (fun _ _ _ h => h) (Or.inl ⟨by rfl, ?_⟩) (by assumption) ?_
  rotate_left 1
  · intro w hSw
    (try dsimp only at hSw)
    go_simp
    all_goals (with_reducible rfl)
  try simp only [Act.put, List.getElem_toArray, List.getElem_cons_zero, List.getElem_cons_succ, List.setIfInBounds_toArray, List.set_cons_zero, List.set_cons_succ]
  refine AnyE.next (rs := [5]) (by kernel_rfl) (by simp) ?_
  refine AllE.last rfl (fun K hK => ?_)
  go_simp
  refine hK.out _ _ ?_
  clear hK K
  try simp only [Act.put, List.getElem_toArray, List.getElem_cons_zero, List.getElem_cons_succ, List.setIfInBounds_toArray, List.set_cons_zero, List.set_cons_succ]
  refine AnyE.done (by kernel_rfl) ?_ _
  have HT := Lib.hid (HH.out.same HY.out (k + 4) (by omega) (by omega))
  have y0 := HF.out.cell 0 rfl
  have y1 := HF.out.cell 1 rfl
  have y2 := HF.out.cell 2 rfl
  have y3 := HF.out.cell 3 rfl
  go_wp2
  exact bodyPost_ret (v := .tuple #[.agg #[.int .u64 (n.key : Int), .int .u32 (n.cookie : Int), .bool n.gone, .slice nx nL nc], .slice none 0 0, .int .i64 (q : Int)]) (by simp [results, Tryz.results31, go_sem, y0, y1, y2, y3]) rfl ⟨n, nx, nL, nc, .slice none 0 0, rfl, HT.out⟩
set_option maxRecDepth 100000 in
set_option maxHeartbeats 1000000 in
theorem dov_3 (m : Int) (key cookie : Nat) (gone : Bool) (data : List UInt8) (x : Option Addr) (vL vc : Nat) (g p k : Nat) (S : Nat → Prop) (d : Dsk) (s : Vst) (w : World) (h : Vready w g p S d k s) :
    Calls Tryz.prog 31 #[.pointer (some ⟨g, 0, none⟩), .agg #[.int .i64 3, .int .i64 m, .int .u64 (key : Int), .int .u32 (cookie : Int), .bool gone, .slice x vL vc]] w (DovT w g p S d s (k + 4) s 0) := by
  have HB0 := Lib.hid (two_below w #[.int .i64 3, .int .i64 m, .int .u64 (key : Int), .int .u32 (cookie : Int), .bool gone, .slice x vL vc] #[.int .u64 0, .int .u32 0, .bool false, .slice none 0 0] 86 48)
  have HR0 := Lib.hid (h.below HB0.out)
  have HC := Lib.hid (keys_v key m g p k S d s _ HR0.out)
  have HH := Lib.hid h
  clear h
  go_enter Tryz.func31, Tryz.ntmps31
  go_wp2_with fail
  refine HC.out.mono ?_
  rintro e w2 ⟨kv, rfl, hown, hb⟩
  obtain ⟨hA, hz, hB, hlt⟩ := two_facts hb
  have hF := blk_set4 hz (.int .u64 0) (.int .u32 0) (.bool false) (.slice none 0 0)
  have z0 := hz.cell 0 rfl
  have z1 := hz.cell 1 rfl
  have z2 := hz.cell 2 rfl
  have z3 := hz.cell 3 rfl
  have zf := fun j => hz.free j
  have y0 := hF.cell 0 rfl
  have y1 := hF.cell 1 rfl
  have y2 := hF.cell 2 rfl
  have y3 := hF.cell 3 rfl
  have yb := below_set4 (u0 := .int .u64 0) (u1 := .int .u32 0) (u2 := .bool false) (u3 := .slice none 0 0) hB (Nat.le_succ w.heap.size)
  unfold set4 at y0 y1 y2 y3 yb
  have HT := Lib.hid (HH.out.same yb (k + 4) (by omega) (by omega))
  have HY := Lib.hid (And.intro y0 (And.intro y1 (And.intro y2 y3)))
  clear hF y0 y1 y2 y3 yb hA hz hB hb hown
  go_wp2
  obtain ⟨y0, y1, y2, y3⟩ := HY.out
  exact bodyPost_ret (v := .tuple #[.agg #[.int .u64 0, .int .u32 0, .bool false, .slice none 0 0], kv, .int .i64 0]) (by simp [results, Tryz.results31, go_sem, y0, y1, y2, y3]) rfl ⟨⟨0, 0, false, []⟩, none, 0, 0, kv, rfl, HT.out⟩
set_option maxRecDepth 100000 in
set_option maxHeartbeats 1000000 in
theorem dov_x (k9 : Int) (m : Int) (key cookie : Nat) (gone : Bool) (data : List UInt8) (x : Option Addr) (vL vc : Nat) (g p k : Nat) (S : Nat → Prop) (d : Dsk) (s : Vst) (w : World) (h : Vready w g p S d k s) (h0 : k9 ≠ 0) (h1 : k9 ≠ 1) (h2 : k9 ≠ 2) (h3 : k9 ≠ 3) (h4 : k9 ≠ 4) :
    Calls Tryz.prog 31 #[.pointer (some ⟨g, 0, none⟩), .agg #[.int .i64 k9, .int .i64 m, .int .u64 (key : Int), .int .u32 (cookie : Int), .bool gone, .slice x vL vc]] w (DovT w g p S d s (k + 4) s 0) := by
  have HT := Lib.hid (h.same (two_below w #[.int .i64 k9, .int .i64 m, .int .u64 (key : Int), .int .u32 (cookie : Int), .bool gone, .slice x vL vc] #[.int .u64 0, .int .u32 0, .bool false, .slice none 0 0] 86 48) (k + 4) (by omega) (by omega))
  clear h
  go_enter Tryz.func31, Tryz.ntmps31
  go_wp2
  exact bodyPost_ret (v := .tuple #[.agg #[.int .u64 0, .int .u32 0, .bool false, .slice none 0 0], .slice none 0 0, .int .i64 0]) (by simp [results, Tryz.results31, go_sem]) rfl ⟨⟨0, 0, false, []⟩, none, 0, 0, .slice none 0 0, rfl, HT.out⟩

theorem do_vw (a : A9) (x : Option Addr) (vL vc : Nat) (g p k : Nat) (S : Nat → Prop) (d : Dsk) (s : Vst) (w : World) (h : Vready w g p S d k s) (hv : IsB w (.slice x vL vc) a.n.data) (hvS : ∀ b, liesB (.slice x vL vc) a.n.data b → ¬ S b) (hn : Ndl.fits a.n) (hr : Room' s d a.n) (hr2 : Room' s d (grave a.n.key a.n.cookie)) (hu : d.used + 24 ≤ d.cap) (h9 : k + 10 ≤ 90000) :
    Calls Tryz.prog 31 #[.pointer (some ⟨g, 0, none⟩), av a (.slice x vL vc)] w (DovT w g p S d s (k + 10) (actV s a).1 (actV s a).2) := by
  obtain ⟨kd, m, ⟨key, cookie, gone, data⟩⟩ := a
  have hk : key < 18446744073709551616 := hn.1
  have hc : cookie < 4294967296 := hn.2
  have up : ∀ {k' s' c e w'}, k' ≤ k + 10 → DovT w g p S d s k' s' c e w' → DovT w g p S d s (k + 10) s' c e w' := fun hk ⟨m, x, L, cc, kv, h1, h2⟩ => ⟨m, x, L, cc, kv, h1, h2.more hk h9⟩
  unfold actV
  dsimp only
  split
  · rename_i e; subst e
    exact (dov_0 m key cookie gone data x vL vc g p k S d s w h hv hvS hn hr).mono (fun _ _ t => up (by omega) t)
  · rename_i h0
    split
    · rename_i e; subst e
      exact (dov_1 m key cookie gone data x vL vc g p k S d s w h hk hc hr2).mono (fun _ _ t => up (by omega) t)
    · rename_i h1
      split
      · rename_i e; subst e
        exact (dov_2 m key cookie gone data x vL vc g p k S d s w h).mono (fun _ _ t => up (by omega) t)
      · rename_i h2
        split
        · rename_i e; subst e
          exact (dov_4 m key cookie gone data x vL vc g p k S d s w h hu).mono (fun _ _ t => up (by omega) t)
        · rename_i h4
          by_cases h3 : kd = 3
          · subst h3
            exact (dov_3 m key cookie gone data x vL vc g p k S d s w h).mono (fun _ _ t => up (by omega) t)
          · exact (dov_x kd m key cookie gone data x vL vc g p k S d s w h h0 h1 h2 h3 h4).mono (fun _ _ t => up (by omega) t)
end Go.Proofs.YtoblbipkkdiddaaGreatDoor
end

section
namespace Go.Proofs.YtoblbipkkdiddaaGreatDoor
open Go.RowKit Go.Cor

set_option maxRecDepth 100000 in
set_option maxHeartbeats 2000000 in
theorem write_rf (n : Ndl) (x : Option Addr) (vL vc : Nat) (S : Nat → Prop) (s : Vst) (lv dv : Value) (ps : List (Ndl × Value)) (w : World) (h : DocP w S s lv dv ps) (hsok : s.Ok) (hv : IsB w (.slice x vL vc) n.data) (hn : ncheck n = 0) (hm : s.most < s.size + nlen n) (hf : s.ns.length + 1 < 4096) :
    Calls Tryz.prog 37 #[dval s lv dv, Nd.nval n (.slice x vL vc)] w fun e w' =>
      e = .returned (.tuple #[dval s lv dv, .int .i64 11]) ∧ Below w.heap.size w w' := by
  have HH := Lib.hid h
  have HV := Lib.hid hv
  have hnd := (ncheck_ok hn).1
  have hpl : ps.length = s.ns.length := by rw [← h.ns, List.length_map]
  have hidl := s.idx_len
  obtain ⟨L, hL⟩ : ∃ L, n.data.length = L := ⟨_, rfl⟩
  have hvL : vL = L := by
    obtain ⟨a, c, hh, _⟩ := hv.at_len hL
    cases hh; rfl
  subst hvL
  obtain ⟨P, hP⟩ : ∃ P, padn vL = P := ⟨_, rfl⟩
  have hP8 : P < 8 := by rw [← hP]; exact padn_lt _
  have hnl : nlen n = 32 + vL + P := by unfold nlen; rw [hL, hP]
  have hpad : pad ((32 + vL : Nat) : Int) = (P : Int) := by rw [Nd.pad_padn, ← hP]; unfold padn; omega
  have hms := hsok.most
  have hms2 := hsok.size
  obtain ⟨lx, lc, rfl, _, _⟩ := IsX.slice h.l
  obtain ⟨dx, dc, rfl, _, _⟩ := IsX.slice h.d.1
  rw [hnl] at hm
  obtain ⟨Z, hZ⟩ : ∃ Z, s.size = Z := ⟨_, rfl⟩
  obtain ⟨M, hM⟩ : ∃ M, s.most = M := ⟨_, rfl⟩
  obtain ⟨N, hN⟩ : ∃ N, ps.length = N := ⟨_, rfl⟩
  rw [hN]
  obtain ⟨I, hI⟩ : ∃ I, s.idx.length = I := ⟨_, rfl⟩
  rw [hI]
  have hI4 : I < 4096 := by omega
  have hilen := fun W => Q.len_P (P := Tryz.prog) h.l hI 27 3 67 Tryz.underlying27 W
  rw [hM] at hm hms hms2
  rw [hZ] at hm hms2
  have HRD := Lib.hid (refpad_any ((32 + vL : Nat) : Int) · (by omega) (by omega))
  rw [hpad] at HRD
  have HN := Lib.hid hN
  have hN4 : N < 4096 := by omega
  have HZ := Lib.hid hZ
  have HM := Lib.hid hM
  have hwr1 : IntKind.i64.wrap (32 + (vL : Int)) = ((32 + vL : Nat) : Int) := by rw [IntWalk.i64_in _ (by omega)]; omega
  have hwr2 : IntKind.i64.wrap (((32 + vL : Nat) : Int) + (P : Int)) = ((32 + vL + P : Nat) : Int) := by rw [IntWalk.i64_in _ (by omega)]; omega
  have hwr3 : IntKind.i64.wrap ((Z : Int) + ((32 + vL + P : Nat) : Int)) = (Z : Int) + ((32 + vL + P : Nat) : Int) := IntWalk.i64_in _ (by omega)
  obtain ⟨T, hT⟩ : ∃ T, 32 + vL + P = T := ⟨_, rfl⟩
  obtain ⟨Y, hY⟩ : ∃ Y, 32 + vL = Y := ⟨_, rfl⟩
  rw [hY] at hwr1 hwr2 HRD
  rw [← hY, hT] at hwr2
  rw [hY] at hwr2
  rw [hT] at hwr3 hm
  have hcmp : decide ((M : Int) < (Z : Int) + (T : Int)) = true := decide_eq_true (by omega)
  have hcm : (M : Int) < (Z : Int) + (T : Int) := by omega
  have h40 : decide (4096 ≤ I) = false := decide_eq_false (by omega)
  have hTm : (T : Int) ≤ 5000 := by omega
  rw [show dval s (.slice lx I lc) (.slice dx N dc) = .agg #[.int .i64 (s.num : Int), .int .i64 (M : Int), .int .i64 (s.epoch : Int), .int .i64 (Z : Int), .bool s.shut, .slice lx I lc, .slice dx N dc] by rw [← hZ, ← hM]]
  clear h hv hn hf hpl hidl hL hP hnl hpad hsok hZ hM  hN hI hT hY hnd hP8
  have hal1 := below_alloc w (.cells #[.int .i64 (s.num : Int), .int .i64 (M : Int), .int .i64 (s.epoch : Int), .int .i64 (Z : Int), .bool s.shut, .slice lx I lc, .slice dx N dc] 30)
  have HB0 := Lib.hid ((hal1.alloc (by simp) (Nd.ncells n (.slice x vL vc) 47)).alloc (by simp; omega) (.cells #[.int .i64 0, .int .i64 0, .int .i64 0, .int .i64 0, .bool false, .slice none 0 0, .slice none 0 0] 30))
  clear hal1
  go_enter Tryz.func37, Tryz.ntmps37
  go_wp2_with fail
  refine (HRD.out _).mono ?_
  rintro e w1 ⟨rfl, rfl⟩
  have hV1 := ((Blk.new w #[.int .i64 (s.num : Int), .int .i64 (M : Int), .int .i64 (s.epoch : Int), .int .i64 (Z : Int), .bool s.shut, .slice lx I lc, .slice dx N dc] 30).alloc (Nd.ncells n (.slice x vL vc) 47)).alloc (.cells #[.int .i64 0, .int .i64 0, .int .i64 0, .int .i64 0, .bool false, .slice none 0 0, .slice none 0 0] 30)
  have hN1 := (Blk.new (w.alloc (.cells #[.int .i64 (s.num : Int), .int .i64 (M : Int), .int .i64 (s.epoch : Int), .int .i64 (Z : Int), .bool s.shut, .slice lx I lc, .slice dx N dc] 30)) #[.int .u64 (n.key : Int), .int .u32 (n.cookie : Int), .bool n.gone, .slice x vL vc] 47).alloc (.cells #[.int .i64 0, .int .i64 0, .int .i64 0, .int .i64 0, .bool false, .slice none 0 0, .slice none 0 0] 30)
  have hR1 := Blk.new ((w.alloc (.cells #[.int .i64 (s.num : Int), .int .i64 (M : Int), .int .i64 (s.epoch : Int), .int .i64 (Z : Int), .bool s.shut, .slice lx I lc, .slice dx N dc] 30)).alloc (Nd.ncells n (.slice x vL vc) 47)) #[.int .i64 0, .int .i64 0, .int .i64 0, .int .i64 0, .bool false, .slice none 0 0, .slice none 0 0] 30
  rw [show (w.alloc (.cells #[.int .i64 (s.num : Int), .int .i64 (M : Int), .int .i64 (s.epoch : Int), .int .i64 (Z : Int), .bool s.shut, .slice lx I lc, .slice dx N dc] 30)).heap.size = w.heap.size + 1 by simp] at hN1
  rw [show ((w.alloc (.cells #[.int .i64 (s.num : Int), .int .i64 (M : Int), .int .i64 (s.epoch : Int), .int .i64 (Z : Int), .bool s.shut, .slice lx I lc, .slice dx N dc] 30)).alloc (Nd.ncells n (.slice x vL vc) 47)).heap.size = w.heap.size + 1 + 1 by simp] at hR1
  have hb0 := HB0.out
  obtain ⟨w1, hw1⟩ : ∃ w1, (((w.alloc (.cells #[.int .i64 (s.num : Int), .int .i64 (M : Int), .int .i64 (s.epoch : Int), .int .i64 (Z : Int), .bool s.shut, .slice lx I lc, .slice dx N dc] 30)).alloc (Nd.ncells n (.slice x vL vc) 47)).alloc (.cells #[.int .i64 0, .int .i64 0, .int .i64 0, .int .i64 0, .bool false, .slice none 0 0, .slice none 0 0] 30)) = w1 := ⟨_, rfl⟩
  rw [hw1] at hV1 hN1 hR1 hb0
  rw [hw1]
  clear hw1
  have HV1 := Lib.hid hV1
  have HN1 := Lib.hid hN1
  have HR1 := Lib.hid hR1
  have HB1 := Lib.hid hb0
  have v1 : w1.cell? ⟨w.heap.size, 1, none⟩ = some (.int .i64 (M : Int)) := hV1.cell 1 rfl
  have v3 : w1.cell? ⟨w.heap.size, 3, none⟩ = some (.int .i64 (Z : Int)) := hV1.cell 3 rfl
  have v5 : w1.cell? ⟨w.heap.size, 5, none⟩ = some (.slice lx I lc) := hV1.cell 5 rfl
  have n0 : w1.cell? ⟨w.heap.size + 1, 0, none⟩ = some (.int .u64 (n.key : Int)) := hN1.cell 0 rfl
  have n1 : w1.cell? ⟨w.heap.size + 1, 1, none⟩ = some (.int .u32 (n.cookie : Int)) := hN1.cell 1 rfl
  have n2 : w1.cell? ⟨w.heap.size + 1, 2, none⟩ = some (.bool n.gone) := hN1.cell 2 rfl
  have n3 : w1.cell? ⟨w.heap.size + 1, 3, none⟩ = some (.slice x vL vc) := hN1.cell 3 rfl
  clear hV1 hN1 hR1 hb0
  have v0 : w1.cell? ⟨w.heap.size, 0, none⟩ = some (.int .i64 (s.num : Int)) := HV1.out.cell 0 rfl
  have v2 : w1.cell? ⟨w.heap.size, 2, none⟩ = some (.int .i64 (s.epoch : Int)) := HV1.out.cell 2 rfl
  have v4 : w1.cell? ⟨w.heap.size, 4, none⟩ = some (.bool s.shut) := HV1.out.cell 4 rfl
  have v6 : w1.cell? ⟨w.heap.size, 6, none⟩ = some (.slice dx N dc) := HV1.out.cell 6 rfl
  have r0 := HR1.out.cell 0 rfl
  have r1 := HR1.out.cell 1 rfl
  have r2 := HR1.out.cell 2 rfl
  have r3 := HR1.out.cell 3 rfl
  have r4 := HR1.out.cell 4 rfl
  have r5 := HR1.out.cell 5 rfl
  have r6 := HR1.out.cell 6 rfl
  have rf := fun j => HR1.out.free j
  have hF := fin7 HR1.out HB1.out (show w.heap.size ≤ w.heap.size + 1 + 1 by omega) (.int .i64 (s.num : Int)) (.int .i64 (M : Int)) (.int .i64 (s.epoch : Int)) (.int .i64 (Z : Int)) (.bool s.shut) (.slice lx I lc) (.slice dx N dc)
  unfold set7 at hF
  have HF := Lib.hid hF
  clear hF
  go_upto_region 3 with fail
  go_cut [35] from 15 to 35 (fun q wx => q = .bool true ∧ wx = w1)
  case first =>
    go_wp2
    go_meet
    exact ⟨rfl, by trivial⟩
  case rest =>
    obtain ⟨rfl, rfl⟩ := hcut
    go_wp2
    obtain ⟨y0, y1, y2, y3, y4, y5, y6, yb⟩ := HF.out
    exact bodyPost_ret (v := .tuple #[.agg #[.int .i64 (s.num : Int), .int .i64 (M : Int), .int .i64 (s.epoch : Int), .int .i64 (Z : Int), .bool s.shut, .slice lx I lc, .slice dx N dc], .int .i64 11]) (by simp [results, Tryz.results37, go_sem, y0, y1, y2, y3, y4, y5, y6]) rfl ⟨rfl, yb⟩
set_option maxRecDepth 100000 in
set_option maxHeartbeats 1000000 in
theorem rput_f (key cookie : Nat) (data : List UInt8) (x : Option Addr) (vL vc : Nat) (S : Nat → Prop) (s : Vst) (lv dv : Value) (ps : List (Ndl × Value)) (w : World) (h : DocP w S s lv dv ps) (hv : IsB w (.slice x vL vc) data) (hvS : ∀ b, liesB (.slice x vL vc) data b → ¬ S b) (hSw : ∀ b, S b → b < w.heap.size) (hc : ncheck ⟨key, cookie, false, data⟩ = 0) (hs : s.shut = false) (hf : s.ns.length < 4095) (hsok : s.Ok) (hm : s.most < s.size + nlen ⟨key, cookie, false, data⟩) (ho : newest s.ns key = none) :
    Calls Tryz.prog 61 #[dval s lv dv, Nd.nval ⟨key, cookie, false, data⟩ (.slice x vL vc)] w (DocT w S s 11) := by
  obtain ⟨lx, lc, rfl, _, _⟩ := IsX.slice h.l
  obtain ⟨dx, dc, rfl, _, _⟩ := IsX.slice h.d.1
  have hpl : ps.length = s.ns.length := by rw [← h.ns, List.length_map]
  obtain ⟨I, hI⟩ : ∃ I, s.idx.length = I := ⟨_, rfl⟩
  obtain ⟨N, hN⟩ : ∃ N, ps.length = N := ⟨_, rfl⟩
  rw [hI, hN] at h ⊢
  have HH := Lib.hid h
  have HV := Lib.hid hv
  have HB0 := Lib.hid (three_below w #[.int .i64 (s.num : Int), .int .i64 (s.most : Int), .int .i64 (s.epoch : Int), .int .i64 (s.size : Int), .bool s.shut, .slice lx I lc, .slice dx N dc] #[.int .u64 (key : Int), .int .u32 (cookie : Int), .bool false, .slice x vL vc] zvol 30 47 30)
  have HCK := Lib.hid (Nd.refcheck_any ⟨key, cookie, false, data⟩ (.slice x vL vc) _ (hv.mono HB0.out (Nat.le_refl _)))
  have HWR := Lib.hid (fun w1 (hb : Below w.heap.size w w1) => write_rf ⟨key, cookie, false, data⟩ x vL vc S s _ _ ps w1 (h.below hb) hsok (hv.mono hb (Nat.le_refl _)) hc hm (by omega))
  have HO := Lib.hid ho
  have HVS := Lib.hid hvS
  have HSW := Lib.hid hSw
  clear ho hvS hSw hsok hm
  rw [hc] at HCK
  have HSH := Lib.hid hs
  have HNW := Lib.hid (fun w1 (hb : Below w.heap.size w w1) => newest_r key S s _ _ ps w1 (h.below hb) (by rw [hN]; omega))
  have hdv : dval s (.slice lx I lc) (.slice dx N dc) = .agg #[.int .i64 (s.num : Int), .int .i64 (s.most : Int), .int .i64 (s.epoch : Int), .int .i64 (s.size : Int), .bool false, .slice lx I lc, .slice dx N dc] := by rw [← hs]
  rw [hdv] at HNW HWR
  clear h hI hN hv hpl hc hs hf hdv
  go_enter Tryz.func61, Tryz.ntmps61
  go_wp2_with fail
  refine HCK.out.mono ?_
  rintro e w2 ⟨rfl, hb2⟩
  obtain ⟨hV, hNN, hR, hB, hlt⟩ := three_facts hb2
  have HVB := Lib.hid hV
  have HNB := Lib.hid hNN
  have HRB := Lib.hid hR
  have HB2 := Lib.hid hB
  have v0 := hV.cell 0 rfl
  have v1 := hV.cell 1 rfl
  have v2 := hV.cell 2 rfl
  have v3 := hV.cell 3 rfl
  have v4 := hV.cell 4 rfl
  have v5 := hV.cell 5 rfl
  have v6 := hV.cell 6 rfl
  have r0 := hR.cell 0 rfl
  have r1 := hR.cell 1 rfl
  have r2 := hR.cell 2 rfl
  have r3 := hR.cell 3 rfl
  have r4 := hR.cell 4 rfl
  have r5 := hR.cell 5 rfl
  have r6 := hR.cell 6 rfl
  have rf := fun j => hR.free j
  have n0 := hNN.cell 0 rfl
  have n1 := hNN.cell 1 rfl
  have n2 := hNN.cell 2 rfl
  have n3 := hNN.cell 3 rfl
  clear hb2 hV hNN hR hB
  rw [HSH.out] at v4
  go_wp2_with fail
  refine (HNW.out _ HB2.out).mono ?_
  rintro e w3 ⟨m, mx, mL, mc, rfl, hcase, hb3⟩
  rw [HO.out] at hcase ⊢
  have hV3 := HVB.out.below hb3 (by omega)
  have hN3 := HNB.out.below hb3 (by omega)
  have hR3 := HRB.out.below hb3 hlt
  have HB3 := Lib.hid (HB2.out.trans (hb3.mono HB2.out.size))
  have hlt3 : w.heap.size + 1 + 1 < w3.heap.size := hR3.lt
  have hl0 : w.heap.size < w3.heap.size := by omega
  have hl1 : w.heap.size + 1 < w3.heap.size := by omega
  clear v0 v1 v2 v3 v4 v5 v6 r0 r1 r2 r3 r4 r5 r6 rf n0 n1 n2 n3 hb3
  obtain ⟨rfl, rfl, rfl, rfl⟩ : m = ⟨0, 0, false, []⟩ ∧ mx = none ∧ mL = 0 ∧ mc = 0 := by
    rcases hcase with h | h
    · exact absurd h.1 (by simp)
    · exact h.2
  rw [Option.isSome_none]
  clear hcase
  have HB4 := Lib.hid (HB3.out.alloc HB3.out.size (.cells #[.int .u64 0, .int .u32 0, .bool false, .slice none 0 0] 47))
  have HR4 := Lib.hid (hR3.alloc (.cells #[.int .u64 0, .int .u32 0, .bool false, .slice none 0 0] 47))
  have v0 := hV3.cell 0 rfl
  have v1 := hV3.cell 1 rfl
  have v2 := hV3.cell 2 rfl
  have v3 := hV3.cell 3 rfl
  have v4 := hV3.cell 4 rfl
  have v5 := hV3.cell 5 rfl
  have v6 := hV3.cell 6 rfl
  rw [HSH.out] at v4
  have n0 := hN3.cell 0 rfl
  have n1 := hN3.cell 1 rfl
  have n2 := hN3.cell 2 rfl
  have n3 := hN3.cell 3 rfl
  clear hV3 hN3 hR3
  go_wp2_with fail
  refine (HWR.out _ HB4.out).mono ?_
  rintro e w5 ⟨rfl, hb5⟩
  have hR5 := HR4.out.below hb5 (by simp; omega)
  have HB5 := Lib.hid (HB4.out.trans (hb5.mono HB4.out.size))
  have hF := fin7 hR5 HB5.out (show w.heap.size ≤ w.heap.size + 1 + 1 by omega) (.int .i64 (s.num : Int)) (.int .i64 (s.most : Int)) (.int .i64 (s.epoch : Int)) (.int .i64 (s.size : Int)) (.bool false) (.slice lx I lc) (.slice dx N dc)
  unfold set7 at hF
  have HF := Lib.hid hF
  clear v0 v1 v2 v3 v4 v5 v6 n0 n1 n2 n3
  have r0 := hR5.cell 0 rfl
  have r1 := hR5.cell 1 rfl
  have r2 := hR5.cell 2 rfl
  have r3 := hR5.cell 3 rfl
  have r4 := hR5.cell 4 rfl
  have r5 := hR5.cell 5 rfl
  have r6 := hR5.cell 6 rfl
  have rf := fun j => hR5.free j
  clear hF hR5 hb5
  go_wp2
  obtain ⟨y0, y1, y2, y3, y4, y5, y6, yb⟩ := HF.out
  exact bodyPost_ret (v := .tuple #[.agg #[.int .i64 (s.num : Int), .int .i64 (s.most : Int), .int .i64 (s.epoch : Int), .int .i64 (s.size : Int), .bool false, .slice lx I lc, .slice dx N dc], .int .i64 11]) (by simp [results, Tryz.results61, go_sem, y0, y1, y2, y3, y4, y5, y6]) rfl ⟨_, _, ps, by rw [show dval s (.slice lx I lc) (.slice dx N dc) = .agg #[.int .i64 (s.num : Int), .int .i64 (s.most : Int), .int .i64 (s.epoch : Int), .int .i64 (s.size : Int), .bool false, .slice lx I lc, .slice dx N dc] by rw [← HSH.out]]; rfl, HH.out.below yb, yb⟩
set_option maxRecDepth 100000 in
set_option maxHeartbeats 1000000 in
theorem rdel_f (key c : Nat) (S : Nat → Prop) (s : Vst) (lv dv : Value) (ps : List (Ndl × Value)) (w : World) (h : DocP w S s lv dv ps) (hf : s.ns.length < 4095) (hSw : ∀ b, S b → b < w.heap.size) (hsok : s.Ok) (hm : s.most < s.size + nlen (grave key c)) (hn : s.look key c = 0) (hs : s.shut = false) :
    Calls Tryz.prog 62 #[dval s lv dv, .int .u64 (key : Int), .int .u32 (c : Int)] w (DocT w S s 11) := by
  obtain ⟨lx, lc, rfl, _, _⟩ := IsX.slice h.l
  obtain ⟨dx, dc, rfl, _, _⟩ := IsX.slice h.d.1
  have hpl : ps.length = s.ns.length := by rw [← h.ns, List.length_map]
  obtain ⟨I, hI⟩ : ∃ I, s.idx.length = I := ⟨_, rfl⟩
  obtain ⟨N, hN⟩ : ∃ N, ps.length = N := ⟨_, rfl⟩
  rw [hI, hN] at h ⊢
  have HH := Lib.hid h
  have HB0 := Lib.hid (two_below w #[.int .i64 (s.num : Int), .int .i64 (s.most : Int), .int .i64 (s.epoch : Int), .int .i64 (s.size : Int), .bool s.shut, .slice lx I lc, .slice dx N dc] zvol 30 30)
  have HLK := Lib.hid (look_r key c S s _ _ ps _ (h.below HB0.out) (by rw [hN]; omega))
  have HWR := Lib.hid (fun w1 (hb : Below w.heap.size w w1) => write_rf (grave key c) none 0 0 S s _ _ ps w1 (h.below hb) hsok (IsB.nil _) rfl hm (by omega))
  have HSW := Lib.hid hSw
  rw [hn] at HLK
  have HSH := Lib.hid hs
  have hdv : dval s (.slice lx I lc) (.slice dx N dc) = .agg #[.int .i64 (s.num : Int), .int .i64 (s.most : Int), .int .i64 (s.epoch : Int), .int .i64 (s.size : Int), .bool false, .slice lx I lc, .slice dx N dc] := by rw [← hs]
  rw [hdv] at HWR
  clear h hI hN hpl hn hs hf hSw hsok hm hdv
  go_enter Tryz.func62, Tryz.ntmps62
  go_wp2_with fail
  refine HLK.out.mono ?_
  rintro e w2 ⟨rfl, hb2⟩
  obtain ⟨hV, hR, hB, hlt⟩ := two_facts hb2
  have HVB := Lib.hid hV
  have HRB := Lib.hid hR
  have HB2 := Lib.hid hB
  have v0 := hV.cell 0 rfl
  have v1 := hV.cell 1 rfl
  have v2 := hV.cell 2 rfl
  have v3 := hV.cell 3 rfl
  have v4 := hV.cell 4 rfl
  have v5 := hV.cell 5 rfl
  have v6 := hV.cell 6 rfl
  have r0 := hR.cell 0 rfl
  have r1 := hR.cell 1 rfl
  have r2 := hR.cell 2 rfl
  have r3 := hR.cell 3 rfl
  have r4 := hR.cell 4 rfl
  have r5 := hR.cell 5 rfl
  have r6 := hR.cell 6 rfl
  have rf := fun j => hR.free j
  clear hb2 hV hR hB
  rw [HSH.out] at v4
  go_wp2_with fail
  refine (HWR.out _ HB2.out).mono ?_
  rintro e w5 ⟨rfl, hb5⟩
  have hR5 := HRB.out.below hb5 hlt
  have HB5 := Lib.hid (HB2.out.trans (hb5.mono HB2.out.size))
  have hF := fin7 hR5 HB5.out (show w.heap.size ≤ w.heap.size + 1 by omega) (.int .i64 (s.num : Int)) (.int .i64 (s.most : Int)) (.int .i64 (s.epoch : Int)) (.int .i64 (s.size : Int)) (.bool false) (.slice lx I lc) (.slice dx N dc)
  unfold set7 at hF
  have HF := Lib.hid hF
  clear v0 v1 v2 v3 v4 v5 v6 r0 r1 r2 r3 r4 r5 r6 rf
  have r0 := hR5.cell 0 rfl
  have r1 := hR5.cell 1 rfl
  have r2 := hR5.cell 2 rfl
  have r3 := hR5.cell 3 rfl
  have r4 := hR5.cell 4 rfl
  have r5 := hR5.cell 5 rfl
  have r6 := hR5.cell 6 rfl
  have rf := fun j => hR5.free j
  clear hF hR5 hb5
  go_wp2
  obtain ⟨y0, y1, y2, y3, y4, y5, y6, yb⟩ := HF.out
  exact bodyPost_ret (v := .tuple #[.agg #[.int .i64 (s.num : Int), .int .i64 (s.most : Int), .int .i64 (s.epoch : Int), .int .i64 (s.size : Int), .bool false, .slice lx I lc, .slice dx N dc], .int .i64 11]) (by simp [results, Tryz.results62, go_sem, y0, y1, y2, y3, y4, y5, y6]) rfl ⟨_, _, ps, by rw [show dval s (.slice lx I lc) (.slice dx N dc) = .agg #[.int .i64 (s.num : Int), .int .i64 (s.most : Int), .int .i64 (s.epoch : Int), .int .i64 (s.size : Int), .bool false, .slice lx I lc, .slice dx N dc] by rw [← HSH.out]]; rfl, HH.out.below yb, yb⟩
theorem put_rw (n : Ndl) (x : Option Addr) (vL vc : Nat) (S : Nat → Prop) (s : Vst) (lv dv : Value) (ps : List (Ndl × Value)) (w : World) (h : DocP w S s lv dv ps) (hv : IsB w (.slice x vL vc) n.data) (hvS : ∀ b, liesB (.slice x vL vc) n.data b → ¬ S b) (hSw : ∀ b, S b → b < w.heap.size) (hf : s.ns.length < 4095) (hsok : s.Ok) :
    Calls Tryz.prog 61 #[dval s lv dv, Nd.nval n (.slice x vL vc)] w (DocT w S (s.put n).1 (s.put n).2) := by
  by_cases hm : s.size + nlen n ≤ s.most
  · exact put_r n x vL vc S s lv dv ps w h hv hvS hSw hf hsok hm
  · obtain ⟨key, cookie, gone, data⟩ := n
    cases gone with
    | true =>
      rw [Vst.put_gone rfl]
      exact rput_g key cookie data x vL vc S s lv dv ps w h
    | false =>
      by_cases hc : ncheck ⟨key, cookie, false, data⟩ = 0
      · cases hs : s.shut with
        | true =>
          rw [Vst.put_shut rfl hc hs]
          exact rput_s key cookie data x vL vc S s lv dv ps w h hv hc hs
        | false =>
          cases ho : newest s.ns key with
          | some o =>
            rw [Vst.put_there (n := ⟨key, cookie, false, data⟩) rfl hc hs ho]
            cases hg : o.gone with
            | true => exact rput_d key cookie data x vL vc S s lv dv ps w h hv hc hs (by omega) o ho hg
            | false => exact rput_t key cookie data x vL vc S s lv dv ps w h hv hc hs (by omega) o ho hg
          | none =>
            rw [show s.put ⟨key, cookie, false, data⟩ = (s, 11) by unfold Vst.put Vst.write; simp [hc, hs, ho]; omega]
            exact rput_f key cookie data x vL vc S s lv dv ps w h hv hvS hSw hc hs hf hsok (by omega) ho
      · rw [Vst.put_bad rfl hc]
        exact rput_b key cookie data x vL vc S s lv dv ps w h hv hc
theorem del_rw (key c : Nat) (S : Nat → Prop) (s : Vst) (lv dv : Value) (ps : List (Ndl × Value)) (w : World) (h : DocP w S s lv dv ps) (hSw : ∀ b, S b → b < w.heap.size) (hf : s.ns.length < 4095) (hsok : s.Ok) :
    Calls Tryz.prog 62 #[dval s lv dv, .int .u64 (key : Int), .int .u32 (c : Int)] w (DocT w S (s.del key c).1 (s.del key c).2) := by
  by_cases hm : s.size + nlen (grave key c) ≤ s.most
  · exact del_r key c S s lv dv ps w h hSw hf hsok hm
  · by_cases hn : s.look key c = 0
    · cases hs : s.shut with
      | true =>
        rw [del_shut hn hs]
        exact rdel_s key c S s lv dv ps w h hf hn hs
      | false =>
        rw [show s.del key c = (s, 11) by unfold Vst.del Vst.write; simp [hn, hs]; omega]
        exact rdel_f key c S s lv dv ps w h hf hSw hsok (by omega) hn hs
    · rw [del_bad hn]
      exact rdel_b key c S s lv dv ps w h hf hn

end Go.Proofs.YtoblbipkkdiddaaGreatDoor
end
