/- Rdo. -/
import Derived.Test.YtoblbipkkdiddaaGreatDoorM13
import Derived.Test.YtoblbipkkdiddaaGreatDoorM12
set_option linter.unusedVariables false
set_option linter.unusedSimpArgs false

section
namespace Go.Proofs.YtoblbipkkdiddaaGreatDoor
open Go.RowKit Go.Cor

/-- What the document's Do leaves. -/
def DoR (w : World) (S : Nat → Prop) (s' : Vst) (c : Nat) (e : Ending) (w' : World) : Prop := ∃ (lv dv : Value) (ps : List (Ndl × Value)) (nk nc : Int) (ng : Bool) (nx : Option Addr) (nL ncap : Nat) (kv : Value), e = .returned (.tuple #[dval s' lv dv, .agg #[.int .u64 nk, .int .u32 nc, .bool ng, .slice nx nL ncap], kv, .int .i64 (c : Int)]) ∧ DocP w' S s' lv dv ps ∧ Below w.heap.size w w'
theorem five_below (w : World) (A B C D E : Array Value) (TA TB TC TD TE : TypeId) : Below w.heap.size w (((((w.alloc (.cells A TA)).alloc (.cells B TB)).alloc (.cells C TC)).alloc (.cells D TD)).alloc (.cells E TE)) :=
  ((three_below w A B C TA TB TC).alloc (by simp; omega) (.cells D TD)).alloc (by simp; omega) (.cells E TE)
theorem five_facts {w w2 : World} {A B C D E : Array Value} {TA TB TC TD TE : TypeId} (hb : Below (((((w.alloc (.cells A TA)).alloc (.cells B TB)).alloc (.cells C TC)).alloc (.cells D TD)).alloc (.cells E TE)).heap.size (((((w.alloc (.cells A TA)).alloc (.cells B TB)).alloc (.cells C TC)).alloc (.cells D TD)).alloc (.cells E TE)) w2) :
    Blk w2 w.heap.size A TA ∧ Blk w2 (w.heap.size + 1) B TB ∧ Blk w2 (w.heap.size + 1 + 1) C TC ∧ Blk w2 (w.heap.size + 1 + 1 + 1) D TD ∧ Blk w2 (w.heap.size + 1 + 1 + 1 + 1) E TE ∧ Below w.heap.size w w2 ∧ w.heap.size + 1 + 1 + 1 + 1 < w2.heap.size := by
  have h1 := ((((Blk.new w A TA).alloc (.cells B TB)).alloc (.cells C TC)).alloc (.cells D TD)).alloc (.cells E TE)
  have h2 := (((Blk.new (w.alloc (.cells A TA)) B TB).alloc (.cells C TC)).alloc (.cells D TD)).alloc (.cells E TE)
  have h3 := ((Blk.new ((w.alloc (.cells A TA)).alloc (.cells B TB)) C TC).alloc (.cells D TD)).alloc (.cells E TE)
  have h4 := (Blk.new (((w.alloc (.cells A TA)).alloc (.cells B TB)).alloc (.cells C TC)) D TD).alloc (.cells E TE)
  have h5 := Blk.new ((((w.alloc (.cells A TA)).alloc (.cells B TB)).alloc (.cells C TC)).alloc (.cells D TD)) E TE
  rw [show (w.alloc (.cells A TA)).heap.size = w.heap.size + 1 by simp] at h2
  rw [show ((w.alloc (.cells A TA)).alloc (.cells B TB)).heap.size = w.heap.size + 1 + 1 by simp] at h3
  rw [show (((w.alloc (.cells A TA)).alloc (.cells B TB)).alloc (.cells C TC)).heap.size = w.heap.size + 1 + 1 + 1 by simp] at h4
  rw [show ((((w.alloc (.cells A TA)).alloc (.cells B TB)).alloc (.cells C TC)).alloc (.cells D TD)).heap.size = w.heap.size + 1 + 1 + 1 + 1 by simp] at h5
  have hs := hb.size
  have e : (((((w.alloc (.cells A TA)).alloc (.cells B TB)).alloc (.cells C TC)).alloc (.cells D TD)).alloc (.cells E TE)).heap.size = w.heap.size + 1 + 1 + 1 + 1 + 1 := by simp
  have hw := five_below w A B C D E TA TB TC TD TE
  rw [e] at hb hs
  exact ⟨h1.below hb (by omega), h2.below hb (by omega), h3.below hb (by omega), h4.below hb (by omega), h5.below hb (by omega), hw.trans (hb.mono (by omega)), by omega⟩

theorem _root_.Go.Cor.Blk.other7 {w1 : World} {X B : Nat} {A : Array Value} {T : TypeId} (h : Blk w1 X A T) (hne : B ≠ X) (u0 u1 u2 u3 u4 u5 u6 : Value) : Blk (set7 w1 B u0 u1 u2 u3 u4 u5 u6) X A T := by
  unfold set7
  exact ((((((h.other (a := ⟨B, 0, none⟩) hne u0).other (a := ⟨B, 1, none⟩) hne u1).other (a := ⟨B, 2, none⟩) hne u2).other (a := ⟨B, 3, none⟩) hne u3).other (a := ⟨B, 4, none⟩) hne u4).other (a := ⟨B, 5, none⟩) hne u5).other (a := ⟨B, 6, none⟩) hne u6
theorem _root_.Go.Cor.Blk.other4 {w1 : World} {X B : Nat} {A : Array Value} {T : TypeId} (h : Blk w1 X A T) (hne : B ≠ X) (u0 u1 u2 u3 : Value) : Blk (set4 w1 B u0 u1 u2 u3) X A T := by
  unfold set4
  exact (((h.other (a := ⟨B, 0, none⟩) hne u0).other (a := ⟨B, 1, none⟩) hne u1).other (a := ⟨B, 2, none⟩) hne u2).other (a := ⟨B, 3, none⟩) hne u3
theorem kept_set7 (w : World) (B : Nat) (u0 u1 u2 u3 u4 u5 u6 : Value) : Kept (fun j => j = B) w (set7 w B u0 u1 u2 u3 u4 u5 u6) :=
  (((((((Kept.refl (fun j => j = B) w).setCell (.inl rfl) _).setCell (.inl rfl) _).setCell (.inl rfl) _).setCell (.inl rfl) _).setCell (.inl rfl) _).setCell (.inl rfl) _).setCell (.inl rfl) _

set_option maxRecDepth 100000 in
set_option maxHeartbeats 1000000 in
theorem rdo_0 (m : Int) (key cookie : Nat) (gone : Bool) (data : List UInt8) (x : Option Addr) (vL vc : Nat) (S : Nat → Prop) (s : Vst) (lv dv : Value) (ps : List (Ndl × Value)) (w : World) (h : DocP w S s lv dv ps) (hSw : ∀ b, S b → b < w.heap.size) (hv : IsB w (.slice x vL vc) data) (hvS : ∀ b, liesB (.slice x vL vc) data b → ¬ S b) (hf : s.ns.length < 4095) (hsok : s.Ok) :
    Calls Tryz.prog 30 #[dval s lv dv, .agg #[.int .i64 0, .int .i64 m, .int .u64 (key : Int), .int .u32 (cookie : Int), .bool gone, .slice x vL vc]] w (DoR w S (s.put ⟨key, cookie, gone, data⟩).1 (s.put ⟨key, cookie, gone, data⟩).2) := by
  obtain ⟨lx, lc, rfl, _, _⟩ := IsX.slice h.l
  obtain ⟨dx, dc, rfl, _, _⟩ := IsX.slice h.d.1
  have hpl : ps.length = s.ns.length := by rw [← h.ns, List.length_map]
  obtain ⟨I, hI⟩ : ∃ I, s.idx.length = I := ⟨_, rfl⟩
  obtain ⟨N, hN⟩ : ∃ N, ps.length = N := ⟨_, rfl⟩
  rw [hI, hN] at h ⊢
  have HB0 := Lib.hid (five_below w #[.int .i64 (s.num : Int), .int .i64 (s.most : Int), .int .i64 (s.epoch : Int), .int .i64 (s.size : Int), .bool s.shut, .slice lx I lc, .slice dx N dc] #[.int .i64 0, .int .i64 m, .int .u64 (key : Int), .int .u32 (cookie : Int), .bool gone, .slice x vL vc] #[.int .i64 0, .int .i64 0, .int .i64 0, .int .i64 0, .bool false, .slice none 0 0, .slice none 0 0] #[.int .u64 0, .int .u32 0, .bool false, .slice none 0 0] #[.int .u64 0, .int .u32 0, .bool false, .slice none 0 0] 30 86 30 47 47)
  have HD := Lib.hid (show DocP (((((w.alloc (.cells #[.int .i64 (s.num : Int), .int .i64 (s.most : Int), .int .i64 (s.epoch : Int), .int .i64 (s.size : Int), .bool s.shut, .slice lx I lc, .slice dx N dc] 30)).alloc (.cells #[.int .i64 0, .int .i64 m, .int .u64 (key : Int), .int .u32 (cookie : Int), .bool gone, .slice x vL vc] 86)).alloc (.cells #[.int .i64 0, .int .i64 0, .int .i64 0, .int .i64 0, .bool false, .slice none 0 0, .slice none 0 0] 30)).alloc (.cells #[.int .u64 0, .int .u32 0, .bool false, .slice none 0 0] 47)).alloc (.cells #[.int .u64 0, .int .u32 0, .bool false, .slice none 0 0] 47)) (fun b => S b ∨ (w.heap.size ≤ b ∧ b < w.heap.size + 5)) s (.slice lx I lc) (.slice dx N dc) ps from (h.kept (Kept.refl S w) (fun b hb => .inl hb) |>.kept (S' := (fun b => S b ∨ (w.heap.size ≤ b ∧ b < w.heap.size + 5))) (Kept.refl S w) (fun b hb => by rcases hb with hb | hb; exact .inl hb; exact .inr hb.1)).below HB0.out)
  have HS5 := Lib.hid (show ∀ b, (fun b => S b ∨ (w.heap.size ≤ b ∧ b < w.heap.size + 5)) b → b < (((((w.alloc (.cells #[.int .i64 (s.num : Int), .int .i64 (s.most : Int), .int .i64 (s.epoch : Int), .int .i64 (s.size : Int), .bool s.shut, .slice lx I lc, .slice dx N dc] 30)).alloc (.cells #[.int .i64 0, .int .i64 m, .int .u64 (key : Int), .int .u32 (cookie : Int), .bool gone, .slice x vL vc] 86)).alloc (.cells #[.int .i64 0, .int .i64 0, .int .i64 0, .int .i64 0, .bool false, .slice none 0 0, .slice none 0 0] 30)).alloc (.cells #[.int .u64 0, .int .u32 0, .bool false, .slice none 0 0] 47)).alloc (.cells #[.int .u64 0, .int .u32 0, .bool false, .slice none 0 0] 47)).heap.size from fun b hb => by
    simp
    rcases hb with hb | hb
    · have := hSw b hb; omega
    · omega)
  have HC := Lib.hid (put_rw ⟨key, cookie, gone, data⟩ x vL vc (fun b => S b ∨ (w.heap.size ≤ b ∧ b < w.heap.size + 5)) s (.slice lx I lc) (.slice dx N dc) ps _ HD.out (hv.mono HB0.out (Nat.le_refl _)) (fun b hb hS => by rcases hS with hS | hS; exact hvS b hb hS; have := hv.lies_lt hb; omega) HS5.out hf hsok)
  obtain ⟨q, hq⟩ : ∃ q, (s.put ⟨key, cookie, gone, data⟩).2 = q := ⟨_, rfl⟩
  obtain ⟨s1, hs1⟩ : ∃ s1, (s.put ⟨key, cookie, gone, data⟩).1 = s1 := ⟨_, rfl⟩
  rw [hq, hs1] at HC ⊢
  have HSW := Lib.hid hSw
  clear h hv hvS hf hsok hq hs1 hSw HD HS5 hI hN hpl
  go_enter Tryz.func30, Tryz.ntmps30
  go_wp2_with fail
  refine HC.out.mono ?_
  rintro e w2 ⟨lv1, dv1, ps1, rfl, hd, hb⟩
  obtain ⟨l1, c1, rfl, _, _⟩ := IsX.slice hd.l
  obtain ⟨d1, e1, rfl, _, _⟩ := IsX.slice hd.d.1
  obtain ⟨hV, hA, hT, hR, hZ, hB, hlt⟩ := five_facts hb
  have HV := Lib.hid hV
  have HA := Lib.hid hA
  have HT := Lib.hid hT
  have HR := Lib.hid hR
  have HZ := Lib.hid hZ
  have HBB := Lib.hid hB
  have HDD := Lib.hid hd
  clear hV hA hT hR hZ hB hb hd
  go_upto_region 5 with fail
  obtain ⟨wt, hwt⟩ : ∃ wt, (w2.alloc (.cells #[.int .i64 (s1.num : Int), .int .i64 (s1.most : Int), .int .i64 (s1.epoch : Int), .int .i64 (s1.size : Int), .bool s1.shut, .slice l1 s1.idx.length c1, .slice d1 ps1.length e1] 30)).drew = wt := ⟨_, rfl⟩
  obtain ⟨yV, yN, yT, yR, yB, yD⟩ := (show Blk (w2.alloc (.cells #[.int .i64 (s1.num : Int), .int .i64 (s1.most : Int), .int .i64 (s1.epoch : Int), .int .i64 (s1.size : Int), .bool s1.shut, .slice l1 s1.idx.length c1, .slice d1 ps1.length e1] 30)).drew w2.heap.size #[.int .i64 (s1.num : Int), .int .i64 (s1.most : Int), .int .i64 (s1.epoch : Int), .int .i64 (s1.size : Int), .bool s1.shut, .slice l1 s1.idx.length c1, .slice d1 ps1.length e1] 30 ∧ _ ∧ _ ∧ _ ∧ _ ∧ _ from ⟨(Blk.new w2 #[.int .i64 (s1.num : Int), .int .i64 (s1.most : Int), .int .i64 (s1.epoch : Int), .int .i64 (s1.size : Int), .bool s1.shut, .slice l1 s1.idx.length c1, .slice d1 ps1.length e1] 30).below ((Below.refl (w2.alloc (.cells #[.int .i64 (s1.num : Int), .int .i64 (s1.most : Int), .int .i64 (s1.epoch : Int), .int .i64 (s1.size : Int), .bool s1.shut, .slice l1 s1.idx.length c1, .slice d1 ps1.length e1] 30)).heap.size (w2.alloc (.cells #[.int .i64 (s1.num : Int), .int .i64 (s1.most : Int), .int .i64 (s1.epoch : Int), .int .i64 (s1.size : Int), .bool s1.shut, .slice l1 s1.idx.length c1, .slice d1 ps1.length e1] 30))).drew) (Blk.new w2 #[.int .i64 (s1.num : Int), .int .i64 (s1.most : Int), .int .i64 (s1.epoch : Int), .int .i64 (s1.size : Int), .bool s1.shut, .slice l1 s1.idx.length c1, .slice d1 ps1.length e1] 30).lt, HZ.out.below ((Below.refl w2.heap.size w2).alloc (Nat.le_refl _) (.cells #[.int .i64 (s1.num : Int), .int .i64 (s1.most : Int), .int .i64 (s1.epoch : Int), .int .i64 (s1.size : Int), .bool s1.shut, .slice l1 s1.idx.length c1, .slice d1 ps1.length e1] 30)).drew HZ.out.lt, HT.out.below ((Below.refl w2.heap.size w2).alloc (Nat.le_refl _) (.cells #[.int .i64 (s1.num : Int), .int .i64 (s1.most : Int), .int .i64 (s1.epoch : Int), .int .i64 (s1.size : Int), .bool s1.shut, .slice l1 s1.idx.length c1, .slice d1 ps1.length e1] 30)).drew HT.out.lt, HR.out.below ((Below.refl w2.heap.size w2).alloc (Nat.le_refl _) (.cells #[.int .i64 (s1.num : Int), .int .i64 (s1.most : Int), .int .i64 (s1.epoch : Int), .int .i64 (s1.size : Int), .bool s1.shut, .slice l1 s1.idx.length c1, .slice d1 ps1.length e1] 30)).drew HR.out.lt, (HBB.out.alloc HBB.out.size (.cells #[.int .i64 (s1.num : Int), .int .i64 (s1.most : Int), .int .i64 (s1.epoch : Int), .int .i64 (s1.size : Int), .bool s1.shut, .slice l1 s1.idx.length c1, .slice d1 ps1.length e1] 30)).drew, HDD.out.below (((Below.refl w2.heap.size w2).alloc (Nat.le_refl _) (.cells #[.int .i64 (s1.num : Int), .int .i64 (s1.most : Int), .int .i64 (s1.epoch : Int), .int .i64 (s1.size : Int), .bool s1.shut, .slice l1 s1.idx.length c1, .slice d1 ps1.length e1] 30)).drew)⟩)
  rw [hwt] at yV yN yT yR yB yD
  have XV := Lib.hid yV
  have XN := Lib.hid yN
  have XT := Lib.hid yT
  have XR := Lib.hid yR
  have XB := Lib.hid yB
  have XD := Lib.hid yD
  clear yV yN yT yR yB yD
  have n1 : w.heap.size + 1 + 1 ≠ w2.heap.size := by omega
  have n2 : w.heap.size + 1 + 1 ≠ w.heap.size + 1 + 1 + 1 + 1 := by omega
  have n3 : w.heap.size + 1 + 1 + 1 ≠ w2.heap.size := by omega
  have n4 : w.heap.size + 1 + 1 + 1 ≠ w.heap.size + 1 + 1 + 1 + 1 := by omega
  have n5 : w.heap.size + 1 + 1 ≠ w.heap.size + 1 + 1 + 1 := by omega
  have n6 : w.heap.size + 1 + 1 + 1 ≠ w.heap.size + 1 + 1 := by omega
  have XV2 := Lib.hid (XV.out.other7 n1 (.int .i64 (s1.num : Int)) (.int .i64 (s1.most : Int)) (.int .i64 (s1.epoch : Int)) (.int .i64 (s1.size : Int)) (.bool s1.shut) (.slice l1 s1.idx.length c1) (.slice d1 ps1.length e1))
  have XN2 := Lib.hid (XN.out.other7 n2 (.int .i64 (s1.num : Int)) (.int .i64 (s1.most : Int)) (.int .i64 (s1.epoch : Int)) (.int .i64 (s1.size : Int)) (.bool s1.shut) (.slice l1 s1.idx.length c1) (.slice d1 ps1.length e1))
  have XR2 := Lib.hid (XR.out.other7 n5 (.int .i64 (s1.num : Int)) (.int .i64 (s1.most : Int)) (.int .i64 (s1.epoch : Int)) (.int .i64 (s1.size : Int)) (.bool s1.shut) (.slice l1 s1.idx.length c1) (.slice d1 ps1.length e1))
  have XT2 := Lib.hid (blk_set7 XT.out (.int .i64 (s1.num : Int)) (.int .i64 (s1.most : Int)) (.int .i64 (s1.epoch : Int)) (.int .i64 (s1.size : Int)) (.bool s1.shut) (.slice l1 s1.idx.length c1) (.slice d1 ps1.length e1))
  have XV3 := Lib.hid (XV2.out.other4 n3 (.int .u64 0) (.int .u32 0) (.bool false) (.slice none 0 0))
  have XN3 := Lib.hid (XN2.out.other4 n4 (.int .u64 0) (.int .u32 0) (.bool false) (.slice none 0 0))
  have XT3 := Lib.hid (XT2.out.other4 n6 (.int .u64 0) (.int .u32 0) (.bool false) (.slice none 0 0))
  have XR3 := Lib.hid (blk_set4 XR2.out (.int .u64 0) (.int .u32 0) (.bool false) (.slice none 0 0))
  have XB3 := Lib.hid (below_set4 (g := w.heap.size + 1 + 1 + 1) (u0 := .int .u64 0) (u1 := .int .u32 0) (u2 := .bool false) (u3 := .slice none 0 0) (below_set7 (g := w.heap.size + 1 + 1) (u0 := .int .i64 (s1.num : Int)) (u1 := .int .i64 (s1.most : Int)) (u2 := .int .i64 (s1.epoch : Int)) (u3 := .int .i64 (s1.size : Int)) (u4 := .bool s1.shut) (u5 := .slice l1 s1.idx.length c1) (u6 := .slice d1 ps1.length e1) XB.out (by omega)) (show w.heap.size ≤ w.heap.size + 1 + 1 + 1 by omega))
  have XD3 := Lib.hid ((XD.out.kept (S' := (fun b => S b ∨ (w.heap.size ≤ b ∧ b < w.heap.size + 5))) (((kept_set7 wt (w.heap.size + 1 + 1) (.int .i64 (s1.num : Int)) (.int .i64 (s1.most : Int)) (.int .i64 (s1.epoch : Int)) (.int .i64 (s1.size : Int)) (.bool s1.shut) (.slice l1 s1.idx.length c1) (.slice d1 ps1.length e1)).mono (fun j _ hj => by subst hj; exact .inr ⟨by omega, by omega⟩)).trans ((kept_set4 _ (w.heap.size + 1 + 1 + 1) (.int .u64 0) (.int .u32 0) (.bool false) (.slice none 0 0)).mono (fun j _ hj => by subst hj; exact .inr ⟨by omega, by omega⟩)) (fun _ h _ => h)) (fun b hb => .inl hb)).kept (S' := S) (Kept.refl (fun b => S b ∨ (w.heap.size ≤ b ∧ b < w.heap.size + 5)) _) (fun b hb => .inl (.inl hb)))
  clear n1 n2 n3 n4 n5 n6
  have z0 := XT.out.cell 0 rfl
  have z1 := XT.out.cell 1 rfl
  have z2 := XT.out.cell 2 rfl
  have z3 := XT.out.cell 3 rfl
  have z4 := XT.out.cell 4 rfl
  have z5 := XT.out.cell 5 rfl
  have z6 := XT.out.cell 6 rfl
  have zf := fun j => XT.out.free j
  have r0 := XR2.out.cell 0 rfl
  have r1 := XR2.out.cell 1 rfl
  have r2 := XR2.out.cell 2 rfl
  have r3 := XR2.out.cell 3 rfl
  have rf := fun j => XR2.out.free j
  unfold set7 at XV2 XN2 XT2 XV3 XN3 XT3 XR3 XB3 XD3 r0 r1 r2 r3 rf
  unfold set4 at XV3 XN3 XT3 XR3 XB3 XD3
  refine AnyE.start (S := (fun wx => wx.cell? ⟨w2.heap.size, 0, none⟩ = some (.int .i64 (s1.num : Int)) ∧ wx.cell? ⟨w2.heap.size, 1, none⟩ = some (.int .i64 (s1.most : Int)) ∧ wx.cell? ⟨w2.heap.size, 2, none⟩ = some (.int .i64 (s1.epoch : Int)) ∧ wx.cell? ⟨w2.heap.size, 3, none⟩ = some (.int .i64 (s1.size : Int)) ∧ wx.cell? ⟨w2.heap.size, 4, none⟩ = some (.bool s1.shut) ∧ wx.cell? ⟨w2.heap.size, 5, none⟩ = some (.slice l1 s1.idx.length c1) ∧ wx.cell? ⟨w2.heap.size, 6, none⟩ = some (.slice d1 ps1.length e1) ∧ wx.cell? ⟨w.heap.size + 1 + 1 + 1 + 1, 0, none⟩ = some (.int .u64 0) ∧ wx.cell? ⟨w.heap.size + 1 + 1 + 1 + 1, 1, none⟩ = some (.int .u32 0) ∧ wx.cell? ⟨w.heap.size + 1 + 1 + 1 + 1, 2, none⟩ = some (.bool false) ∧ wx.cell? ⟨w.heap.size + 1 + 1 + 1 + 1, 3, none⟩ = some (.slice none 0 0))) 6 (by kernel_rfl) (by rw [hwt]; exact ⟨XV.out.cell 0 rfl, XV.out.cell 1 rfl, XV.out.cell 2 rfl, XV.out.cell 3 rfl, XV.out.cell 4 rfl, XV.out.cell 5 rfl, XV.out.cell 6 rfl, XN.out.cell 0 rfl, XN.out.cell 1 rfl, XN.out.cell 2 rfl, XN.out.cell 3 rfl⟩) (fun hHeld => ?_)
  rw [hwt] at hHeld
  rw [hwt]
  clear hwt
  refine AnyE.take (i := 0) (v := ?_) rfl (by kernel_rfl) (by kernel_rfl) (by kernel_rfl) (by kernel_rfl) (fun _ _ _ h => h) (Or.inl ⟨by rfl, ?_⟩) (by assumption) ?_
  rotate_left 1
  · intro w hSw
    (try dsimp only at hSw)
    go_simp
    all_goals (with_reducible rfl)
  try simp only [Act.put, List.getElem_toArray, List.getElem_cons_zero, List.getElem_cons_succ, List.setIfInBounds_toArray, List.set_cons_zero, List.set_cons_succ]
  refine AnyE.take (i := 1) (v := ?_) rfl (by kernel_rfl) (by kernel_rfl) (by kernel_rfl) (by kernel_rfl) (fun _ _ _ h => h) (Or.inl ⟨by rfl, ?_⟩) (by assumption) ?_
  rotate_left 1
  · intro w hSw
    (try dsimp only at hSw)
    go_simp
    all_goals (with_reducible rfl)
  try simp only [Act.put, List.getElem_toArray, List.getElem_cons_zero, List.getElem_cons_succ, List.setIfInBounds_toArray, List.set_cons_zero, List.set_cons_succ]
  refine AnyE.take (i := 2) (v := ?_) rfl (by kernel_rfl) (by kernel_rfl) (by kernel_rfl) (by kernel_rfl) (fun _ _ _ h => h) (Or.inl ⟨by rfl, ?_⟩) (by assumption) ?_
  rotate_left 1
  · intro w hSw
    (try dsimp only at hSw)
    go_simp
    all_goals (with_reducible rfl)
  try simp only [Act.put, List.getElem_toArray, List.getElem_cons_zero, List.getElem_cons_succ, List.setIfInBounds_toArray, List.set_cons_zero, List.set_cons_succ]
  refine AnyE.next (rs := [3]) (by kernel_rfl) (by simp) ?_
  refine AllE.cons rfl (fun K hK => ?_) AllE.nil
  go_simp
  refine hK.out _ _ (⟨XV2.out.cell 0 rfl, XV2.out.cell 1 rfl, XV2.out.cell 2 rfl, XV2.out.cell 3 rfl, XV2.out.cell 4 rfl, XV2.out.cell 5 rfl, XV2.out.cell 6 rfl, XN2.out.cell 0 rfl, XN2.out.cell 1 rfl, XN2.out.cell 2 rfl, XN2.out.cell 3 rfl⟩) (fun hHeld => ?_)
  clear hK K
  try simp only [Act.put, List.getElem_toArray, List.getElem_cons_zero, List.getElem_cons_succ, List.setIfInBounds_toArray, List.set_cons_zero, List.set_cons_succ]
  refine AnyE.next (rs := [4]) (by kernel_rfl) (by simp) ?_
  refine AllE.cons rfl (fun K hK => ?_) AllE.nil
  go_simp
  refine hK.out _ _ (⟨XV3.out.cell 0 rfl, XV3.out.cell 1 rfl, XV3.out.cell 2 rfl, XV3.out.cell 3 rfl, XV3.out.cell 4 rfl, XV3.out.cell 5 rfl, XV3.out.cell 6 rfl, XN3.out.cell 0 rfl, XN3.out.cell 1 rfl, XN3.out.cell 2 rfl, XN3.out.cell 3 rfl⟩) (fun hHeld => ?_)
  clear hK K
  try simp only [Act.put, List.getElem_toArray, List.getElem_cons_zero, List.getElem_cons_succ, List.setIfInBounds_toArray, List.set_cons_zero, List.set_cons_succ]
  refine AnyE.take (i := 5) (v := ?_) rfl (by kernel_rfl) (by kernel_rfl) (by kernel_rfl) (by kernel_rfl) (fun _ _ _ h => h) (Or.inl ⟨by rfl, ?_⟩) (by assumption) ?_
  rotate_left 1
  · intro w hSw
    (try dsimp only at hSw)
    go_simp
    all_goals (with_reducible rfl)
  try simp only [Act.put, List.getElem_toArray, List.getElem_cons_zero, List.getElem_cons_succ, List.setIfInBounds_toArray, List.set_cons_zero, List.set_cons_succ]
  refine AnyE.next (rs := [6]) (by kernel_rfl) (by simp) ?_
  refine AllE.last rfl (fun K hK => ?_)
  go_simp
  refine hK.out _ _ ?_
  clear hK K
  try simp only [Act.put, List.getElem_toArray, List.getElem_cons_zero, List.getElem_cons_succ, List.setIfInBounds_toArray, List.set_cons_zero, List.set_cons_succ]
  refine AnyE.done (by kernel_rfl) ?_ _
  clear z0 z1 z2 z3 z4 z5 z6 zf r0 r1 r2 r3 rf
  have y0 := XT3.out.cell 0 rfl
  have y1 := XT3.out.cell 1 rfl
  have y2 := XT3.out.cell 2 rfl
  have y3 := XT3.out.cell 3 rfl
  have y4 := XT3.out.cell 4 rfl
  have y5 := XT3.out.cell 5 rfl
  have y6 := XT3.out.cell 6 rfl
  have x0 := XR3.out.cell 0 rfl
  have x1 := XR3.out.cell 1 rfl
  have x2 := XR3.out.cell 2 rfl
  have x3 := XR3.out.cell 3 rfl
  go_wp2
  exact bodyPost_ret (v := .tuple #[.agg #[.int .i64 (s1.num : Int), .int .i64 (s1.most : Int), .int .i64 (s1.epoch : Int), .int .i64 (s1.size : Int), .bool s1.shut, .slice l1 s1.idx.length c1, .slice d1 ps1.length e1], .agg #[.int .u64 0, .int .u32 0, .bool false, .slice none 0 0], .slice none 0 0, .int .i64 (q : Int)]) (by simp [results, Tryz.results30, go_sem, y0, y1, y2, y3, y4, y5, y6, x0, x1, x2, x3]) rfl ⟨_, _, ps1, _, _, _, _, _, _, _, rfl, XD3.out, XB3.out⟩
set_option maxRecDepth 100000 in
set_option maxHeartbeats 1000000 in
theorem rdo_1 (m : Int) (key cookie : Nat) (gone : Bool) (data : List UInt8) (x : Option Addr) (vL vc : Nat) (S : Nat → Prop) (s : Vst) (lv dv : Value) (ps : List (Ndl × Value)) (w : World) (h : DocP w S s lv dv ps) (hSw : ∀ b, S b → b < w.heap.size) (hf : s.ns.length < 4095) (hsok : s.Ok) :
    Calls Tryz.prog 30 #[dval s lv dv, .agg #[.int .i64 1, .int .i64 m, .int .u64 (key : Int), .int .u32 (cookie : Int), .bool gone, .slice x vL vc]] w (DoR w S (s.del key cookie).1 (s.del key cookie).2) := by
  obtain ⟨lx, lc, rfl, _, _⟩ := IsX.slice h.l
  obtain ⟨dx, dc, rfl, _, _⟩ := IsX.slice h.d.1
  have hpl : ps.length = s.ns.length := by rw [← h.ns, List.length_map]
  obtain ⟨I, hI⟩ : ∃ I, s.idx.length = I := ⟨_, rfl⟩
  obtain ⟨N, hN⟩ : ∃ N, ps.length = N := ⟨_, rfl⟩
  rw [hI, hN] at h ⊢
  have HB0 := Lib.hid (five_below w #[.int .i64 (s.num : Int), .int .i64 (s.most : Int), .int .i64 (s.epoch : Int), .int .i64 (s.size : Int), .bool s.shut, .slice lx I lc, .slice dx N dc] #[.int .i64 1, .int .i64 m, .int .u64 (key : Int), .int .u32 (cookie : Int), .bool gone, .slice x vL vc] #[.int .i64 0, .int .i64 0, .int .i64 0, .int .i64 0, .bool false, .slice none 0 0, .slice none 0 0] #[.int .u64 0, .int .u32 0, .bool false, .slice none 0 0] #[.int .u64 0, .int .u32 0, .bool false, .slice none 0 0] 30 86 30 47 47)
  have HD := Lib.hid (show DocP (((((w.alloc (.cells #[.int .i64 (s.num : Int), .int .i64 (s.most : Int), .int .i64 (s.epoch : Int), .int .i64 (s.size : Int), .bool s.shut, .slice lx I lc, .slice dx N dc] 30)).alloc (.cells #[.int .i64 1, .int .i64 m, .int .u64 (key : Int), .int .u32 (cookie : Int), .bool gone, .slice x vL vc] 86)).alloc (.cells #[.int .i64 0, .int .i64 0, .int .i64 0, .int .i64 0, .bool false, .slice none 0 0, .slice none 0 0] 30)).alloc (.cells #[.int .u64 0, .int .u32 0, .bool false, .slice none 0 0] 47)).alloc (.cells #[.int .u64 0, .int .u32 0, .bool false, .slice none 0 0] 47)) (fun b => S b ∨ (w.heap.size ≤ b ∧ b < w.heap.size + 5)) s (.slice lx I lc) (.slice dx N dc) ps from (h.kept (Kept.refl S w) (fun b hb => .inl hb) |>.kept (S' := (fun b => S b ∨ (w.heap.size ≤ b ∧ b < w.heap.size + 5))) (Kept.refl S w) (fun b hb => by rcases hb with hb | hb; exact .inl hb; exact .inr hb.1)).below HB0.out)
  have HS5 := Lib.hid (show ∀ b, (fun b => S b ∨ (w.heap.size ≤ b ∧ b < w.heap.size + 5)) b → b < (((((w.alloc (.cells #[.int .i64 (s.num : Int), .int .i64 (s.most : Int), .int .i64 (s.epoch : Int), .int .i64 (s.size : Int), .bool s.shut, .slice lx I lc, .slice dx N dc] 30)).alloc (.cells #[.int .i64 1, .int .i64 m, .int .u64 (key : Int), .int .u32 (cookie : Int), .bool gone, .slice x vL vc] 86)).alloc (.cells #[.int .i64 0, .int .i64 0, .int .i64 0, .int .i64 0, .bool false, .slice none 0 0, .slice none 0 0] 30)).alloc (.cells #[.int .u64 0, .int .u32 0, .bool false, .slice none 0 0] 47)).alloc (.cells #[.int .u64 0, .int .u32 0, .bool false, .slice none 0 0] 47)).heap.size from fun b hb => by
    simp
    rcases hb with hb | hb
    · have := hSw b hb; omega
    · omega)
  have HC := Lib.hid (del_rw key cookie (fun b => S b ∨ (w.heap.size ≤ b ∧ b < w.heap.size + 5)) s (.slice lx I lc) (.slice dx N dc) ps _ HD.out HS5.out hf hsok)
  obtain ⟨q, hq⟩ : ∃ q, (s.del key cookie).2 = q := ⟨_, rfl⟩
  obtain ⟨s1, hs1⟩ : ∃ s1, (s.del key cookie).1 = s1 := ⟨_, rfl⟩
  rw [hq, hs1] at HC ⊢
  have HSW := Lib.hid hSw
  clear h hf hsok hq hs1 hSw HD HS5 hI hN hpl
  go_enter Tryz.func30, Tryz.ntmps30
  go_wp2_with fail
  refine HC.out.mono ?_
  rintro e w2 ⟨lv1, dv1, ps1, rfl, hd, hb⟩
  obtain ⟨l1, c1, rfl, _, _⟩ := IsX.slice hd.l
  obtain ⟨d1, e1, rfl, _, _⟩ := IsX.slice hd.d.1
  obtain ⟨hV, hA, hT, hR, hZ, hB, hlt⟩ := five_facts hb
  have HV := Lib.hid hV
  have HA := Lib.hid hA
  have HT := Lib.hid hT
  have HR := Lib.hid hR
  have HZ := Lib.hid hZ
  have HBB := Lib.hid hB
  have HDD := Lib.hid hd
  clear hV hA hT hR hZ hB hb hd
  go_upto_region 8 with fail
  obtain ⟨wt, hwt⟩ : ∃ wt, (w2.alloc (.cells #[.int .i64 (s1.num : Int), .int .i64 (s1.most : Int), .int .i64 (s1.epoch : Int), .int .i64 (s1.size : Int), .bool s1.shut, .slice l1 s1.idx.length c1, .slice d1 ps1.length e1] 30)).drew = wt := ⟨_, rfl⟩
  obtain ⟨yV, yN, yT, yR, yB, yD⟩ := (show Blk (w2.alloc (.cells #[.int .i64 (s1.num : Int), .int .i64 (s1.most : Int), .int .i64 (s1.epoch : Int), .int .i64 (s1.size : Int), .bool s1.shut, .slice l1 s1.idx.length c1, .slice d1 ps1.length e1] 30)).drew w2.heap.size #[.int .i64 (s1.num : Int), .int .i64 (s1.most : Int), .int .i64 (s1.epoch : Int), .int .i64 (s1.size : Int), .bool s1.shut, .slice l1 s1.idx.length c1, .slice d1 ps1.length e1] 30 ∧ _ ∧ _ ∧ _ ∧ _ ∧ _ from ⟨(Blk.new w2 #[.int .i64 (s1.num : Int), .int .i64 (s1.most : Int), .int .i64 (s1.epoch : Int), .int .i64 (s1.size : Int), .bool s1.shut, .slice l1 s1.idx.length c1, .slice d1 ps1.length e1] 30).below ((Below.refl (w2.alloc (.cells #[.int .i64 (s1.num : Int), .int .i64 (s1.most : Int), .int .i64 (s1.epoch : Int), .int .i64 (s1.size : Int), .bool s1.shut, .slice l1 s1.idx.length c1, .slice d1 ps1.length e1] 30)).heap.size (w2.alloc (.cells #[.int .i64 (s1.num : Int), .int .i64 (s1.most : Int), .int .i64 (s1.epoch : Int), .int .i64 (s1.size : Int), .bool s1.shut, .slice l1 s1.idx.length c1, .slice d1 ps1.length e1] 30))).drew) (Blk.new w2 #[.int .i64 (s1.num : Int), .int .i64 (s1.most : Int), .int .i64 (s1.epoch : Int), .int .i64 (s1.size : Int), .bool s1.shut, .slice l1 s1.idx.length c1, .slice d1 ps1.length e1] 30).lt, HZ.out.below ((Below.refl w2.heap.size w2).alloc (Nat.le_refl _) (.cells #[.int .i64 (s1.num : Int), .int .i64 (s1.most : Int), .int .i64 (s1.epoch : Int), .int .i64 (s1.size : Int), .bool s1.shut, .slice l1 s1.idx.length c1, .slice d1 ps1.length e1] 30)).drew HZ.out.lt, HT.out.below ((Below.refl w2.heap.size w2).alloc (Nat.le_refl _) (.cells #[.int .i64 (s1.num : Int), .int .i64 (s1.most : Int), .int .i64 (s1.epoch : Int), .int .i64 (s1.size : Int), .bool s1.shut, .slice l1 s1.idx.length c1, .slice d1 ps1.length e1] 30)).drew HT.out.lt, HR.out.below ((Below.refl w2.heap.size w2).alloc (Nat.le_refl _) (.cells #[.int .i64 (s1.num : Int), .int .i64 (s1.most : Int), .int .i64 (s1.epoch : Int), .int .i64 (s1.size : Int), .bool s1.shut, .slice l1 s1.idx.length c1, .slice d1 ps1.length e1] 30)).drew HR.out.lt, (HBB.out.alloc HBB.out.size (.cells #[.int .i64 (s1.num : Int), .int .i64 (s1.most : Int), .int .i64 (s1.epoch : Int), .int .i64 (s1.size : Int), .bool s1.shut, .slice l1 s1.idx.length c1, .slice d1 ps1.length e1] 30)).drew, HDD.out.below (((Below.refl w2.heap.size w2).alloc (Nat.le_refl _) (.cells #[.int .i64 (s1.num : Int), .int .i64 (s1.most : Int), .int .i64 (s1.epoch : Int), .int .i64 (s1.size : Int), .bool s1.shut, .slice l1 s1.idx.length c1, .slice d1 ps1.length e1] 30)).drew)⟩)
  rw [hwt] at yV yN yT yR yB yD
  have XV := Lib.hid yV
  have XN := Lib.hid yN
  have XT := Lib.hid yT
  have XR := Lib.hid yR
  have XB := Lib.hid yB
  have XD := Lib.hid yD
  clear yV yN yT yR yB yD
  have n1 : w.heap.size + 1 + 1 ≠ w2.heap.size := by omega
  have n2 : w.heap.size + 1 + 1 ≠ w.heap.size + 1 + 1 + 1 + 1 := by omega
  have n3 : w.heap.size + 1 + 1 + 1 ≠ w2.heap.size := by omega
  have n4 : w.heap.size + 1 + 1 + 1 ≠ w.heap.size + 1 + 1 + 1 + 1 := by omega
  have n5 : w.heap.size + 1 + 1 ≠ w.heap.size + 1 + 1 + 1 := by omega
  have n6 : w.heap.size + 1 + 1 + 1 ≠ w.heap.size + 1 + 1 := by omega
  have XV2 := Lib.hid (XV.out.other7 n1 (.int .i64 (s1.num : Int)) (.int .i64 (s1.most : Int)) (.int .i64 (s1.epoch : Int)) (.int .i64 (s1.size : Int)) (.bool s1.shut) (.slice l1 s1.idx.length c1) (.slice d1 ps1.length e1))
  have XN2 := Lib.hid (XN.out.other7 n2 (.int .i64 (s1.num : Int)) (.int .i64 (s1.most : Int)) (.int .i64 (s1.epoch : Int)) (.int .i64 (s1.size : Int)) (.bool s1.shut) (.slice l1 s1.idx.length c1) (.slice d1 ps1.length e1))
  have XR2 := Lib.hid (XR.out.other7 n5 (.int .i64 (s1.num : Int)) (.int .i64 (s1.most : Int)) (.int .i64 (s1.epoch : Int)) (.int .i64 (s1.size : Int)) (.bool s1.shut) (.slice l1 s1.idx.length c1) (.slice d1 ps1.length e1))
  have XT2 := Lib.hid (blk_set7 XT.out (.int .i64 (s1.num : Int)) (.int .i64 (s1.most : Int)) (.int .i64 (s1.epoch : Int)) (.int .i64 (s1.size : Int)) (.bool s1.shut) (.slice l1 s1.idx.length c1) (.slice d1 ps1.length e1))
  have XV3 := Lib.hid (XV2.out.other4 n3 (.int .u64 0) (.int .u32 0) (.bool false) (.slice none 0 0))
  have XN3 := Lib.hid (XN2.out.other4 n4 (.int .u64 0) (.int .u32 0) (.bool false) (.slice none 0 0))
  have XT3 := Lib.hid (XT2.out.other4 n6 (.int .u64 0) (.int .u32 0) (.bool false) (.slice none 0 0))
  have XR3 := Lib.hid (blk_set4 XR2.out (.int .u64 0) (.int .u32 0) (.bool false) (.slice none 0 0))
  have XB3 := Lib.hid (below_set4 (g := w.heap.size + 1 + 1 + 1) (u0 := .int .u64 0) (u1 := .int .u32 0) (u2 := .bool false) (u3 := .slice none 0 0) (below_set7 (g := w.heap.size + 1 + 1) (u0 := .int .i64 (s1.num : Int)) (u1 := .int .i64 (s1.most : Int)) (u2 := .int .i64 (s1.epoch : Int)) (u3 := .int .i64 (s1.size : Int)) (u4 := .bool s1.shut) (u5 := .slice l1 s1.idx.length c1) (u6 := .slice d1 ps1.length e1) XB.out (by omega)) (show w.heap.size ≤ w.heap.size + 1 + 1 + 1 by omega))
  have XD3 := Lib.hid ((XD.out.kept (S' := (fun b => S b ∨ (w.heap.size ≤ b ∧ b < w.heap.size + 5))) (((kept_set7 wt (w.heap.size + 1 + 1) (.int .i64 (s1.num : Int)) (.int .i64 (s1.most : Int)) (.int .i64 (s1.epoch : Int)) (.int .i64 (s1.size : Int)) (.bool s1.shut) (.slice l1 s1.idx.length c1) (.slice d1 ps1.length e1)).mono (fun j _ hj => by subst hj; exact .inr ⟨by omega, by omega⟩)).trans ((kept_set4 _ (w.heap.size + 1 + 1 + 1) (.int .u64 0) (.int .u32 0) (.bool false) (.slice none 0 0)).mono (fun j _ hj => by subst hj; exact .inr ⟨by omega, by omega⟩)) (fun _ h _ => h)) (fun b hb => .inl hb)).kept (S' := S) (Kept.refl (fun b => S b ∨ (w.heap.size ≤ b ∧ b < w.heap.size + 5)) _) (fun b hb => .inl (.inl hb)))
  clear n1 n2 n3 n4 n5 n6
  have z0 := XT.out.cell 0 rfl
  have z1 := XT.out.cell 1 rfl
  have z2 := XT.out.cell 2 rfl
  have z3 := XT.out.cell 3 rfl
  have z4 := XT.out.cell 4 rfl
  have z5 := XT.out.cell 5 rfl
  have z6 := XT.out.cell 6 rfl
  have zf := fun j => XT.out.free j
  have r0 := XR2.out.cell 0 rfl
  have r1 := XR2.out.cell 1 rfl
  have r2 := XR2.out.cell 2 rfl
  have r3 := XR2.out.cell 3 rfl
  have rf := fun j => XR2.out.free j
  unfold set7 at XV2 XN2 XT2 XV3 XN3 XT3 XR3 XB3 XD3 r0 r1 r2 r3 rf
  unfold set4 at XV3 XN3 XT3 XR3 XB3 XD3
  refine AnyE.start (S := (fun wx => wx.cell? ⟨w2.heap.size, 0, none⟩ = some (.int .i64 (s1.num : Int)) ∧ wx.cell? ⟨w2.heap.size, 1, none⟩ = some (.int .i64 (s1.most : Int)) ∧ wx.cell? ⟨w2.heap.size, 2, none⟩ = some (.int .i64 (s1.epoch : Int)) ∧ wx.cell? ⟨w2.heap.size, 3, none⟩ = some (.int .i64 (s1.size : Int)) ∧ wx.cell? ⟨w2.heap.size, 4, none⟩ = some (.bool s1.shut) ∧ wx.cell? ⟨w2.heap.size, 5, none⟩ = some (.slice l1 s1.idx.length c1) ∧ wx.cell? ⟨w2.heap.size, 6, none⟩ = some (.slice d1 ps1.length e1) ∧ wx.cell? ⟨w.heap.size + 1 + 1 + 1 + 1, 0, none⟩ = some (.int .u64 0) ∧ wx.cell? ⟨w.heap.size + 1 + 1 + 1 + 1, 1, none⟩ = some (.int .u32 0) ∧ wx.cell? ⟨w.heap.size + 1 + 1 + 1 + 1, 2, none⟩ = some (.bool false) ∧ wx.cell? ⟨w.heap.size + 1 + 1 + 1 + 1, 3, none⟩ = some (.slice none 0 0))) 6 (by kernel_rfl) (by rw [hwt]; exact ⟨XV.out.cell 0 rfl, XV.out.cell 1 rfl, XV.out.cell 2 rfl, XV.out.cell 3 rfl, XV.out.cell 4 rfl, XV.out.cell 5 rfl, XV.out.cell 6 rfl, XN.out.cell 0 rfl, XN.out.cell 1 rfl, XN.out.cell 2 rfl, XN.out.cell 3 rfl⟩) (fun hHeld => ?_)
  rw [hwt] at hHeld
  rw [hwt]
  clear hwt
  refine AnyE.take (i := 0) (v := ?_) rfl (by kernel_rfl) (by kernel_rfl) (by kernel_rfl) (by kernel_rfl) (fun _ _ _ h => h) (Or.inl ⟨by rfl, ?_⟩) (by assumption) ?_
  rotate_left 1
  · intro w hSw
    (try dsimp only at hSw)
    go_simp
    all_goals (with_reducible rfl)
  try simp only [Act.put, List.getElem_toArray, List.getElem_cons_zero, List.getElem_cons_succ, List.setIfInBounds_toArray, List.set_cons_zero, List.set_cons_succ]
  refine AnyE.take (i := 1) (v := ?_) rfl (by kernel_rfl) (by kernel_rfl) (by kernel_rfl) (by kernel_rfl) (fun _ _ _ h => h) (Or.inl ⟨by rfl, ?_⟩) (by assumption) ?_
  rotate_left 1
  · intro w hSw
    (try dsimp only at hSw)
    go_simp
    all_goals (with_reducible rfl)
  try simp only [Act.put, List.getElem_toArray, List.getElem_cons_zero, List.getElem_cons_succ, List.setIfInBounds_toArray, List.set_cons_zero, List.set_cons_succ]
  refine AnyE.take (i := 2) (v := ?_) rfl (by kernel_rfl) (by kernel_rfl) (by kernel_rfl) (by kernel_rfl) (fun _ _ _ h => h) (Or.inl ⟨by rfl, ?_⟩) (by assumption) ?_
  rotate_left 1
  · intro w hSw
    (try dsimp only at hSw)
    go_simp
    all_goals (with_reducible rfl)
  try simp only [Act.put, List.getElem_toArray, List.getElem_cons_zero, List.getElem_cons_succ, List.setIfInBounds_toArray, List.set_cons_zero, List.set_cons_succ]
  refine AnyE.next (rs := [3]) (by kernel_rfl) (by simp) ?_
  refine AllE.cons rfl (fun K hK => ?_) AllE.nil
  go_simp
  refine hK.out _ _ (⟨XV2.out.cell 0 rfl, XV2.out.cell 1 rfl, XV2.out.cell 2 rfl, XV2.out.cell 3 rfl, XV2.out.cell 4 rfl, XV2.out.cell 5 rfl, XV2.out.cell 6 rfl, XN2.out.cell 0 rfl, XN2.out.cell 1 rfl, XN2.out.cell 2 rfl, XN2.out.cell 3 rfl⟩) (fun hHeld => ?_)
  clear hK K
  try simp only [Act.put, List.getElem_toArray, List.getElem_cons_zero, List.getElem_cons_succ, List.setIfInBounds_toArray, List.set_cons_zero, List.set_cons_succ]
  refine AnyE.next (rs := [4]) (by kernel_rfl) (by simp) ?_
  refine AllE.cons rfl (fun K hK => ?_) AllE.nil
  go_simp
  refine hK.out _ _ (⟨XV3.out.cell 0 rfl, XV3.out.cell 1 rfl, XV3.out.cell 2 rfl, XV3.out.cell 3 rfl, XV3.out.cell 4 rfl, XV3.out.cell 5 rfl, XV3.out.cell 6 rfl, XN3.out.cell 0 rfl, XN3.out.cell 1 rfl, XN3.out.cell 2 rfl, XN3.out.cell 3 rfl⟩) (fun hHeld => ?_)
  clear hK K
  try simp only [Act.put, List.getElem_toArray, List.getElem_cons_zero, List.getElem_cons_succ, List.setIfInBounds_toArray, List.set_cons_zero, List.set_cons_succ]
  refine AnyE.take (i := 5) (v := ?_) rfl (by kernel_rfl) (by kernel_rfl) (by kernel_rfl) (by kernel_rfl) (fun _ _ _ h => h) (Or.inl ⟨by rfl, ?_⟩) (by assumption) ?_
  rotate_left 1
  · intro w hSw
    (try dsimp only at hSw)
    go_simp
    all_goals (with_reducible rfl)
  try simp only [Act.put, List.getElem_toArray, List.getElem_cons_zero, List.getElem_cons_succ, List.setIfInBounds_toArray, List.set_cons_zero, List.set_cons_succ]
  refine AnyE.next (rs := [6]) (by kernel_rfl) (by simp) ?_
  refine AllE.last rfl (fun K hK => ?_)
  go_simp
  refine hK.out _ _ ?_
  clear hK K
  try simp only [Act.put, List.getElem_toArray, List.getElem_cons_zero, List.getElem_cons_succ, List.setIfInBounds_toArray, List.set_cons_zero, List.set_cons_succ]
  refine AnyE.done (by kernel_rfl) ?_ _
  clear z0 z1 z2 z3 z4 z5 z6 zf r0 r1 r2 r3 rf
  have y0 := XT3.out.cell 0 rfl
  have y1 := XT3.out.cell 1 rfl
  have y2 := XT3.out.cell 2 rfl
  have y3 := XT3.out.cell 3 rfl
  have y4 := XT3.out.cell 4 rfl
  have y5 := XT3.out.cell 5 rfl
  have y6 := XT3.out.cell 6 rfl
  have x0 := XR3.out.cell 0 rfl
  have x1 := XR3.out.cell 1 rfl
  have x2 := XR3.out.cell 2 rfl
  have x3 := XR3.out.cell 3 rfl
  go_wp2
  exact bodyPost_ret (v := .tuple #[.agg #[.int .i64 (s1.num : Int), .int .i64 (s1.most : Int), .int .i64 (s1.epoch : Int), .int .i64 (s1.size : Int), .bool s1.shut, .slice l1 s1.idx.length c1, .slice d1 ps1.length e1], .agg #[.int .u64 0, .int .u32 0, .bool false, .slice none 0 0], .slice none 0 0, .int .i64 (q : Int)]) (by simp [results, Tryz.results30, go_sem, y0, y1, y2, y3, y4, y5, y6, x0, x1, x2, x3]) rfl ⟨_, _, ps1, _, _, _, _, _, _, _, rfl, XD3.out, XB3.out⟩
set_option maxRecDepth 100000 in
set_option maxHeartbeats 1000000 in
theorem rdo_4 (m : Int) (key cookie : Nat) (gone : Bool) (data : List UInt8) (x : Option Addr) (vL vc : Nat) (S : Nat → Prop) (s : Vst) (lv dv : Value) (ps : List (Ndl × Value)) (w : World) (h : DocP w S s lv dv ps) (hSw : ∀ b, S b → b < w.heap.size) :
    Calls Tryz.prog 30 #[dval s lv dv, .agg #[.int .i64 4, .int .i64 m, .int .u64 (key : Int), .int .u32 (cookie : Int), .bool gone, .slice x vL vc]] w (DoR w S (s.set m gone).1 (s.set m gone).2) := by
  obtain ⟨lx, lc, rfl, _, _⟩ := IsX.slice h.l
  obtain ⟨dx, dc, rfl, _, _⟩ := IsX.slice h.d.1
  have hpl : ps.length = s.ns.length := by rw [← h.ns, List.length_map]
  obtain ⟨I, hI⟩ : ∃ I, s.idx.length = I := ⟨_, rfl⟩
  obtain ⟨N, hN⟩ : ∃ N, ps.length = N := ⟨_, rfl⟩
  rw [hI, hN] at h ⊢
  have HB0 := Lib.hid (five_below w #[.int .i64 (s.num : Int), .int .i64 (s.most : Int), .int .i64 (s.epoch : Int), .int .i64 (s.size : Int), .bool s.shut, .slice lx I lc, .slice dx N dc] #[.int .i64 4, .int .i64 m, .int .u64 (key : Int), .int .u32 (cookie : Int), .bool gone, .slice x vL vc] #[.int .i64 0, .int .i64 0, .int .i64 0, .int .i64 0, .bool false, .slice none 0 0, .slice none 0 0] #[.int .u64 0, .int .u32 0, .bool false, .slice none 0 0] #[.int .u64 0, .int .u32 0, .bool false, .slice none 0 0] 30 86 30 47 47)
  have HD := Lib.hid (show DocP (((((w.alloc (.cells #[.int .i64 (s.num : Int), .int .i64 (s.most : Int), .int .i64 (s.epoch : Int), .int .i64 (s.size : Int), .bool s.shut, .slice lx I lc, .slice dx N dc] 30)).alloc (.cells #[.int .i64 4, .int .i64 m, .int .u64 (key : Int), .int .u32 (cookie : Int), .bool gone, .slice x vL vc] 86)).alloc (.cells #[.int .i64 0, .int .i64 0, .int .i64 0, .int .i64 0, .bool false, .slice none 0 0, .slice none 0 0] 30)).alloc (.cells #[.int .u64 0, .int .u32 0, .bool false, .slice none 0 0] 47)).alloc (.cells #[.int .u64 0, .int .u32 0, .bool false, .slice none 0 0] 47)) (fun b => S b ∨ (w.heap.size ≤ b ∧ b < w.heap.size + 5)) s (.slice lx I lc) (.slice dx N dc) ps from (h.kept (Kept.refl S w) (fun b hb => .inl hb) |>.kept (S' := (fun b => S b ∨ (w.heap.size ≤ b ∧ b < w.heap.size + 5))) (Kept.refl S w) (fun b hb => by rcases hb with hb | hb; exact .inl hb; exact .inr hb.1)).below HB0.out)
  have HS5 := Lib.hid (show ∀ b, (fun b => S b ∨ (w.heap.size ≤ b ∧ b < w.heap.size + 5)) b → b < (((((w.alloc (.cells #[.int .i64 (s.num : Int), .int .i64 (s.most : Int), .int .i64 (s.epoch : Int), .int .i64 (s.size : Int), .bool s.shut, .slice lx I lc, .slice dx N dc] 30)).alloc (.cells #[.int .i64 4, .int .i64 m, .int .u64 (key : Int), .int .u32 (cookie : Int), .bool gone, .slice x vL vc] 86)).alloc (.cells #[.int .i64 0, .int .i64 0, .int .i64 0, .int .i64 0, .bool false, .slice none 0 0, .slice none 0 0] 30)).alloc (.cells #[.int .u64 0, .int .u32 0, .bool false, .slice none 0 0] 47)).alloc (.cells #[.int .u64 0, .int .u32 0, .bool false, .slice none 0 0] 47)).heap.size from fun b hb => by
    simp
    rcases hb with hb | hb
    · have := hSw b hb; omega
    · omega)
  have HC := Lib.hid (set_r m gone (fun b => S b ∨ (w.heap.size ≤ b ∧ b < w.heap.size + 5)) s (.slice lx I lc) (.slice dx N dc) ps _ HD.out)
  obtain ⟨q, hq⟩ : ∃ q, (s.set m gone).2 = q := ⟨_, rfl⟩
  obtain ⟨s1, hs1⟩ : ∃ s1, (s.set m gone).1 = s1 := ⟨_, rfl⟩
  rw [hq, hs1] at HC ⊢
  have HSW := Lib.hid hSw
  clear h  hq hs1 hSw HD HS5 hI hN hpl
  go_enter Tryz.func30, Tryz.ntmps30
  go_wp2_with fail
  refine HC.out.mono ?_
  rintro e w2 ⟨lv1, dv1, ps1, rfl, hd, hb⟩
  obtain ⟨l1, c1, rfl, _, _⟩ := IsX.slice hd.l
  obtain ⟨d1, e1, rfl, _, _⟩ := IsX.slice hd.d.1
  obtain ⟨hV, hA, hT, hR, hZ, hB, hlt⟩ := five_facts hb
  have HV := Lib.hid hV
  have HA := Lib.hid hA
  have HT := Lib.hid hT
  have HR := Lib.hid hR
  have HZ := Lib.hid hZ
  have HBB := Lib.hid hB
  have HDD := Lib.hid hd
  clear hV hA hT hR hZ hB hb hd
  go_upto_region 25 with fail
  obtain ⟨wt, hwt⟩ : ∃ wt, (w2.alloc (.cells #[.int .i64 (s1.num : Int), .int .i64 (s1.most : Int), .int .i64 (s1.epoch : Int), .int .i64 (s1.size : Int), .bool s1.shut, .slice l1 s1.idx.length c1, .slice d1 ps1.length e1] 30)).drew = wt := ⟨_, rfl⟩
  obtain ⟨yV, yN, yT, yR, yB, yD⟩ := (show Blk (w2.alloc (.cells #[.int .i64 (s1.num : Int), .int .i64 (s1.most : Int), .int .i64 (s1.epoch : Int), .int .i64 (s1.size : Int), .bool s1.shut, .slice l1 s1.idx.length c1, .slice d1 ps1.length e1] 30)).drew w2.heap.size #[.int .i64 (s1.num : Int), .int .i64 (s1.most : Int), .int .i64 (s1.epoch : Int), .int .i64 (s1.size : Int), .bool s1.shut, .slice l1 s1.idx.length c1, .slice d1 ps1.length e1] 30 ∧ _ ∧ _ ∧ _ ∧ _ ∧ _ from ⟨(Blk.new w2 #[.int .i64 (s1.num : Int), .int .i64 (s1.most : Int), .int .i64 (s1.epoch : Int), .int .i64 (s1.size : Int), .bool s1.shut, .slice l1 s1.idx.length c1, .slice d1 ps1.length e1] 30).below ((Below.refl (w2.alloc (.cells #[.int .i64 (s1.num : Int), .int .i64 (s1.most : Int), .int .i64 (s1.epoch : Int), .int .i64 (s1.size : Int), .bool s1.shut, .slice l1 s1.idx.length c1, .slice d1 ps1.length e1] 30)).heap.size (w2.alloc (.cells #[.int .i64 (s1.num : Int), .int .i64 (s1.most : Int), .int .i64 (s1.epoch : Int), .int .i64 (s1.size : Int), .bool s1.shut, .slice l1 s1.idx.length c1, .slice d1 ps1.length e1] 30))).drew) (Blk.new w2 #[.int .i64 (s1.num : Int), .int .i64 (s1.most : Int), .int .i64 (s1.epoch : Int), .int .i64 (s1.size : Int), .bool s1.shut, .slice l1 s1.idx.length c1, .slice d1 ps1.length e1] 30).lt, HZ.out.below ((Below.refl w2.heap.size w2).alloc (Nat.le_refl _) (.cells #[.int .i64 (s1.num : Int), .int .i64 (s1.most : Int), .int .i64 (s1.epoch : Int), .int .i64 (s1.size : Int), .bool s1.shut, .slice l1 s1.idx.length c1, .slice d1 ps1.length e1] 30)).drew HZ.out.lt, HT.out.below ((Below.refl w2.heap.size w2).alloc (Nat.le_refl _) (.cells #[.int .i64 (s1.num : Int), .int .i64 (s1.most : Int), .int .i64 (s1.epoch : Int), .int .i64 (s1.size : Int), .bool s1.shut, .slice l1 s1.idx.length c1, .slice d1 ps1.length e1] 30)).drew HT.out.lt, HR.out.below ((Below.refl w2.heap.size w2).alloc (Nat.le_refl _) (.cells #[.int .i64 (s1.num : Int), .int .i64 (s1.most : Int), .int .i64 (s1.epoch : Int), .int .i64 (s1.size : Int), .bool s1.shut, .slice l1 s1.idx.length c1, .slice d1 ps1.length e1] 30)).drew HR.out.lt, (HBB.out.alloc HBB.out.size (.cells #[.int .i64 (s1.num : Int), .int .i64 (s1.most : Int), .int .i64 (s1.epoch : Int), .int .i64 (s1.size : Int), .bool s1.shut, .slice l1 s1.idx.length c1, .slice d1 ps1.length e1] 30)).drew, HDD.out.below (((Below.refl w2.heap.size w2).alloc (Nat.le_refl _) (.cells #[.int .i64 (s1.num : Int), .int .i64 (s1.most : Int), .int .i64 (s1.epoch : Int), .int .i64 (s1.size : Int), .bool s1.shut, .slice l1 s1.idx.length c1, .slice d1 ps1.length e1] 30)).drew)⟩)
  rw [hwt] at yV yN yT yR yB yD
  have XV := Lib.hid yV
  have XN := Lib.hid yN
  have XT := Lib.hid yT
  have XR := Lib.hid yR
  have XB := Lib.hid yB
  have XD := Lib.hid yD
  clear yV yN yT yR yB yD
  have n1 : w.heap.size + 1 + 1 ≠ w2.heap.size := by omega
  have n2 : w.heap.size + 1 + 1 ≠ w.heap.size + 1 + 1 + 1 + 1 := by omega
  have n3 : w.heap.size + 1 + 1 + 1 ≠ w2.heap.size := by omega
  have n4 : w.heap.size + 1 + 1 + 1 ≠ w.heap.size + 1 + 1 + 1 + 1 := by omega
  have n5 : w.heap.size + 1 + 1 ≠ w.heap.size + 1 + 1 + 1 := by omega
  have n6 : w.heap.size + 1 + 1 + 1 ≠ w.heap.size + 1 + 1 := by omega
  have XV2 := Lib.hid (XV.out.other7 n1 (.int .i64 (s1.num : Int)) (.int .i64 (s1.most : Int)) (.int .i64 (s1.epoch : Int)) (.int .i64 (s1.size : Int)) (.bool s1.shut) (.slice l1 s1.idx.length c1) (.slice d1 ps1.length e1))
  have XN2 := Lib.hid (XN.out.other7 n2 (.int .i64 (s1.num : Int)) (.int .i64 (s1.most : Int)) (.int .i64 (s1.epoch : Int)) (.int .i64 (s1.size : Int)) (.bool s1.shut) (.slice l1 s1.idx.length c1) (.slice d1 ps1.length e1))
  have XR2 := Lib.hid (XR.out.other7 n5 (.int .i64 (s1.num : Int)) (.int .i64 (s1.most : Int)) (.int .i64 (s1.epoch : Int)) (.int .i64 (s1.size : Int)) (.bool s1.shut) (.slice l1 s1.idx.length c1) (.slice d1 ps1.length e1))
  have XT2 := Lib.hid (blk_set7 XT.out (.int .i64 (s1.num : Int)) (.int .i64 (s1.most : Int)) (.int .i64 (s1.epoch : Int)) (.int .i64 (s1.size : Int)) (.bool s1.shut) (.slice l1 s1.idx.length c1) (.slice d1 ps1.length e1))
  have XV3 := Lib.hid (XV2.out.other4 n3 (.int .u64 0) (.int .u32 0) (.bool false) (.slice none 0 0))
  have XN3 := Lib.hid (XN2.out.other4 n4 (.int .u64 0) (.int .u32 0) (.bool false) (.slice none 0 0))
  have XT3 := Lib.hid (XT2.out.other4 n6 (.int .u64 0) (.int .u32 0) (.bool false) (.slice none 0 0))
  have XR3 := Lib.hid (blk_set4 XR2.out (.int .u64 0) (.int .u32 0) (.bool false) (.slice none 0 0))
  have XB3 := Lib.hid (below_set4 (g := w.heap.size + 1 + 1 + 1) (u0 := .int .u64 0) (u1 := .int .u32 0) (u2 := .bool false) (u3 := .slice none 0 0) (below_set7 (g := w.heap.size + 1 + 1) (u0 := .int .i64 (s1.num : Int)) (u1 := .int .i64 (s1.most : Int)) (u2 := .int .i64 (s1.epoch : Int)) (u3 := .int .i64 (s1.size : Int)) (u4 := .bool s1.shut) (u5 := .slice l1 s1.idx.length c1) (u6 := .slice d1 ps1.length e1) XB.out (by omega)) (show w.heap.size ≤ w.heap.size + 1 + 1 + 1 by omega))
  have XD3 := Lib.hid ((XD.out.kept (S' := (fun b => S b ∨ (w.heap.size ≤ b ∧ b < w.heap.size + 5))) (((kept_set7 wt (w.heap.size + 1 + 1) (.int .i64 (s1.num : Int)) (.int .i64 (s1.most : Int)) (.int .i64 (s1.epoch : Int)) (.int .i64 (s1.size : Int)) (.bool s1.shut) (.slice l1 s1.idx.length c1) (.slice d1 ps1.length e1)).mono (fun j _ hj => by subst hj; exact .inr ⟨by omega, by omega⟩)).trans ((kept_set4 _ (w.heap.size + 1 + 1 + 1) (.int .u64 0) (.int .u32 0) (.bool false) (.slice none 0 0)).mono (fun j _ hj => by subst hj; exact .inr ⟨by omega, by omega⟩)) (fun _ h _ => h)) (fun b hb => .inl hb)).kept (S' := S) (Kept.refl (fun b => S b ∨ (w.heap.size ≤ b ∧ b < w.heap.size + 5)) _) (fun b hb => .inl (.inl hb)))
  clear n1 n2 n3 n4 n5 n6
  have z0 := XT.out.cell 0 rfl
  have z1 := XT.out.cell 1 rfl
  have z2 := XT.out.cell 2 rfl
  have z3 := XT.out.cell 3 rfl
  have z4 := XT.out.cell 4 rfl
  have z5 := XT.out.cell 5 rfl
  have z6 := XT.out.cell 6 rfl
  have zf := fun j => XT.out.free j
  have r0 := XR2.out.cell 0 rfl
  have r1 := XR2.out.cell 1 rfl
  have r2 := XR2.out.cell 2 rfl
  have r3 := XR2.out.cell 3 rfl
  have rf := fun j => XR2.out.free j
  unfold set7 at XV2 XN2 XT2 XV3 XN3 XT3 XR3 XB3 XD3 r0 r1 r2 r3 rf
  unfold set4 at XV3 XN3 XT3 XR3 XB3 XD3
  refine AnyE.start (S := (fun wx => wx.cell? ⟨w2.heap.size, 0, none⟩ = some (.int .i64 (s1.num : Int)) ∧ wx.cell? ⟨w2.heap.size, 1, none⟩ = some (.int .i64 (s1.most : Int)) ∧ wx.cell? ⟨w2.heap.size, 2, none⟩ = some (.int .i64 (s1.epoch : Int)) ∧ wx.cell? ⟨w2.heap.size, 3, none⟩ = some (.int .i64 (s1.size : Int)) ∧ wx.cell? ⟨w2.heap.size, 4, none⟩ = some (.bool s1.shut) ∧ wx.cell? ⟨w2.heap.size, 5, none⟩ = some (.slice l1 s1.idx.length c1) ∧ wx.cell? ⟨w2.heap.size, 6, none⟩ = some (.slice d1 ps1.length e1) ∧ wx.cell? ⟨w.heap.size + 1 + 1 + 1 + 1, 0, none⟩ = some (.int .u64 0) ∧ wx.cell? ⟨w.heap.size + 1 + 1 + 1 + 1, 1, none⟩ = some (.int .u32 0) ∧ wx.cell? ⟨w.heap.size + 1 + 1 + 1 + 1, 2, none⟩ = some (.bool false) ∧ wx.cell? ⟨w.heap.size + 1 + 1 + 1 + 1, 3, none⟩ = some (.slice none 0 0))) 6 (by kernel_rfl) (by rw [hwt]; exact ⟨XV.out.cell 0 rfl, XV.out.cell 1 rfl, XV.out.cell 2 rfl, XV.out.cell 3 rfl, XV.out.cell 4 rfl, XV.out.cell 5 rfl, XV.out.cell 6 rfl, XN.out.cell 0 rfl, XN.out.cell 1 rfl, XN.out.cell 2 rfl, XN.out.cell 3 rfl⟩) (fun hHeld => ?_)
  rw [hwt] at hHeld
  rw [hwt]
  clear hwt
  refine AnyE.take (i := 0) (v := ?_) rfl (by kernel_rfl) (by kernel_rfl) (by kernel_rfl) (by kernel_rfl) (fun _ _ _ h => h) (Or.inl ⟨by rfl, ?_⟩) (by assumption) ?_
  rotate_left 1
  · intro w hSw
    (try dsimp only at hSw)
    go_simp
    all_goals (with_reducible rfl)
  try simp only [Act.put, List.getElem_toArray, List.getElem_cons_zero, List.getElem_cons_succ, List.setIfInBounds_toArray, List.set_cons_zero, List.set_cons_succ]
  refine AnyE.take (i := 1) (v := ?_) rfl (by kernel_rfl) (by kernel_rfl) (by kernel_rfl) (by kernel_rfl) (fun _ _ _ h => h) (Or.inl ⟨by rfl, ?_⟩) (by assumption) ?_
  rotate_left 1
  · intro w hSw
    (try dsimp only at hSw)
    go_simp
    all_goals (with_reducible rfl)
  try simp only [Act.put, List.getElem_toArray, List.getElem_cons_zero, List.getElem_cons_succ, List.setIfInBounds_toArray, List.set_cons_zero, List.set_cons_succ]
  refine AnyE.take (i := 2) (v := ?_) rfl (by kernel_rfl) (by kernel_rfl) (by kernel_rfl) (by kernel_rfl) (fun _ _ _ h => h) (Or.inl ⟨by rfl, ?_⟩) (by assumption) ?_
  rotate_left 1
  · intro w hSw
    (try dsimp only at hSw)
    go_simp
    all_goals (with_reducible rfl)
  try simp only [Act.put, List.getElem_toArray, List.getElem_cons_zero, List.getElem_cons_succ, List.setIfInBounds_toArray, List.set_cons_zero, List.set_cons_succ]
  refine AnyE.next (rs := [3]) (by kernel_rfl) (by simp) ?_
  refine AllE.cons rfl (fun K hK => ?_) AllE.nil
  go_simp
  refine hK.out _ _ (⟨XV2.out.cell 0 rfl, XV2.out.cell 1 rfl, XV2.out.cell 2 rfl, XV2.out.cell 3 rfl, XV2.out.cell 4 rfl, XV2.out.cell 5 rfl, XV2.out.cell 6 rfl, XN2.out.cell 0 rfl, XN2.out.cell 1 rfl, XN2.out.cell 2 rfl, XN2.out.cell 3 rfl⟩) (fun hHeld => ?_)
  clear hK K
  try simp only [Act.put, List.getElem_toArray, List.getElem_cons_zero, List.getElem_cons_succ, List.setIfInBounds_toArray, List.set_cons_zero, List.set_cons_succ]
  refine AnyE.next (rs := [4]) (by kernel_rfl) (by simp) ?_
  refine AllE.cons rfl (fun K hK => ?_) AllE.nil
  go_simp
  refine hK.out _ _ (⟨XV3.out.cell 0 rfl, XV3.out.cell 1 rfl, XV3.out.cell 2 rfl, XV3.out.cell 3 rfl, XV3.out.cell 4 rfl, XV3.out.cell 5 rfl, XV3.out.cell 6 rfl, XN3.out.cell 0 rfl, XN3.out.cell 1 rfl, XN3.out.cell 2 rfl, XN3.out.cell 3 rfl⟩) (fun hHeld => ?_)
  clear hK K
  try simp only [Act.put, List.getElem_toArray, List.getElem_cons_zero, List.getElem_cons_succ, List.setIfInBounds_toArray, List.set_cons_zero, List.set_cons_succ]
  refine AnyE.take (i := 5) (v := ?_) rfl (by kernel_rfl) (by kernel_rfl) (by kernel_rfl) (by kernel_rfl) (fun _ _ _ h => h) (Or.inl ⟨by rfl, ?_⟩) (by assumption) ?_
  rotate_left 1
  · intro w hSw
    (try dsimp only at hSw)
    go_simp
    all_goals (with_reducible rfl)
  try simp only [Act.put, List.getElem_toArray, List.getElem_cons_zero, List.getElem_cons_succ, List.setIfInBounds_toArray, List.set_cons_zero, List.set_cons_succ]
  refine AnyE.next (rs := [6]) (by kernel_rfl) (by simp) ?_
  refine AllE.last rfl (fun K hK => ?_)
  go_simp
  refine hK.out _ _ ?_
  clear hK K
  try simp only [Act.put, List.getElem_toArray, List.getElem_cons_zero, List.getElem_cons_succ, List.setIfInBounds_toArray, List.set_cons_zero, List.set_cons_succ]
  refine AnyE.done (by kernel_rfl) ?_ _
  clear z0 z1 z2 z3 z4 z5 z6 zf r0 r1 r2 r3 rf
  have y0 := XT3.out.cell 0 rfl
  have y1 := XT3.out.cell 1 rfl
  have y2 := XT3.out.cell 2 rfl
  have y3 := XT3.out.cell 3 rfl
  have y4 := XT3.out.cell 4 rfl
  have y5 := XT3.out.cell 5 rfl
  have y6 := XT3.out.cell 6 rfl
  have x0 := XR3.out.cell 0 rfl
  have x1 := XR3.out.cell 1 rfl
  have x2 := XR3.out.cell 2 rfl
  have x3 := XR3.out.cell 3 rfl
  go_wp2
  exact bodyPost_ret (v := .tuple #[.agg #[.int .i64 (s1.num : Int), .int .i64 (s1.most : Int), .int .i64 (s1.epoch : Int), .int .i64 (s1.size : Int), .bool s1.shut, .slice l1 s1.idx.length c1, .slice d1 ps1.length e1], .agg #[.int .u64 0, .int .u32 0, .bool false, .slice none 0 0], .slice none 0 0, .int .i64 (q : Int)]) (by simp [results, Tryz.results30, go_sem, y0, y1, y2, y3, y4, y5, y6, x0, x1, x2, x3]) rfl ⟨_, _, ps1, _, _, _, _, _, _, _, rfl, XD3.out, XB3.out⟩
set_option maxRecDepth 100000 in
set_option maxHeartbeats 1000000 in
theorem rdo_2f (m : Int) (key cookie : Nat) (gone : Bool) (data : List UInt8) (x : Option Addr) (vL vc : Nat) (S : Nat → Prop) (s : Vst) (lv dv : Value) (ps : List (Ndl × Value)) (w : World) (h : DocP w S s lv dv ps) (hSw : ∀ b, S b → b < w.heap.size) (hf : s.ns.length < 4095) (hq0 : s.look key cookie ≠ 0) :
    Calls Tryz.prog 30 #[dval s lv dv, .agg #[.int .i64 2, .int .i64 m, .int .u64 (key : Int), .int .u32 (cookie : Int), .bool gone, .slice x vL vc]] w (DoR w S s (s.look key cookie)) := by
  obtain ⟨lx, lc, rfl, _, _⟩ := IsX.slice h.l
  obtain ⟨dx, dc, rfl, _, _⟩ := IsX.slice h.d.1
  have hpl : ps.length = s.ns.length := by rw [← h.ns, List.length_map]
  obtain ⟨I, hI⟩ : ∃ I, s.idx.length = I := ⟨_, rfl⟩
  obtain ⟨N, hN⟩ : ∃ N, ps.length = N := ⟨_, rfl⟩
  have hPL : ps.length ≤ 1048576 := by omega
  rw [hI, hN] at h ⊢
  have HB0 := Lib.hid (five_below w #[.int .i64 (s.num : Int), .int .i64 (s.most : Int), .int .i64 (s.epoch : Int), .int .i64 (s.size : Int), .bool s.shut, .slice lx I lc, .slice dx N dc] #[.int .i64 2, .int .i64 m, .int .u64 (key : Int), .int .u32 (cookie : Int), .bool gone, .slice x vL vc] #[.int .i64 0, .int .i64 0, .int .i64 0, .int .i64 0, .bool false, .slice none 0 0, .slice none 0 0] #[.int .u64 0, .int .u32 0, .bool false, .slice none 0 0] #[.int .u64 0, .int .u32 0, .bool false, .slice none 0 0] 30 86 30 47 47)
  have HD := Lib.hid (show DocP (((((w.alloc (.cells #[.int .i64 (s.num : Int), .int .i64 (s.most : Int), .int .i64 (s.epoch : Int), .int .i64 (s.size : Int), .bool s.shut, .slice lx I lc, .slice dx N dc] 30)).alloc (.cells #[.int .i64 2, .int .i64 m, .int .u64 (key : Int), .int .u32 (cookie : Int), .bool gone, .slice x vL vc] 86)).alloc (.cells #[.int .i64 0, .int .i64 0, .int .i64 0, .int .i64 0, .bool false, .slice none 0 0, .slice none 0 0] 30)).alloc (.cells #[.int .u64 0, .int .u32 0, .bool false, .slice none 0 0] 47)).alloc (.cells #[.int .u64 0, .int .u32 0, .bool false, .slice none 0 0] 47)) (fun b => S b ∨ (w.heap.size ≤ b ∧ b < w.heap.size + 5)) s (.slice lx I lc) (.slice dx N dc) ps from (h.kept (Kept.refl S w) (fun b hb => .inl hb) |>.kept (S' := (fun b => S b ∨ (w.heap.size ≤ b ∧ b < w.heap.size + 5))) (Kept.refl S w) (fun b hb => by rcases hb with hb | hb; exact .inl hb; exact .inr hb.1)).below HB0.out)
  have HC := Lib.hid (look_r key cookie (fun b => S b ∨ (w.heap.size ≤ b ∧ b < w.heap.size + 5)) s (.slice lx I lc) (.slice dx N dc) ps _ HD.out hPL)
  have HNW := Lib.hid (fun wx (hd : DocP wx (fun b => S b ∨ (w.heap.size ≤ b ∧ b < w.heap.size + 5)) s (.slice lx I lc) (.slice dx N dc) ps) => newest_r key (fun b => S b ∨ (w.heap.size ≤ b ∧ b < w.heap.size + 5)) s (.slice lx I lc) (.slice dx N dc) ps wx hd hPL)
  obtain ⟨q, hq⟩ : ∃ q, s.look key cookie = q := ⟨_, rfl⟩
  rw [hq] at HC hq0 ⊢
  have hq1 : ((q : Int) == 0) = false := by simp; omega
  have hq2 : (q : Int) ≠ 0 := by omega
  clear hq
  clear h hf hq0 hI hN hpl hSw hPL
  go_enter Tryz.func30, Tryz.ntmps30
  go_wp2_with fail
  refine HC.out.mono ?_
  rintro e w2 ⟨rfl, hb⟩
  have HDD := Lib.hid (HD.out.below (hb.mono (Nat.le_refl _)))
  obtain ⟨hV, hA, hT, hR, hZ, hB, hlt⟩ := five_facts hb
  have HV := Lib.hid hV
  have HA := Lib.hid hA
  have HT := Lib.hid hT
  have HR := Lib.hid hR
  have HZ := Lib.hid hZ
  have HBB := Lib.hid hB
  have HB2 := Lib.hid hb
  clear hV hA hT hR hZ hB hb
  go_upto_region 12 with fail
  obtain ⟨wt, hwt⟩ : ∃ wt, (w2).drew = wt := ⟨_, rfl⟩
  obtain ⟨yV, yN, yT, yR, yB, yD⟩ := (show Blk (w2).drew w.heap.size #[.int .i64 (s.num : Int), .int .i64 (s.most : Int), .int .i64 (s.epoch : Int), .int .i64 (s.size : Int), .bool s.shut, .slice lx I lc, .slice dx N dc] 30 ∧ Blk (w2).drew (w.heap.size + 1 + 1 + 1 + 1) #[.int .u64 0, .int .u32 0, .bool false, .slice none 0 0] 47 ∧ _ ∧ _ ∧ _ ∧ _ from ⟨HV.out.below (Below.refl w2.heap.size w2).drew HV.out.lt, HZ.out.below (Below.refl w2.heap.size w2).drew HZ.out.lt, HT.out.below (Below.refl w2.heap.size w2).drew HT.out.lt, HR.out.below (Below.refl w2.heap.size w2).drew HR.out.lt, HBB.out.trans (((Below.refl w2.heap.size w2).drew).mono HBB.out.size), HDD.out.below (Below.refl w2.heap.size w2).drew⟩)
  rw [hwt] at yV yN yT yR yB yD
  have XV := Lib.hid yV
  have XN := Lib.hid yN
  have XT := Lib.hid yT
  have XR := Lib.hid yR
  have XB := Lib.hid yB
  have XD := Lib.hid yD
  clear yV yN yT yR yB yD
  have n1 : w.heap.size + 1 + 1 ≠ w.heap.size := by omega
  have n2 : w.heap.size + 1 + 1 ≠ w.heap.size + 1 + 1 + 1 + 1 := by omega
  have n3 : w.heap.size + 1 + 1 + 1 ≠ w.heap.size := by omega
  have n4 : w.heap.size + 1 + 1 + 1 ≠ w.heap.size + 1 + 1 + 1 + 1 := by omega
  have n5 : w.heap.size + 1 + 1 ≠ w.heap.size + 1 + 1 + 1 := by omega
  have n6 : w.heap.size + 1 + 1 + 1 ≠ w.heap.size + 1 + 1 := by omega
  have XV2 := Lib.hid (XV.out.other7 n1 (.int .i64 (s.num : Int)) (.int .i64 (s.most : Int)) (.int .i64 (s.epoch : Int)) (.int .i64 (s.size : Int)) (.bool s.shut) (.slice lx I lc) (.slice dx N dc))
  have XN2 := Lib.hid (XN.out.other7 n2 (.int .i64 (s.num : Int)) (.int .i64 (s.most : Int)) (.int .i64 (s.epoch : Int)) (.int .i64 (s.size : Int)) (.bool s.shut) (.slice lx I lc) (.slice dx N dc))
  have XR2 := Lib.hid (XR.out.other7 n5 (.int .i64 (s.num : Int)) (.int .i64 (s.most : Int)) (.int .i64 (s.epoch : Int)) (.int .i64 (s.size : Int)) (.bool s.shut) (.slice lx I lc) (.slice dx N dc))
  have XT2 := Lib.hid (blk_set7 XT.out (.int .i64 (s.num : Int)) (.int .i64 (s.most : Int)) (.int .i64 (s.epoch : Int)) (.int .i64 (s.size : Int)) (.bool s.shut) (.slice lx I lc) (.slice dx N dc))
  have XV3 := Lib.hid (XV2.out.other4 n3 (.int .u64 0) (.int .u32 0) (.bool false) (.slice none 0 0))
  have XN3 := Lib.hid (XN2.out.other4 n4 (.int .u64 0) (.int .u32 0) (.bool false) (.slice none 0 0))
  have XT3 := Lib.hid (XT2.out.other4 n6 (.int .u64 0) (.int .u32 0) (.bool false) (.slice none 0 0))
  have XR3 := Lib.hid (blk_set4 XR2.out (.int .u64 0) (.int .u32 0) (.bool false) (.slice none 0 0))
  have XB3 := Lib.hid (below_set4 (g := w.heap.size + 1 + 1 + 1) (u0 := .int .u64 0) (u1 := .int .u32 0) (u2 := .bool false) (u3 := .slice none 0 0) (below_set7 (g := w.heap.size + 1 + 1) (u0 := .int .i64 (s.num : Int)) (u1 := .int .i64 (s.most : Int)) (u2 := .int .i64 (s.epoch : Int)) (u3 := .int .i64 (s.size : Int)) (u4 := .bool s.shut) (u5 := .slice lx I lc) (u6 := .slice dx N dc) XB.out (by omega)) (show w.heap.size ≤ w.heap.size + 1 + 1 + 1 by omega))
  have XD3 := Lib.hid ((XD.out.kept (S' := (fun b => S b ∨ (w.heap.size ≤ b ∧ b < w.heap.size + 5))) (((kept_set7 wt (w.heap.size + 1 + 1) (.int .i64 (s.num : Int)) (.int .i64 (s.most : Int)) (.int .i64 (s.epoch : Int)) (.int .i64 (s.size : Int)) (.bool s.shut) (.slice lx I lc) (.slice dx N dc)).mono (fun j _ hj => by subst hj; exact .inr ⟨by omega, by omega⟩)).trans ((kept_set4 _ (w.heap.size + 1 + 1 + 1) (.int .u64 0) (.int .u32 0) (.bool false) (.slice none 0 0)).mono (fun j _ hj => by subst hj; exact .inr ⟨by omega, by omega⟩)) (fun _ h _ => h)) (fun b hb => .inl hb)).kept (S' := S) (Kept.refl (fun b => S b ∨ (w.heap.size ≤ b ∧ b < w.heap.size + 5)) _) (fun b hb => .inl (.inl hb)))
  clear n1 n2 n3 n4 n5 n6
  have z0 := XT.out.cell 0 rfl
  have z1 := XT.out.cell 1 rfl
  have z2 := XT.out.cell 2 rfl
  have z3 := XT.out.cell 3 rfl
  have z4 := XT.out.cell 4 rfl
  have z5 := XT.out.cell 5 rfl
  have z6 := XT.out.cell 6 rfl
  have zf := fun j => XT.out.free j
  have r0 := XR2.out.cell 0 rfl
  have r1 := XR2.out.cell 1 rfl
  have r2 := XR2.out.cell 2 rfl
  have r3 := XR2.out.cell 3 rfl
  have rf := fun j => XR2.out.free j
  unfold set7 at XV2 XN2 XT2 XV3 XN3 XT3 XR3 XB3 XD3 r0 r1 r2 r3 rf
  unfold set4 at XV3 XN3 XT3 XR3 XB3 XD3
  refine AnyE.start (S := (fun wx => wx.cell? ⟨w.heap.size, 0, none⟩ = some (.int .i64 (s.num : Int)) ∧ wx.cell? ⟨w.heap.size, 1, none⟩ = some (.int .i64 (s.most : Int)) ∧ wx.cell? ⟨w.heap.size, 2, none⟩ = some (.int .i64 (s.epoch : Int)) ∧ wx.cell? ⟨w.heap.size, 3, none⟩ = some (.int .i64 (s.size : Int)) ∧ wx.cell? ⟨w.heap.size, 4, none⟩ = some (.bool s.shut) ∧ wx.cell? ⟨w.heap.size, 5, none⟩ = some (.slice lx I lc) ∧ wx.cell? ⟨w.heap.size, 6, none⟩ = some (.slice dx N dc) ∧ wx.cell? ⟨w.heap.size + 1 + 1 + 1 + 1, 0, none⟩ = some (.int .u64 0) ∧ wx.cell? ⟨w.heap.size + 1 + 1 + 1 + 1, 1, none⟩ = some (.int .u32 0) ∧ wx.cell? ⟨w.heap.size + 1 + 1 + 1 + 1, 2, none⟩ = some (.bool false) ∧ wx.cell? ⟨w.heap.size + 1 + 1 + 1 + 1, 3, none⟩ = some (.slice none 0 0))) 6 (by kernel_rfl) (by rw [hwt]; exact ⟨XV.out.cell 0 rfl, XV.out.cell 1 rfl, XV.out.cell 2 rfl, XV.out.cell 3 rfl, XV.out.cell 4 rfl, XV.out.cell 5 rfl, XV.out.cell 6 rfl, XN.out.cell 0 rfl, XN.out.cell 1 rfl, XN.out.cell 2 rfl, XN.out.cell 3 rfl⟩) (fun hHeld => ?_)
  rw [hwt] at hHeld
  rw [hwt]
  clear hwt
  refine AnyE.take (i := 0) (v := ?_) rfl (by kernel_rfl) (by kernel_rfl) (by kernel_rfl) (by kernel_rfl) (fun _ _ _ h => h) (Or.inl ⟨by rfl, ?_⟩) (by assumption) ?_
  rotate_left 1
  · intro w hSw
    (try dsimp only at hSw)
    go_simp
    all_goals (with_reducible rfl)
  try simp only [Act.put, List.getElem_toArray, List.getElem_cons_zero, List.getElem_cons_succ, List.setIfInBounds_toArray, List.set_cons_zero, List.set_cons_succ]
  refine AnyE.take (i := 1) (v := ?_) rfl (by kernel_rfl) (by kernel_rfl) (by kernel_rfl) (by kernel_rfl) (fun _ _ _ h => h) (Or.inl ⟨by rfl, ?_⟩) (by assumption) ?_
  rotate_left 1
  · intro w hSw
    (try dsimp only at hSw)
    go_simp
    all_goals (with_reducible rfl)
  try simp only [Act.put, List.getElem_toArray, List.getElem_cons_zero, List.getElem_cons_succ, List.setIfInBounds_toArray, List.set_cons_zero, List.set_cons_succ]
  refine AnyE.take (i := 2) (v := ?_) rfl (by kernel_rfl) (by kernel_rfl) (by kernel_rfl) (by kernel_rfl) (fun _ _ _ h => h) (Or.inl ⟨by rfl, ?_⟩) (by assumption) ?_
  rotate_left 1
  · intro w hSw
    (try dsimp only at hSw)
    go_simp
    all_goals (with_reducible rfl)
  try simp only [Act.put, List.getElem_toArray, List.getElem_cons_zero, List.getElem_cons_succ, List.setIfInBounds_toArray, List.set_cons_zero, List.set_cons_succ]
  refine AnyE.next (rs := [3]) (by kernel_rfl) (by simp) ?_
  refine AllE.cons rfl (fun K hK => ?_) AllE.nil
  go_simp
  refine hK.out _ _ (⟨XV2.out.cell 0 rfl, XV2.out.cell 1 rfl, XV2.out.cell 2 rfl, XV2.out.cell 3 rfl, XV2.out.cell 4 rfl, XV2.out.cell 5 rfl, XV2.out.cell 6 rfl, XN2.out.cell 0 rfl, XN2.out.cell 1 rfl, XN2.out.cell 2 rfl, XN2.out.cell 3 rfl⟩) (fun hHeld => ?_)
  clear hK K
  try simp only [Act.put, List.getElem_toArray, List.getElem_cons_zero, List.getElem_cons_succ, List.setIfInBounds_toArray, List.set_cons_zero, List.set_cons_succ]
  refine AnyE.next (rs := [4]) (by kernel_rfl) (by simp) ?_
  refine AllE.cons rfl (fun K hK => ?_) AllE.nil
  go_simp
  refine hK.out _ _ (⟨XV3.out.cell 0 rfl, XV3.out.cell 1 rfl, XV3.out.cell 2 rfl, XV3.out.cell 3 rfl, XV3.out.cell 4 rfl, XV3.out.cell 5 rfl, XV3.out.cell 6 rfl, XN3.out.cell 0 rfl, XN3.out.cell 1 rfl, XN3.out.cell 2 rfl, XN3.out.cell 3 rfl⟩) (fun hHeld => ?_)
  clear hK K
  try simp only [Act.put, List.getElem_toArray, List.getElem_cons_zero, List.getElem_cons_succ, List.setIfInBounds_toArray, List.set_cons_zero, List.set_cons_succ]
  refine AnyE.take (i := 5) (v := ?_) rfl (by kernel_rfl) (by kernel_rfl) (by kernel_rfl) (by kernel_rfl) (fun _ _ _ h => h) (Or.inl ⟨by rfl, ?_⟩) (by assumption) ?_
  rotate_left 1
  · intro w hSw
    (try dsimp only at hSw)
    go_simp
    all_goals (with_reducible rfl)
  try simp only [Act.put, List.getElem_toArray, List.getElem_cons_zero, List.getElem_cons_succ, List.setIfInBounds_toArray, List.set_cons_zero, List.set_cons_succ]
  refine AnyE.next (rs := [6]) (by kernel_rfl) (by simp) ?_
  refine AllE.last rfl (fun K hK => ?_)
  go_simp
  refine hK.out _ _ ?_
  clear hK K
  try simp only [Act.put, List.getElem_toArray, List.getElem_cons_zero, List.getElem_cons_succ, List.setIfInBounds_toArray, List.set_cons_zero, List.set_cons_succ]
  refine AnyE.done (by kernel_rfl) ?_ _
  clear z0 z1 z2 z3 z4 z5 z6 zf r0 r1 r2 r3 rf
  have y0 := XT3.out.cell 0 rfl
  have y1 := XT3.out.cell 1 rfl
  have y2 := XT3.out.cell 2 rfl
  have y3 := XT3.out.cell 3 rfl
  have y4 := XT3.out.cell 4 rfl
  have y5 := XT3.out.cell 5 rfl
  have y6 := XT3.out.cell 6 rfl
  have x0 := XR3.out.cell 0 rfl
  have x1 := XR3.out.cell 1 rfl
  have x2 := XR3.out.cell 2 rfl
  have x3 := XR3.out.cell 3 rfl
  go_wp2
  exact bodyPost_ret (v := .tuple #[.agg #[.int .i64 (s.num : Int), .int .i64 (s.most : Int), .int .i64 (s.epoch : Int), .int .i64 (s.size : Int), .bool s.shut, .slice lx I lc, .slice dx N dc], .agg #[.int .u64 0, .int .u32 0, .bool false, .slice none 0 0], .slice none 0 0, .int .i64 (q : Int)]) (by simp [results, Tryz.results30, go_sem, y0, y1, y2, y3, y4, y5, y6, x0, x1, x2, x3]) rfl ⟨_, _, ps, _, _, _, _, _, _, _, rfl, XD3.out, XB3.out⟩
set_option maxRecDepth 100000 in
set_option maxHeartbeats 1000000 in
theorem rdo_2t (m : Int) (key cookie : Nat) (gone : Bool) (data : List UInt8) (x : Option Addr) (vL vc : Nat) (S : Nat → Prop) (s : Vst) (lv dv : Value) (ps : List (Ndl × Value)) (w : World) (h : DocP w S s lv dv ps) (hSw : ∀ b, S b → b < w.heap.size) (hf : s.ns.length < 4095) (hq0 : s.look key cookie = 0) :
    Calls Tryz.prog 30 #[dval s lv dv, .agg #[.int .i64 2, .int .i64 m, .int .u64 (key : Int), .int .u32 (cookie : Int), .bool gone, .slice x vL vc]] w (DoR w S s 0) := by
  obtain ⟨lx, lc, rfl, _, _⟩ := IsX.slice h.l
  obtain ⟨dx, dc, rfl, _, _⟩ := IsX.slice h.d.1
  have hpl : ps.length = s.ns.length := by rw [← h.ns, List.length_map]
  obtain ⟨I, hI⟩ : ∃ I, s.idx.length = I := ⟨_, rfl⟩
  obtain ⟨N, hN⟩ : ∃ N, ps.length = N := ⟨_, rfl⟩
  have hPL : ps.length ≤ 1048576 := by omega
  rw [hI, hN] at h ⊢
  have HB0 := Lib.hid (five_below w #[.int .i64 (s.num : Int), .int .i64 (s.most : Int), .int .i64 (s.epoch : Int), .int .i64 (s.size : Int), .bool s.shut, .slice lx I lc, .slice dx N dc] #[.int .i64 2, .int .i64 m, .int .u64 (key : Int), .int .u32 (cookie : Int), .bool gone, .slice x vL vc] #[.int .i64 0, .int .i64 0, .int .i64 0, .int .i64 0, .bool false, .slice none 0 0, .slice none 0 0] #[.int .u64 0, .int .u32 0, .bool false, .slice none 0 0] #[.int .u64 0, .int .u32 0, .bool false, .slice none 0 0] 30 86 30 47 47)
  have HD := Lib.hid (show DocP (((((w.alloc (.cells #[.int .i64 (s.num : Int), .int .i64 (s.most : Int), .int .i64 (s.epoch : Int), .int .i64 (s.size : Int), .bool s.shut, .slice lx I lc, .slice dx N dc] 30)).alloc (.cells #[.int .i64 2, .int .i64 m, .int .u64 (key : Int), .int .u32 (cookie : Int), .bool gone, .slice x vL vc] 86)).alloc (.cells #[.int .i64 0, .int .i64 0, .int .i64 0, .int .i64 0, .bool false, .slice none 0 0, .slice none 0 0] 30)).alloc (.cells #[.int .u64 0, .int .u32 0, .bool false, .slice none 0 0] 47)).alloc (.cells #[.int .u64 0, .int .u32 0, .bool false, .slice none 0 0] 47)) (fun b => S b ∨ (w.heap.size ≤ b ∧ b < w.heap.size + 5)) s (.slice lx I lc) (.slice dx N dc) ps from (h.kept (Kept.refl S w) (fun b hb => .inl hb) |>.kept (S' := (fun b => S b ∨ (w.heap.size ≤ b ∧ b < w.heap.size + 5))) (Kept.refl S w) (fun b hb => by rcases hb with hb | hb; exact .inl hb; exact .inr hb.1)).below HB0.out)
  have HC := Lib.hid (look_r key cookie (fun b => S b ∨ (w.heap.size ≤ b ∧ b < w.heap.size + 5)) s (.slice lx I lc) (.slice dx N dc) ps _ HD.out hPL)
  have HNW := Lib.hid (fun wx (hd : DocP wx (fun b => S b ∨ (w.heap.size ≤ b ∧ b < w.heap.size + 5)) s (.slice lx I lc) (.slice dx N dc) ps) => newest_r key (fun b => S b ∨ (w.heap.size ≤ b ∧ b < w.heap.size + 5)) s (.slice lx I lc) (.slice dx N dc) ps wx hd hPL)
  rw [hq0] at HC
  clear h hf hq0 hI hN hpl hSw hPL
  go_enter Tryz.func30, Tryz.ntmps30
  go_wp2_with fail
  refine HC.out.mono ?_
  rintro e w2 ⟨rfl, hb⟩
  have HDD := Lib.hid (HD.out.below (hb.mono (Nat.le_refl _)))
  obtain ⟨hV, hA, hT, hR, hZ, hB, hlt⟩ := five_facts hb
  have HV := Lib.hid hV
  have HA := Lib.hid hA
  have HT := Lib.hid hT
  have HR := Lib.hid hR
  have HZ := Lib.hid hZ
  have HBB := Lib.hid hB
  have HB2 := Lib.hid hb
  clear hV hA hT hR hZ hB hb
  have v0 := HV.out.cell 0 rfl
  have v1 := HV.out.cell 1 rfl
  have v2 := HV.out.cell 2 rfl
  have v3 := HV.out.cell 3 rfl
  have v4 := HV.out.cell 4 rfl
  have v5 := HV.out.cell 5 rfl
  have v6 := HV.out.cell 6 rfl
  have a2 := HA.out.cell 2 rfl
  go_wp2_with fail
  refine (HNW.out _ HDD.out).mono ?_
  rintro e w3 ⟨n, nx, nL, nc, rfl, _, hb3⟩
  have hbx := HB2.out.trans (hb3.mono HB2.out.size)
  have HDX := Lib.hid (HDD.out.below hb3)
  clear HV HA HT HR HZ HBB hlt HDD v0 v1 v2 v3 v4 v5 v6 a2
  have HDD := HDX
  obtain ⟨hV, hA, hT, hR, hZ, hB, hlt⟩ := five_facts hbx
  have HV := Lib.hid hV
  have HA := Lib.hid hA
  have HT := Lib.hid hT
  have HR := Lib.hid hR
  have HZ := Lib.hid hZ
  have HBB := Lib.hid hB
  clear hV hA hT hR hZ hB hbx hb3 HDX
  go_upto_region 14 with fail
  obtain ⟨wt, hwt⟩ : ∃ wt, (w3.alloc (.cells #[.int .u64 (n.key : Int), .int .u32 (n.cookie : Int), .bool n.gone, .slice nx nL nc] 47)).drew = wt := ⟨_, rfl⟩
  obtain ⟨yV, yN, yT, yR, yB, yD⟩ := (show Blk (w3.alloc (.cells #[.int .u64 (n.key : Int), .int .u32 (n.cookie : Int), .bool n.gone, .slice nx nL nc] 47)).drew w.heap.size #[.int .i64 (s.num : Int), .int .i64 (s.most : Int), .int .i64 (s.epoch : Int), .int .i64 (s.size : Int), .bool s.shut, .slice lx I lc, .slice dx N dc] 30 ∧ Blk (w3.alloc (.cells #[.int .u64 (n.key : Int), .int .u32 (n.cookie : Int), .bool n.gone, .slice nx nL nc] 47)).drew w3.heap.size #[.int .u64 (n.key : Int), .int .u32 (n.cookie : Int), .bool n.gone, .slice nx nL nc] 47 ∧ _ ∧ _ ∧ _ ∧ _ from ⟨HV.out.below ((Below.refl w3.heap.size w3).alloc (Nat.le_refl _) (.cells #[.int .u64 (n.key : Int), .int .u32 (n.cookie : Int), .bool n.gone, .slice nx nL nc] 47)).drew HV.out.lt, (Blk.new w3 #[.int .u64 (n.key : Int), .int .u32 (n.cookie : Int), .bool n.gone, .slice nx nL nc] 47).below ((Below.refl (w3.alloc (.cells #[.int .u64 (n.key : Int), .int .u32 (n.cookie : Int), .bool n.gone, .slice nx nL nc] 47)).heap.size (w3.alloc (.cells #[.int .u64 (n.key : Int), .int .u32 (n.cookie : Int), .bool n.gone, .slice nx nL nc] 47))).drew) (Blk.new w3 #[.int .u64 (n.key : Int), .int .u32 (n.cookie : Int), .bool n.gone, .slice nx nL nc] 47).lt, HT.out.below ((Below.refl w3.heap.size w3).alloc (Nat.le_refl _) (.cells #[.int .u64 (n.key : Int), .int .u32 (n.cookie : Int), .bool n.gone, .slice nx nL nc] 47)).drew HT.out.lt, HR.out.below ((Below.refl w3.heap.size w3).alloc (Nat.le_refl _) (.cells #[.int .u64 (n.key : Int), .int .u32 (n.cookie : Int), .bool n.gone, .slice nx nL nc] 47)).drew HR.out.lt, (HBB.out.alloc HBB.out.size (.cells #[.int .u64 (n.key : Int), .int .u32 (n.cookie : Int), .bool n.gone, .slice nx nL nc] 47)).drew, HDD.out.below (((Below.refl w3.heap.size w3).alloc (Nat.le_refl _) (.cells #[.int .u64 (n.key : Int), .int .u32 (n.cookie : Int), .bool n.gone, .slice nx nL nc] 47)).drew)⟩)
  rw [hwt] at yV yN yT yR yB yD
  have XV := Lib.hid yV
  have XN := Lib.hid yN
  have XT := Lib.hid yT
  have XR := Lib.hid yR
  have XB := Lib.hid yB
  have XD := Lib.hid yD
  clear yV yN yT yR yB yD
  have n1 : w.heap.size + 1 + 1 ≠ w.heap.size := by omega
  have n2 : w.heap.size + 1 + 1 ≠ w3.heap.size := by omega
  have n3 : w.heap.size + 1 + 1 + 1 ≠ w.heap.size := by omega
  have n4 : w.heap.size + 1 + 1 + 1 ≠ w3.heap.size := by omega
  have n5 : w.heap.size + 1 + 1 ≠ w.heap.size + 1 + 1 + 1 := by omega
  have n6 : w.heap.size + 1 + 1 + 1 ≠ w.heap.size + 1 + 1 := by omega
  have XV2 := Lib.hid (XV.out.other7 n1 (.int .i64 (s.num : Int)) (.int .i64 (s.most : Int)) (.int .i64 (s.epoch : Int)) (.int .i64 (s.size : Int)) (.bool s.shut) (.slice lx I lc) (.slice dx N dc))
  have XN2 := Lib.hid (XN.out.other7 n2 (.int .i64 (s.num : Int)) (.int .i64 (s.most : Int)) (.int .i64 (s.epoch : Int)) (.int .i64 (s.size : Int)) (.bool s.shut) (.slice lx I lc) (.slice dx N dc))
  have XR2 := Lib.hid (XR.out.other7 n5 (.int .i64 (s.num : Int)) (.int .i64 (s.most : Int)) (.int .i64 (s.epoch : Int)) (.int .i64 (s.size : Int)) (.bool s.shut) (.slice lx I lc) (.slice dx N dc))
  have XT2 := Lib.hid (blk_set7 XT.out (.int .i64 (s.num : Int)) (.int .i64 (s.most : Int)) (.int .i64 (s.epoch : Int)) (.int .i64 (s.size : Int)) (.bool s.shut) (.slice lx I lc) (.slice dx N dc))
  have XV3 := Lib.hid (XV2.out.other4 n3 (.int .u64 (n.key : Int)) (.int .u32 (n.cookie : Int)) (.bool n.gone) (.slice nx nL nc))
  have XN3 := Lib.hid (XN2.out.other4 n4 (.int .u64 (n.key : Int)) (.int .u32 (n.cookie : Int)) (.bool n.gone) (.slice nx nL nc))
  have XT3 := Lib.hid (XT2.out.other4 n6 (.int .u64 (n.key : Int)) (.int .u32 (n.cookie : Int)) (.bool n.gone) (.slice nx nL nc))
  have XR3 := Lib.hid (blk_set4 XR2.out (.int .u64 (n.key : Int)) (.int .u32 (n.cookie : Int)) (.bool n.gone) (.slice nx nL nc))
  have XB3 := Lib.hid (below_set4 (g := w.heap.size + 1 + 1 + 1) (u0 := .int .u64 (n.key : Int)) (u1 := .int .u32 (n.cookie : Int)) (u2 := .bool n.gone) (u3 := .slice nx nL nc) (below_set7 (g := w.heap.size + 1 + 1) (u0 := .int .i64 (s.num : Int)) (u1 := .int .i64 (s.most : Int)) (u2 := .int .i64 (s.epoch : Int)) (u3 := .int .i64 (s.size : Int)) (u4 := .bool s.shut) (u5 := .slice lx I lc) (u6 := .slice dx N dc) XB.out (by omega)) (show w.heap.size ≤ w.heap.size + 1 + 1 + 1 by omega))
  have XD3 := Lib.hid ((XD.out.kept (S' := (fun b => S b ∨ (w.heap.size ≤ b ∧ b < w.heap.size + 5))) (((kept_set7 wt (w.heap.size + 1 + 1) (.int .i64 (s.num : Int)) (.int .i64 (s.most : Int)) (.int .i64 (s.epoch : Int)) (.int .i64 (s.size : Int)) (.bool s.shut) (.slice lx I lc) (.slice dx N dc)).mono (fun j _ hj => by subst hj; exact .inr ⟨by omega, by omega⟩)).trans ((kept_set4 _ (w.heap.size + 1 + 1 + 1) (.int .u64 (n.key : Int)) (.int .u32 (n.cookie : Int)) (.bool n.gone) (.slice nx nL nc)).mono (fun j _ hj => by subst hj; exact .inr ⟨by omega, by omega⟩)) (fun _ h _ => h)) (fun b hb => .inl hb)).kept (S' := S) (Kept.refl (fun b => S b ∨ (w.heap.size ≤ b ∧ b < w.heap.size + 5)) _) (fun b hb => .inl (.inl hb)))
  clear n1 n2 n3 n4 n5 n6
  have z0 := XT.out.cell 0 rfl
  have z1 := XT.out.cell 1 rfl
  have z2 := XT.out.cell 2 rfl
  have z3 := XT.out.cell 3 rfl
  have z4 := XT.out.cell 4 rfl
  have z5 := XT.out.cell 5 rfl
  have z6 := XT.out.cell 6 rfl
  have zf := fun j => XT.out.free j
  have r0 := XR2.out.cell 0 rfl
  have r1 := XR2.out.cell 1 rfl
  have r2 := XR2.out.cell 2 rfl
  have r3 := XR2.out.cell 3 rfl
  have rf := fun j => XR2.out.free j
  unfold set7 at XV2 XN2 XT2 XV3 XN3 XT3 XR3 XB3 XD3 r0 r1 r2 r3 rf
  unfold set4 at XV3 XN3 XT3 XR3 XB3 XD3
  refine AnyE.start (S := (fun wx => wx.cell? ⟨w.heap.size, 0, none⟩ = some (.int .i64 (s.num : Int)) ∧ wx.cell? ⟨w.heap.size, 1, none⟩ = some (.int .i64 (s.most : Int)) ∧ wx.cell? ⟨w.heap.size, 2, none⟩ = some (.int .i64 (s.epoch : Int)) ∧ wx.cell? ⟨w.heap.size, 3, none⟩ = some (.int .i64 (s.size : Int)) ∧ wx.cell? ⟨w.heap.size, 4, none⟩ = some (.bool s.shut) ∧ wx.cell? ⟨w.heap.size, 5, none⟩ = some (.slice lx I lc) ∧ wx.cell? ⟨w.heap.size, 6, none⟩ = some (.slice dx N dc) ∧ wx.cell? ⟨w3.heap.size, 0, none⟩ = some (.int .u64 (n.key : Int)) ∧ wx.cell? ⟨w3.heap.size, 1, none⟩ = some (.int .u32 (n.cookie : Int)) ∧ wx.cell? ⟨w3.heap.size, 2, none⟩ = some (.bool n.gone) ∧ wx.cell? ⟨w3.heap.size, 3, none⟩ = some (.slice nx nL nc))) 5 (by kernel_rfl) (by rw [hwt]; exact ⟨XV.out.cell 0 rfl, XV.out.cell 1 rfl, XV.out.cell 2 rfl, XV.out.cell 3 rfl, XV.out.cell 4 rfl, XV.out.cell 5 rfl, XV.out.cell 6 rfl, XN.out.cell 0 rfl, XN.out.cell 1 rfl, XN.out.cell 2 rfl, XN.out.cell 3 rfl⟩) (fun hHeld => ?_)
  rw [hwt] at hHeld
  rw [hwt]
  clear hwt
  refine AnyE.take (i := 0) (v := ?_) rfl (by kernel_rfl) (by kernel_rfl) (by kernel_rfl) (by kernel_rfl) (fun _ _ _ h => h) (Or.inl ⟨by rfl, ?_⟩) (by assumption) ?_
  rotate_left 1
  · intro w hSw
    (try dsimp only at hSw)
    go_simp
    all_goals (with_reducible rfl)
  try simp only [Act.put, List.getElem_toArray, List.getElem_cons_zero, List.getElem_cons_succ, List.setIfInBounds_toArray, List.set_cons_zero, List.set_cons_succ]
  refine AnyE.take (i := 1) (v := ?_) rfl (by kernel_rfl) (by kernel_rfl) (by kernel_rfl) (by kernel_rfl) (fun _ _ _ h => h) (Or.inl ⟨by rfl, ?_⟩) (by assumption) ?_
  rotate_left 1
  · intro w hSw
    (try dsimp only at hSw)
    go_simp
    all_goals (with_reducible rfl)
  try simp only [Act.put, List.getElem_toArray, List.getElem_cons_zero, List.getElem_cons_succ, List.setIfInBounds_toArray, List.set_cons_zero, List.set_cons_succ]
  refine AnyE.next (rs := [2]) (by kernel_rfl) (by simp) ?_
  refine AllE.cons rfl (fun K hK => ?_) AllE.nil
  go_simp
  refine hK.out _ _ (⟨XV2.out.cell 0 rfl, XV2.out.cell 1 rfl, XV2.out.cell 2 rfl, XV2.out.cell 3 rfl, XV2.out.cell 4 rfl, XV2.out.cell 5 rfl, XV2.out.cell 6 rfl, XN2.out.cell 0 rfl, XN2.out.cell 1 rfl, XN2.out.cell 2 rfl, XN2.out.cell 3 rfl⟩) (fun hHeld => ?_)
  clear hK K
  try simp only [Act.put, List.getElem_toArray, List.getElem_cons_zero, List.getElem_cons_succ, List.setIfInBounds_toArray, List.set_cons_zero, List.set_cons_succ]
  refine AnyE.next (rs := [3]) (by kernel_rfl) (by simp) ?_
  refine AllE.cons rfl (fun K hK => ?_) AllE.nil
  go_simp
  refine hK.out _ _ (⟨XV3.out.cell 0 rfl, XV3.out.cell 1 rfl, XV3.out.cell 2 rfl, XV3.out.cell 3 rfl, XV3.out.cell 4 rfl, XV3.out.cell 5 rfl, XV3.out.cell 6 rfl, XN3.out.cell 0 rfl, XN3.out.cell 1 rfl, XN3.out.cell 2 rfl, XN3.out.cell 3 rfl⟩) (fun hHeld => ?_)
  clear hK K
  try simp only [Act.put, List.getElem_toArray, List.getElem_cons_zero, List.getElem_cons_succ, List.setIfInBounds_toArray, List.set_cons_zero, List.set_cons_succ]
  refine AnyE.take (i := 4) (v := ?_) rfl (by kernel_rfl) (by kernel_rfl) (by kernel_rfl) (by kernel_rfl) (fun _ _ _ h => h) (Or.inl ⟨by rfl, ?_⟩) (by assumption) ?_
  rotate_left 1
  · intro w hSw
    (try dsimp only at hSw)
    go_simp
    all_goals (with_reducible rfl)
  try simp only [Act.put, List.getElem_toArray, List.getElem_cons_zero, List.getElem_cons_succ, List.setIfInBounds_toArray, List.set_cons_zero, List.set_cons_succ]
  refine AnyE.next (rs := [5]) (by kernel_rfl) (by simp) ?_
  refine AllE.last rfl (fun K hK => ?_)
  go_simp
  refine hK.out _ _ ?_
  clear hK K
  try simp only [Act.put, List.getElem_toArray, List.getElem_cons_zero, List.getElem_cons_succ, List.setIfInBounds_toArray, List.set_cons_zero, List.set_cons_succ]
  refine AnyE.done (by kernel_rfl) ?_ _
  clear z0 z1 z2 z3 z4 z5 z6 zf r0 r1 r2 r3 rf
  have y0 := XT3.out.cell 0 rfl
  have y1 := XT3.out.cell 1 rfl
  have y2 := XT3.out.cell 2 rfl
  have y3 := XT3.out.cell 3 rfl
  have y4 := XT3.out.cell 4 rfl
  have y5 := XT3.out.cell 5 rfl
  have y6 := XT3.out.cell 6 rfl
  have x0 := XR3.out.cell 0 rfl
  have x1 := XR3.out.cell 1 rfl
  have x2 := XR3.out.cell 2 rfl
  have x3 := XR3.out.cell 3 rfl
  go_wp2
  exact bodyPost_ret (v := .tuple #[.agg #[.int .i64 (s.num : Int), .int .i64 (s.most : Int), .int .i64 (s.epoch : Int), .int .i64 (s.size : Int), .bool s.shut, .slice lx I lc, .slice dx N dc], .agg #[.int .u64 (n.key : Int), .int .u32 (n.cookie : Int), .bool n.gone, .slice nx nL nc], .slice none 0 0, .int .i64 0]) (by simp [results, Tryz.results30, go_sem, y0, y1, y2, y3, y4, y5, y6, x0, x1, x2, x3]) rfl ⟨_, _, ps, _, _, _, _, _, _, _, rfl, XD3.out, XB3.out⟩
set_option maxRecDepth 100000 in
set_option maxHeartbeats 1000000 in
theorem rdo_x (k9 : Int) (m : Int) (key cookie : Nat) (gone : Bool) (data : List UInt8) (x : Option Addr) (vL vc : Nat) (S : Nat → Prop) (s : Vst) (lv dv : Value) (ps : List (Ndl × Value)) (w : World) (h : DocP w S s lv dv ps) (hSw : ∀ b, S b → b < w.heap.size) (h0 : k9 ≠ 0) (h1 : k9 ≠ 1) (h2 : k9 ≠ 2) (h3 : k9 ≠ 3) (h4 : k9 ≠ 4) :
    Calls Tryz.prog 30 #[dval s lv dv, .agg #[.int .i64 k9, .int .i64 m, .int .u64 (key : Int), .int .u32 (cookie : Int), .bool gone, .slice x vL vc]] w (DoR w S s 0) := by
  obtain ⟨lx, lc, rfl, _, _⟩ := IsX.slice h.l
  obtain ⟨dx, dc, rfl, _, _⟩ := IsX.slice h.d.1
  have hpl : ps.length = s.ns.length := by rw [← h.ns, List.length_map]
  obtain ⟨I, hI⟩ : ∃ I, s.idx.length = I := ⟨_, rfl⟩
  obtain ⟨N, hN⟩ : ∃ N, ps.length = N := ⟨_, rfl⟩
  rw [hI, hN] at h ⊢
  have HB0 := Lib.hid (five_below w #[.int .i64 (s.num : Int), .int .i64 (s.most : Int), .int .i64 (s.epoch : Int), .int .i64 (s.size : Int), .bool s.shut, .slice lx I lc, .slice dx N dc] #[.int .i64 k9, .int .i64 m, .int .u64 (key : Int), .int .u32 (cookie : Int), .bool gone, .slice x vL vc] #[.int .i64 0, .int .i64 0, .int .i64 0, .int .i64 0, .bool false, .slice none 0 0, .slice none 0 0] #[.int .u64 0, .int .u32 0, .bool false, .slice none 0 0] #[.int .u64 0, .int .u32 0, .bool false, .slice none 0 0] 30 86 30 47 47)
  have HD := Lib.hid (show DocP (((((w.alloc (.cells #[.int .i64 (s.num : Int), .int .i64 (s.most : Int), .int .i64 (s.epoch : Int), .int .i64 (s.size : Int), .bool s.shut, .slice lx I lc, .slice dx N dc] 30)).alloc (.cells #[.int .i64 k9, .int .i64 m, .int .u64 (key : Int), .int .u32 (cookie : Int), .bool gone, .slice x vL vc] 86)).alloc (.cells #[.int .i64 0, .int .i64 0, .int .i64 0, .int .i64 0, .bool false, .slice none 0 0, .slice none 0 0] 30)).alloc (.cells #[.int .u64 0, .int .u32 0, .bool false, .slice none 0 0] 47)).alloc (.cells #[.int .u64 0, .int .u32 0, .bool false, .slice none 0 0] 47)) (fun b => S b ∨ (w.heap.size ≤ b ∧ b < w.heap.size + 5)) s (.slice lx I lc) (.slice dx N dc) ps from (h.kept (Kept.refl S w) (fun b hb => .inl hb) |>.kept (S' := (fun b => S b ∨ (w.heap.size ≤ b ∧ b < w.heap.size + 5))) (Kept.refl S w) (fun b hb => by rcases hb with hb | hb; exact .inl hb; exact .inr hb.1)).below HB0.out)
  clear h hI hN hpl hSw
  go_enter Tryz.func30, Tryz.ntmps30
  go_upto_region 26 with fail
  have hb := Below.refl (((((w.alloc (.cells #[.int .i64 (s.num : Int), .int .i64 (s.most : Int), .int .i64 (s.epoch : Int), .int .i64 (s.size : Int), .bool s.shut, .slice lx I lc, .slice dx N dc] 30)).alloc (.cells #[.int .i64 k9, .int .i64 m, .int .u64 (key : Int), .int .u32 (cookie : Int), .bool gone, .slice x vL vc] 86)).alloc (.cells #[.int .i64 0, .int .i64 0, .int .i64 0, .int .i64 0, .bool false, .slice none 0 0, .slice none 0 0] 30)).alloc (.cells #[.int .u64 0, .int .u32 0, .bool false, .slice none 0 0] 47)).alloc (.cells #[.int .u64 0, .int .u32 0, .bool false, .slice none 0 0] 47)).heap.size (((((w.alloc (.cells #[.int .i64 (s.num : Int), .int .i64 (s.most : Int), .int .i64 (s.epoch : Int), .int .i64 (s.size : Int), .bool s.shut, .slice lx I lc, .slice dx N dc] 30)).alloc (.cells #[.int .i64 k9, .int .i64 m, .int .u64 (key : Int), .int .u32 (cookie : Int), .bool gone, .slice x vL vc] 86)).alloc (.cells #[.int .i64 0, .int .i64 0, .int .i64 0, .int .i64 0, .bool false, .slice none 0 0, .slice none 0 0] 30)).alloc (.cells #[.int .u64 0, .int .u32 0, .bool false, .slice none 0 0] 47)).alloc (.cells #[.int .u64 0, .int .u32 0, .bool false, .slice none 0 0] 47))
  obtain ⟨hV, hA, hT, hR, hZ, hB, hlt⟩ := five_facts hb
  have HV := Lib.hid hV
  have HA := Lib.hid hA
  have HT := Lib.hid hT
  have HR := Lib.hid hR
  have HZ := Lib.hid hZ
  have HBB := Lib.hid hB
  have HDD := HD
  clear hV hA hT hR hZ hB hb
  obtain ⟨w2, hw2⟩ : ∃ w2, (((((w.alloc (.cells #[.int .i64 (s.num : Int), .int .i64 (s.most : Int), .int .i64 (s.epoch : Int), .int .i64 (s.size : Int), .bool s.shut, .slice lx I lc, .slice dx N dc] 30)).alloc (.cells #[.int .i64 k9, .int .i64 m, .int .u64 (key : Int), .int .u32 (cookie : Int), .bool gone, .slice x vL vc] 86)).alloc (.cells #[.int .i64 0, .int .i64 0, .int .i64 0, .int .i64 0, .bool false, .slice none 0 0, .slice none 0 0] 30)).alloc (.cells #[.int .u64 0, .int .u32 0, .bool false, .slice none 0 0] 47)).alloc (.cells #[.int .u64 0, .int .u32 0, .bool false, .slice none 0 0] 47)) = w2 := ⟨_, rfl⟩
  rw [hw2] at HV HA HT HR HZ HBB HDD hlt
  rw [hw2]
  clear HB0 HD hw2
  obtain ⟨wt, hwt⟩ : ∃ wt, (w2).drew = wt := ⟨_, rfl⟩
  obtain ⟨yV, yN, yT, yR, yB, yD⟩ := (show Blk (w2).drew w.heap.size #[.int .i64 (s.num : Int), .int .i64 (s.most : Int), .int .i64 (s.epoch : Int), .int .i64 (s.size : Int), .bool s.shut, .slice lx I lc, .slice dx N dc] 30 ∧ Blk (w2).drew (w.heap.size + 1 + 1 + 1 + 1) #[.int .u64 0, .int .u32 0, .bool false, .slice none 0 0] 47 ∧ _ ∧ _ ∧ _ ∧ _ from ⟨HV.out.below (Below.refl w2.heap.size w2).drew HV.out.lt, HZ.out.below (Below.refl w2.heap.size w2).drew HZ.out.lt, HT.out.below (Below.refl w2.heap.size w2).drew HT.out.lt, HR.out.below (Below.refl w2.heap.size w2).drew HR.out.lt, HBB.out.trans (((Below.refl w2.heap.size w2).drew).mono HBB.out.size), HDD.out.below (Below.refl w2.heap.size w2).drew⟩)
  rw [hwt] at yV yN yT yR yB yD
  have XV := Lib.hid yV
  have XN := Lib.hid yN
  have XT := Lib.hid yT
  have XR := Lib.hid yR
  have XB := Lib.hid yB
  have XD := Lib.hid yD
  clear yV yN yT yR yB yD
  have n1 : w.heap.size + 1 + 1 ≠ w.heap.size := by omega
  have n2 : w.heap.size + 1 + 1 ≠ w.heap.size + 1 + 1 + 1 + 1 := by omega
  have n3 : w.heap.size + 1 + 1 + 1 ≠ w.heap.size := by omega
  have n4 : w.heap.size + 1 + 1 + 1 ≠ w.heap.size + 1 + 1 + 1 + 1 := by omega
  have n5 : w.heap.size + 1 + 1 ≠ w.heap.size + 1 + 1 + 1 := by omega
  have n6 : w.heap.size + 1 + 1 + 1 ≠ w.heap.size + 1 + 1 := by omega
  have XV2 := Lib.hid (XV.out.other7 n1 (.int .i64 (s.num : Int)) (.int .i64 (s.most : Int)) (.int .i64 (s.epoch : Int)) (.int .i64 (s.size : Int)) (.bool s.shut) (.slice lx I lc) (.slice dx N dc))
  have XN2 := Lib.hid (XN.out.other7 n2 (.int .i64 (s.num : Int)) (.int .i64 (s.most : Int)) (.int .i64 (s.epoch : Int)) (.int .i64 (s.size : Int)) (.bool s.shut) (.slice lx I lc) (.slice dx N dc))
  have XR2 := Lib.hid (XR.out.other7 n5 (.int .i64 (s.num : Int)) (.int .i64 (s.most : Int)) (.int .i64 (s.epoch : Int)) (.int .i64 (s.size : Int)) (.bool s.shut) (.slice lx I lc) (.slice dx N dc))
  have XT2 := Lib.hid (blk_set7 XT.out (.int .i64 (s.num : Int)) (.int .i64 (s.most : Int)) (.int .i64 (s.epoch : Int)) (.int .i64 (s.size : Int)) (.bool s.shut) (.slice lx I lc) (.slice dx N dc))
  have XV3 := Lib.hid (XV2.out.other4 n3 (.int .u64 0) (.int .u32 0) (.bool false) (.slice none 0 0))
  have XN3 := Lib.hid (XN2.out.other4 n4 (.int .u64 0) (.int .u32 0) (.bool false) (.slice none 0 0))
  have XT3 := Lib.hid (XT2.out.other4 n6 (.int .u64 0) (.int .u32 0) (.bool false) (.slice none 0 0))
  have XR3 := Lib.hid (blk_set4 XR2.out (.int .u64 0) (.int .u32 0) (.bool false) (.slice none 0 0))
  have XB3 := Lib.hid (below_set4 (g := w.heap.size + 1 + 1 + 1) (u0 := .int .u64 0) (u1 := .int .u32 0) (u2 := .bool false) (u3 := .slice none 0 0) (below_set7 (g := w.heap.size + 1 + 1) (u0 := .int .i64 (s.num : Int)) (u1 := .int .i64 (s.most : Int)) (u2 := .int .i64 (s.epoch : Int)) (u3 := .int .i64 (s.size : Int)) (u4 := .bool s.shut) (u5 := .slice lx I lc) (u6 := .slice dx N dc) XB.out (by omega)) (show w.heap.size ≤ w.heap.size + 1 + 1 + 1 by omega))
  have XD3 := Lib.hid ((XD.out.kept (S' := (fun b => S b ∨ (w.heap.size ≤ b ∧ b < w.heap.size + 5))) (((kept_set7 wt (w.heap.size + 1 + 1) (.int .i64 (s.num : Int)) (.int .i64 (s.most : Int)) (.int .i64 (s.epoch : Int)) (.int .i64 (s.size : Int)) (.bool s.shut) (.slice lx I lc) (.slice dx N dc)).mono (fun j _ hj => by subst hj; exact .inr ⟨by omega, by omega⟩)).trans ((kept_set4 _ (w.heap.size + 1 + 1 + 1) (.int .u64 0) (.int .u32 0) (.bool false) (.slice none 0 0)).mono (fun j _ hj => by subst hj; exact .inr ⟨by omega, by omega⟩)) (fun _ h _ => h)) (fun b hb => .inl hb)).kept (S' := S) (Kept.refl (fun b => S b ∨ (w.heap.size ≤ b ∧ b < w.heap.size + 5)) _) (fun b hb => .inl (.inl hb)))
  clear n1 n2 n3 n4 n5 n6
  have z0 := XT.out.cell 0 rfl
  have z1 := XT.out.cell 1 rfl
  have z2 := XT.out.cell 2 rfl
  have z3 := XT.out.cell 3 rfl
  have z4 := XT.out.cell 4 rfl
  have z5 := XT.out.cell 5 rfl
  have z6 := XT.out.cell 6 rfl
  have zf := fun j => XT.out.free j
  have r0 := XR2.out.cell 0 rfl
  have r1 := XR2.out.cell 1 rfl
  have r2 := XR2.out.cell 2 rfl
  have r3 := XR2.out.cell 3 rfl
  have rf := fun j => XR2.out.free j
  unfold set7 at XV2 XN2 XT2 XV3 XN3 XT3 XR3 XB3 XD3 r0 r1 r2 r3 rf
  unfold set4 at XV3 XN3 XT3 XR3 XB3 XD3
  refine AnyE.start (S := (fun wx => wx.cell? ⟨w.heap.size, 0, none⟩ = some (.int .i64 (s.num : Int)) ∧ wx.cell? ⟨w.heap.size, 1, none⟩ = some (.int .i64 (s.most : Int)) ∧ wx.cell? ⟨w.heap.size, 2, none⟩ = some (.int .i64 (s.epoch : Int)) ∧ wx.cell? ⟨w.heap.size, 3, none⟩ = some (.int .i64 (s.size : Int)) ∧ wx.cell? ⟨w.heap.size, 4, none⟩ = some (.bool s.shut) ∧ wx.cell? ⟨w.heap.size, 5, none⟩ = some (.slice lx I lc) ∧ wx.cell? ⟨w.heap.size, 6, none⟩ = some (.slice dx N dc) ∧ wx.cell? ⟨w.heap.size + 1 + 1 + 1 + 1, 0, none⟩ = some (.int .u64 0) ∧ wx.cell? ⟨w.heap.size + 1 + 1 + 1 + 1, 1, none⟩ = some (.int .u32 0) ∧ wx.cell? ⟨w.heap.size + 1 + 1 + 1 + 1, 2, none⟩ = some (.bool false) ∧ wx.cell? ⟨w.heap.size + 1 + 1 + 1 + 1, 3, none⟩ = some (.slice none 0 0))) 5 (by kernel_rfl) (by rw [hwt]; exact ⟨XV.out.cell 0 rfl, XV.out.cell 1 rfl, XV.out.cell 2 rfl, XV.out.cell 3 rfl, XV.out.cell 4 rfl, XV.out.cell 5 rfl, XV.out.cell 6 rfl, XN.out.cell 0 rfl, XN.out.cell 1 rfl, XN.out.cell 2 rfl, XN.out.cell 3 rfl⟩) (fun hHeld => ?_)
  rw [hwt] at hHeld
  rw [hwt]
  clear hwt
  refine AnyE.take (i := 0) (v := ?_) rfl (by kernel_rfl) (by kernel_rfl) (by kernel_rfl) (by kernel_rfl) (fun _ _ _ h => h) (Or.inl ⟨by rfl, ?_⟩) (by assumption) ?_
  rotate_left 1
  · intro w hSw
    (try dsimp only at hSw)
    go_simp
    all_goals (with_reducible rfl)
  try simp only [Act.put, List.getElem_toArray, List.getElem_cons_zero, List.getElem_cons_succ, List.setIfInBounds_toArray, List.set_cons_zero, List.set_cons_succ]
  refine AnyE.take (i := 1) (v := ?_) rfl (by kernel_rfl) (by kernel_rfl) (by kernel_rfl) (by kernel_rfl) (fun _ _ _ h => h) (Or.inl ⟨by rfl, ?_⟩) (by assumption) ?_
  rotate_left 1
  · intro w hSw
    (try dsimp only at hSw)
    go_simp
    all_goals (with_reducible rfl)
  try simp only [Act.put, List.getElem_toArray, List.getElem_cons_zero, List.getElem_cons_succ, List.setIfInBounds_toArray, List.set_cons_zero, List.set_cons_succ]
  refine AnyE.next (rs := [2]) (by kernel_rfl) (by simp) ?_
  refine AllE.cons rfl (fun K hK => ?_) AllE.nil
  go_simp
  refine hK.out _ _ (⟨XV2.out.cell 0 rfl, XV2.out.cell 1 rfl, XV2.out.cell 2 rfl, XV2.out.cell 3 rfl, XV2.out.cell 4 rfl, XV2.out.cell 5 rfl, XV2.out.cell 6 rfl, XN2.out.cell 0 rfl, XN2.out.cell 1 rfl, XN2.out.cell 2 rfl, XN2.out.cell 3 rfl⟩) (fun hHeld => ?_)
  clear hK K
  try simp only [Act.put, List.getElem_toArray, List.getElem_cons_zero, List.getElem_cons_succ, List.setIfInBounds_toArray, List.set_cons_zero, List.set_cons_succ]
  refine AnyE.next (rs := [3]) (by kernel_rfl) (by simp) ?_
  refine AllE.cons rfl (fun K hK => ?_) AllE.nil
  go_simp
  refine hK.out _ _ (⟨XV3.out.cell 0 rfl, XV3.out.cell 1 rfl, XV3.out.cell 2 rfl, XV3.out.cell 3 rfl, XV3.out.cell 4 rfl, XV3.out.cell 5 rfl, XV3.out.cell 6 rfl, XN3.out.cell 0 rfl, XN3.out.cell 1 rfl, XN3.out.cell 2 rfl, XN3.out.cell 3 rfl⟩) (fun hHeld => ?_)
  clear hK K
  try simp only [Act.put, List.getElem_toArray, List.getElem_cons_zero, List.getElem_cons_succ, List.setIfInBounds_toArray, List.set_cons_zero, List.set_cons_succ]
  refine AnyE.take (i := 4) (v := ?_) rfl (by kernel_rfl) (by kernel_rfl) (by kernel_rfl) (by kernel_rfl) (fun _ _ _ h => h) (Or.inl ⟨by rfl, ?_⟩) (by assumption) ?_
  rotate_left 1
  · intro w hSw
    (try dsimp only at hSw)
    go_simp
    all_goals (with_reducible rfl)
  try simp only [Act.put, List.getElem_toArray, List.getElem_cons_zero, List.getElem_cons_succ, List.setIfInBounds_toArray, List.set_cons_zero, List.set_cons_succ]
  refine AnyE.next (rs := [5]) (by kernel_rfl) (by simp) ?_
  refine AllE.last rfl (fun K hK => ?_)
  go_simp
  refine hK.out _ _ ?_
  clear hK K
  try simp only [Act.put, List.getElem_toArray, List.getElem_cons_zero, List.getElem_cons_succ, List.setIfInBounds_toArray, List.set_cons_zero, List.set_cons_succ]
  refine AnyE.done (by kernel_rfl) ?_ _
  clear z0 z1 z2 z3 z4 z5 z6 zf r0 r1 r2 r3 rf
  have y0 := XT3.out.cell 0 rfl
  have y1 := XT3.out.cell 1 rfl
  have y2 := XT3.out.cell 2 rfl
  have y3 := XT3.out.cell 3 rfl
  have y4 := XT3.out.cell 4 rfl
  have y5 := XT3.out.cell 5 rfl
  have y6 := XT3.out.cell 6 rfl
  have x0 := XR3.out.cell 0 rfl
  have x1 := XR3.out.cell 1 rfl
  have x2 := XR3.out.cell 2 rfl
  have x3 := XR3.out.cell 3 rfl
  go_wp2
  exact bodyPost_ret (v := .tuple #[.agg #[.int .i64 (s.num : Int), .int .i64 (s.most : Int), .int .i64 (s.epoch : Int), .int .i64 (s.size : Int), .bool s.shut, .slice lx I lc, .slice dx N dc], .agg #[.int .u64 0, .int .u32 0, .bool false, .slice none 0 0], .slice none 0 0, .int .i64 0]) (by simp [results, Tryz.results30, go_sem, y0, y1, y2, y3, y4, y5, y6, x0, x1, x2, x3]) rfl ⟨_, _, ps, _, _, _, _, _, _, _, rfl, XD3.out, XB3.out⟩

end Go.Proofs.YtoblbipkkdiddaaGreatDoor
end
