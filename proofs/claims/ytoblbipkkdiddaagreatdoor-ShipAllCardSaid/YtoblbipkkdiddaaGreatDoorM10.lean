/- Vlay, Shipb, Volm, Ref08, Ref03, Rvol. -/
import Derived.Test.YtoblbipkkdiddaaGreatDoorM9
import Derived.Test.YtoblbipkkdiddaaGreatDoorM8
import Derived.Test.YtoblbipkkdiddaaGreatDoorM6
import Derived.Test.YtoblbipkkdiddaaGreatDoorM7
set_option linter.unusedVariables false
set_option linter.unusedSimpArgs false

section
namespace Go.Proofs.YtoblbipkkdiddaaGreatDoor
open Go.RowKit Go.Cor

set_option maxRecDepth 100000 in
set_option maxHeartbeats 1000000 in
theorem holds_v (key cookie : Nat) (data : List UInt8) (v : Value) (g p k : Nat) (S : Nat → Prop) (d : Dsk) (s : Vst) (w : World) (h : Vready w g p S d k s) (hv : IsB w v data) (o : Ndl) (ho : newest s.ns key = some o) (hl : s.look key cookie = 0) :
    Calls Tryz.prog 49 #[.pointer (some ⟨g, 0, none⟩), Nd.nval ⟨key, cookie, false, data⟩ v] w fun e w' =>
      e = .returned (cerr (if sameN o ⟨key, cookie, false, data⟩ = true then 0 else 8)) ∧ Below w.heap.size w w' := by
  have hal := below_alloc w (Nd.ncells ⟨key, cookie, false, data⟩ v 48)
  have HVV := Lib.hid (fun wx (hb : Below w.heap.size w wx) => hv.mono hb (Nat.le_refl _))
  have HG := Lib.hid (show Calls Tryz.prog 22 #[.pointer (some ⟨g, 0, none⟩), .int .u64 (key : Int), .int .u32 (cookie : Int)] (w.alloc (Nd.ncells ⟨key, cookie, false, data⟩ v 48)) (fun e w' => ∃ (x : Option Addr) (L cc : Nat), e = .returned (.tuple #[Nd.nval o (.slice x L cc), .nilIface]) ∧ IsB w' (.slice x L cc) o.data ∧ Below (w.alloc (Nd.ncells ⟨key, cookie, false, data⟩ v 48)).heap.size (w.alloc (Nd.ncells ⟨key, cookie, false, data⟩ v 48)) w') by
    refine (get_v key cookie g p k S d s _ (h.below hal)).mono ?_
    rintro e w' ⟨m, x, cc, rfl, ho2, hb, hm⟩
    rw [if_pos hl, ho] at hm
    simp only [Option.getD_some] at hm
    subst hm
    rw [hl, cerr_0]
    exact ⟨x, _, cc, rfl, IsB.own ho2 rfl, hb⟩)
  have HSM := Lib.hid (fun va vb wx (ha : IsB wx va o.data) (hb : IsB wx vb data) => Nd.nsame_any o ⟨key, cookie, false, data⟩ va vb wx ha hb)
  obtain ⟨B, hB⟩ : ∃ B, sameN o ⟨key, cookie, false, data⟩ = B := ⟨_, rfl⟩
  rw [hB] at HSM ⊢
  obtain ⟨ok, oc, og, od⟩ := o
  have HAL := Lib.hid hal
  clear h hv ho hl hal hB
  go_enter Tryz.func49, Tryz.ntmps49
  go_wp2_with fail
  refine HG.out.mono ?_
  rintro e w1 ⟨x, L, cc, rfl, hx, hb1⟩
  have HX1 := Lib.hid (fb_put (n := ⟨key, cookie, false, data⟩) hb1)
  have HI := Lib.hid hx
  obtain ⟨⟨b0, b1, b2, b3⟩, hB1, hlt1⟩ := HX1.out
  have HB1 := Lib.hid hB1
  clear hb1 hx hB1 HG
  simp only at b0 b1 b2 b3
  go_wp2_with fail
  have HB2 := Lib.hid (HB1.out.alloc HB1.out.size (.cells #[.int .u64 (ok : Int), .int .u32 (oc : Int), .bool og, .slice x L cc] 48))
  refine (HSM.out _ _ _ (HI.out.mono (below_alloc w1 _) (Nat.le_refl _)) (HVV.out _ HB2.out)).mono ?_
  rintro e w2 ⟨rfl, hb2⟩
  have HB3 := Lib.hid (HB2.out.trans (hb2.mono HB2.out.size))
  clear hb2 HSM
  cases B with
  | true =>
    go_wp2
    go_ret
    exact ⟨rfl, HB3.out⟩
  | false =>
    go_wp2
    go_ret
    exact ⟨rfl, HB3.out⟩
set_option maxRecDepth 100000 in
set_option maxHeartbeats 1000000 in
theorem lay_b (key cookie : Nat) (gone : Bool) (data : List UInt8) (v : Value) (g p k : Nat) (S : Nat → Prop) (d : Dsk) (s : Vst) (w : World) (h : Vready w g p S d k s) (hv : IsB w v data) (hc : ncheck ⟨key, cookie, gone, data⟩ ≠ 0) :
    Calls Tryz.prog 23 #[.pointer (some ⟨g, 0, none⟩), Nd.nval ⟨key, cookie, gone, data⟩ v] w fun e w' =>
      e = .returned (cerr (ncheck ⟨key, cookie, gone, data⟩)) ∧ VolT w w' g p S d s (k + 4) s := by
  have HVV := Lib.hid (show IsB (w.alloc (Nd.ncells ⟨key, cookie, gone, data⟩ v 48)) v data from hv.mono (below_alloc w _) (Nat.le_refl _))
  have HH := Lib.hid h
  have HC := Lib.hid hc
  obtain ⟨q, hq⟩ : ∃ q, ncheck ⟨key, cookie, gone, data⟩ = q := ⟨_, rfl⟩
  have HQ := Lib.hid hq
  rw [hq] at HC ⊢
  rw [cerr_pos HC.out]
  clear h hv hc hq
  go_enter Tryz.func23, Tryz.ntmps23
  go_wp2_with fail
  refine (Nd.check_any ⟨key, cookie, gone, data⟩ v _ HVV.out).mono ?_
  rintro e w1 ⟨rfl, hb1⟩
  rw [HQ.out, Nd.cerr_pos HC.out]
  have HB1 := Lib.hid (fb_put (n := ⟨key, cookie, gone, data⟩) hb1).2.1
  clear hb1
  go_wp2
  go_ret
  exact ⟨rfl, HH.out.same HB1.out _ (by omega) (by omega)⟩
set_option maxRecDepth 100000 in
set_option maxHeartbeats 1000000 in
theorem lay_c (key cookie : Nat) (gone : Bool) (data : List UInt8) (v : Value) (g p k : Nat) (S : Nat → Prop) (d : Dsk) (s : Vst) (w : World) (h : Vready w g p S d k s) (hv : IsB w v data) (hc : ncheck ⟨key, cookie, gone, data⟩ = 0) (qk : Nat) (qo ql : Int) (qc : Nat) (qg : Bool) (hf : fnd s.idx key = some ⟨qk, qo, ql, qc, qg⟩) (hne : qc ≠ cookie) :
    Calls Tryz.prog 23 #[.pointer (some ⟨g, 0, none⟩), Nd.nval ⟨key, cookie, gone, data⟩ v] w fun e w' =>
      e = .returned (ercode 9) ∧ VolT w w' g p S d s (k + 4) s := by
  have HVV := Lib.hid (show IsB (w.alloc (Nd.ncells ⟨key, cookie, gone, data⟩ v 48)) v data from hv.mono (below_alloc w _) (Nat.le_refl _))
  have HV := Lib.hid hv
  have HH := Lib.hid h
  have HC := Lib.hid hc
  have HF := Lib.hid hf
  have hne' : ¬ (qc : Int) = (cookie : Int) := by omega
  clear h hv hc hf
  go_enter Tryz.func23, Tryz.ntmps23
  go_wp2_with fail
  refine (Nd.check_any ⟨key, cookie, gone, data⟩ v _ HVV.out).mono ?_
  rintro e w1 ⟨rfl, hb1⟩
  rw [HC.out, Nd.cerr_0]
  have HX1 := Lib.hid (fb_put (n := ⟨key, cookie, gone, data⟩) hb1)
  obtain ⟨⟨b0, b1, b2, b3⟩, hB1, hlt1⟩ := HX1.out
  have HB1 := Lib.hid hB1
  obtain ⟨x, xv, hbox, hix⟩ := (HH.out.below HB1.out).box
  have HFV := Lib.hid (find_v g p x xv s key _ HH.out.ok hbox hix)
  rw [HF.out] at HFV
  clear hb1 hB1 hbox hix
  simp only at b0 b1 b2 b3
  go_wp2_with fail
  refine HFV.out.mono ?_
  rintro e w2 ⟨rfl, hb2⟩
  rw [Option.getD_some]
  have HB2 := Lib.hid (HB1.out.trans (hb2.mono HB1.out.size))
  have HX2 := Lib.hid (HX1.out.1.mono hb2 hlt1)
  have hlt2 : w.heap.size < w2.heap.size := Nat.lt_of_lt_of_le hlt1 hb2.size
  clear hb2 b0 b1 b2 b3 HFV HX1
  obtain ⟨b0, b1, b2, b3⟩ := HX2.out
  simp only at b0 b1 b2 b3
  have HT := Lib.hid (fun o2 => HH.out.same (HB2.out.alloc HB2.out.size o2) (k + 4) (by omega) (by omega))
  cases qg with
  | true =>
    rw [show ((hasN (some (⟨qk, qo, ql, qc, true⟩ : Pos)) : Nat) : Int) = 1 from rfl]
    go_wp2
    go_ret
    exact ⟨rfl, HT.out _⟩
  | false =>
    rw [show ((hasN (some (⟨qk, qo, ql, qc, false⟩ : Pos)) : Nat) : Int) = 2 from rfl]
    go_wp2
    go_ret
    exact ⟨rfl, HT.out _⟩
set_option maxRecDepth 100000 in
set_option maxHeartbeats 1000000 in
theorem lay_g (key cookie : Nat) (gone : Bool) (data : List UInt8) (v : Value) (g p k : Nat) (S : Nat → Prop) (d : Dsk) (s : Vst) (w : World) (h : Vready w g p S d k s) (hv : IsB w v data) (hc : ncheck ⟨key, cookie, gone, data⟩ = 0) (qk : Nat) (qo ql : Int) (hf : fnd s.idx key = some ⟨qk, qo, ql, cookie, true⟩) :
    Calls Tryz.prog 23 #[.pointer (some ⟨g, 0, none⟩), Nd.nval ⟨key, cookie, gone, data⟩ v] w fun e w' =>
      e = .returned .nilIface ∧ VolT w w' g p S d s (k + 4) s := by
  have HVV := Lib.hid (show IsB (w.alloc (Nd.ncells ⟨key, cookie, gone, data⟩ v 48)) v data from hv.mono (below_alloc w _) (Nat.le_refl _))
  have HV := Lib.hid hv
  have HH := Lib.hid h
  have HC := Lib.hid hc
  have HF := Lib.hid hf
  clear h hv hc hf
  go_enter Tryz.func23, Tryz.ntmps23
  go_wp2_with fail
  refine (Nd.check_any ⟨key, cookie, gone, data⟩ v _ HVV.out).mono ?_
  rintro e w1 ⟨rfl, hb1⟩
  rw [HC.out, Nd.cerr_0]
  have HX1 := Lib.hid (fb_put (n := ⟨key, cookie, gone, data⟩) hb1)
  obtain ⟨⟨b0, b1, b2, b3⟩, hB1, hlt1⟩ := HX1.out
  have HB1 := Lib.hid hB1
  obtain ⟨x, xv, hbox, hix⟩ := (HH.out.below HB1.out).box
  have HFV := Lib.hid (find_v g p x xv s key _ HH.out.ok hbox hix)
  rw [HF.out] at HFV
  clear hb1 hB1 hbox hix
  simp only at b0 b1 b2 b3
  go_wp2_with fail
  refine HFV.out.mono ?_
  rintro e w2 ⟨rfl, hb2⟩
  rw [Option.getD_some]
  have HB2 := Lib.hid (HB1.out.trans (hb2.mono HB1.out.size))
  have HX2 := Lib.hid (HX1.out.1.mono hb2 hlt1)
  have hlt2 : w.heap.size < w2.heap.size := Nat.lt_of_lt_of_le hlt1 hb2.size
  clear hb2 b0 b1 b2 b3 HFV HX1
  obtain ⟨b0, b1, b2, b3⟩ := HX2.out
  simp only at b0 b1 b2 b3
  have HT := Lib.hid (fun o2 => HH.out.same (HB2.out.alloc HB2.out.size o2) (k + 4) (by omega) (by omega))
  rw [show ((hasN (some (⟨qk, qo, ql, cookie, true⟩ : Pos)) : Nat) : Int) = 1 from rfl]
  go_wp2
  go_ret
  exact ⟨rfl, HT.out _⟩
set_option maxRecDepth 100000 in
set_option maxHeartbeats 1000000 in
theorem lay_n (key cookie : Nat) (gone : Bool) (data : List UInt8) (v : Value) (g p k : Nat) (S : Nat → Prop) (d : Dsk) (s : Vst) (w : World) (h : Vready w g p S d k s) (hv : IsB w v data) (hvS : ∀ b, liesB v data b → ¬ S b) (hn : Ndl.fits ⟨key, cookie, gone, data⟩) (hr : Room' s d ⟨key, cookie, gone, data⟩) (hc : ncheck ⟨key, cookie, gone, data⟩ = 0) (hf : fnd s.idx key = none) :
    Calls Tryz.prog 23 #[.pointer (some ⟨g, 0, none⟩), Nd.nval ⟨key, cookie, gone, data⟩ v] w fun e w' =>
      e = .returned (cerr (s.write ⟨key, cookie, gone, data⟩).2) ∧ VolT w w' g p S d s (k + 4) (s.write ⟨key, cookie, gone, data⟩).1 := by
  have HVV := Lib.hid (show IsB (w.alloc (Nd.ncells ⟨key, cookie, gone, data⟩ v 48)) v data from hv.mono (below_alloc w _) (Nat.le_refl _))
  have HV := Lib.hid hv
  have HH := Lib.hid h
  have HC := Lib.hid hc
  have HVS := Lib.hid hvS
  have HNF := Lib.hid hn
  have HR := Lib.hid hr
  have HF := Lib.hid hf
  clear h hv hc hf hvS hn hr
  go_enter Tryz.func23, Tryz.ntmps23
  go_wp2_with fail
  refine (Nd.check_any ⟨key, cookie, gone, data⟩ v _ HVV.out).mono ?_
  rintro e w1 ⟨rfl, hb1⟩
  rw [HC.out, Nd.cerr_0]
  have HX1 := Lib.hid (fb_put (n := ⟨key, cookie, gone, data⟩) hb1)
  obtain ⟨⟨b0, b1, b2, b3⟩, hB1, hlt1⟩ := HX1.out
  have HB1 := Lib.hid hB1
  obtain ⟨x, xv, hbox, hix⟩ := (HH.out.below HB1.out).box
  have HFV := Lib.hid (find_v g p x xv s key _ HH.out.ok hbox hix)
  rw [HF.out] at HFV
  clear hb1 hB1 hbox hix
  simp only at b0 b1 b2 b3
  go_wp2_with fail
  refine HFV.out.mono ?_
  rintro e w2 ⟨rfl, hb2⟩
  rw [Option.getD_none, show ((hasN none : Nat) : Int) = 0 from rfl, show Q.pval pzero = .agg #[.int .u64 0, .int .i64 0, .int .i64 0, .int .u32 0, .bool false] from rfl]
  have HB2 := Lib.hid (HB1.out.trans (hb2.mono HB1.out.size))
  have HX2 := Lib.hid (HX1.out.1.mono hb2 hlt1)
  have hlt2 : w.heap.size < w2.heap.size := Nat.lt_of_lt_of_le hlt1 hb2.size
  clear hb2 b0 b1 b2 b3 HFV HX1
  obtain ⟨b0, b1, b2, b3⟩ := HX2.out
  simp only at b0 b1 b2 b3
  go_wp2_with fail
  refine (write_w ⟨key, cookie, gone, data⟩ v g p k S d s _ (HH.out.below (HB2.out.alloc HB2.out.size _)) (HV.out.mono (HB2.out.alloc HB2.out.size _) (Nat.le_refl _)) HVS.out ⟨HNF.out, HC.out⟩ HR.out).mono ?_
  rintro e w3 ⟨rfl, ht⟩
  have HT := Lib.hid (VolT.pre (HB2.out.alloc HB2.out.size _) ht)
  obtain ⟨E, hE⟩ : ∃ E, cerr (s.write ⟨key, cookie, gone, data⟩).2 = E := ⟨_, rfl⟩
  have HE := Lib.hid hE
  rw [hE]
  clear ht b0 b1 b2 b3 hE
  go_wp2
  go_ret
  exact ⟨by rw [HE.out]; rfl, HT.out⟩
set_option maxRecDepth 100000 in
set_option maxHeartbeats 1000000 in
theorem lay_w (key cookie : Nat) (data : List UInt8) (v : Value) (g p k : Nat) (S : Nat → Prop) (d : Dsk) (s : Vst) (w : World) (h : Vready w g p S d k s) (hv : IsB w v data) (hvS : ∀ b, liesB v data b → ¬ S b) (hn : Ndl.fits ⟨key, cookie, true, data⟩) (hr : Room' s d ⟨key, cookie, true, data⟩) (hc : ncheck ⟨key, cookie, true, data⟩ = 0) (qk : Nat) (qo ql : Int) (hf : fnd s.idx key = some ⟨qk, qo, ql, cookie, false⟩) :
    Calls Tryz.prog 23 #[.pointer (some ⟨g, 0, none⟩), Nd.nval ⟨key, cookie, true, data⟩ v] w fun e w' =>
      e = .returned (cerr (s.write ⟨key, cookie, true, data⟩).2) ∧ VolT w w' g p S d s (k + 4) (s.write ⟨key, cookie, true, data⟩).1 := by
  have HVV := Lib.hid (show IsB (w.alloc (Nd.ncells ⟨key, cookie, true, data⟩ v 48)) v data from hv.mono (below_alloc w _) (Nat.le_refl _))
  have HV := Lib.hid hv
  have HH := Lib.hid h
  have HC := Lib.hid hc
  have HVS := Lib.hid hvS
  have HNF := Lib.hid hn
  have HR := Lib.hid hr
  have HF := Lib.hid hf
  clear h hv hc hf hvS hn hr
  go_enter Tryz.func23, Tryz.ntmps23
  go_wp2_with fail
  refine (Nd.check_any ⟨key, cookie, true, data⟩ v _ HVV.out).mono ?_
  rintro e w1 ⟨rfl, hb1⟩
  rw [HC.out, Nd.cerr_0]
  have HX1 := Lib.hid (fb_put (n := ⟨key, cookie, true, data⟩) hb1)
  obtain ⟨⟨b0, b1, b2, b3⟩, hB1, hlt1⟩ := HX1.out
  have HB1 := Lib.hid hB1
  obtain ⟨x, xv, hbox, hix⟩ := (HH.out.below HB1.out).box
  have HFV := Lib.hid (find_v g p x xv s key _ HH.out.ok hbox hix)
  rw [HF.out] at HFV
  clear hb1 hB1 hbox hix
  simp only at b0 b1 b2 b3
  go_wp2_with fail
  refine HFV.out.mono ?_
  rintro e w2 ⟨rfl, hb2⟩
  rw [Option.getD_some, show ((hasN (some (⟨qk, qo, ql, cookie, false⟩ : Pos)) : Nat) : Int) = 2 from rfl]
  have HB2 := Lib.hid (HB1.out.trans (hb2.mono HB1.out.size))
  have HX2 := Lib.hid (HX1.out.1.mono hb2 hlt1)
  have hlt2 : w.heap.size < w2.heap.size := Nat.lt_of_lt_of_le hlt1 hb2.size
  clear hb2 b0 b1 b2 b3 HFV HX1
  obtain ⟨b0, b1, b2, b3⟩ := HX2.out
  simp only at b0 b1 b2 b3
  go_wp2_with fail
  refine (write_w ⟨key, cookie, true, data⟩ v g p k S d s _ (HH.out.below (HB2.out.alloc HB2.out.size _)) (HV.out.mono (HB2.out.alloc HB2.out.size _) (Nat.le_refl _)) HVS.out ⟨HNF.out, HC.out⟩ HR.out).mono ?_
  rintro e w3 ⟨rfl, ht⟩
  have HT := Lib.hid (VolT.pre (HB2.out.alloc HB2.out.size _) ht)
  obtain ⟨E, hE⟩ : ∃ E, cerr (s.write ⟨key, cookie, true, data⟩).2 = E := ⟨_, rfl⟩
  have HE := Lib.hid hE
  rw [hE]
  clear ht b0 b1 b2 b3 hE
  go_wp2
  go_ret
  exact ⟨by rw [HE.out]; rfl, HT.out⟩
set_option maxRecDepth 100000 in
set_option maxHeartbeats 1000000 in
theorem lay_h (key cookie : Nat) (data : List UInt8) (v : Value) (g p k : Nat) (S : Nat → Prop) (d : Dsk) (s : Vst) (w : World) (h : Vready w g p S d k s) (hv : IsB w v data) (hc : ncheck ⟨key, cookie, false, data⟩ = 0) (qk : Nat) (qo ql : Int) (hf : fnd s.idx key = some ⟨qk, qo, ql, cookie, false⟩) (o : Ndl) (ho : newest s.ns key = some o) (hlk : s.look key cookie = 0) :
    Calls Tryz.prog 23 #[.pointer (some ⟨g, 0, none⟩), Nd.nval ⟨key, cookie, false, data⟩ v] w fun e w' =>
      e = .returned (cerr (if sameN o ⟨key, cookie, false, data⟩ = true then 0 else 8)) ∧ VolT w w' g p S d s (k + 4) s := by
  have HVV := Lib.hid (show IsB (w.alloc (Nd.ncells ⟨key, cookie, false, data⟩ v 48)) v data from hv.mono (below_alloc w _) (Nat.le_refl _))
  have HV := Lib.hid hv
  have HH := Lib.hid h
  have HC := Lib.hid hc
  have HF := Lib.hid hf
  have HHO := Lib.hid (fun wx (hb : Below w.heap.size w wx) => holds_v key cookie data v g p k S d s wx (h.below hb) (hv.mono hb (Nat.le_refl _)) o ho hlk)
  obtain ⟨E, hE⟩ : ∃ E, cerr (if sameN o ⟨key, cookie, false, data⟩ = true then 0 else 8) = E := ⟨_, rfl⟩
  rw [hE] at HHO ⊢
  clear h hv hc hf ho hlk hE
  go_enter Tryz.func23, Tryz.ntmps23
  go_wp2_with fail
  refine (Nd.check_any ⟨key, cookie, false, data⟩ v _ HVV.out).mono ?_
  rintro e w1 ⟨rfl, hb1⟩
  rw [HC.out, Nd.cerr_0]
  have HX1 := Lib.hid (fb_put (n := ⟨key, cookie, false, data⟩) hb1)
  obtain ⟨⟨b0, b1, b2, b3⟩, hB1, hlt1⟩ := HX1.out
  have HB1 := Lib.hid hB1
  obtain ⟨x, xv, hbox, hix⟩ := (HH.out.below HB1.out).box
  have HFV := Lib.hid (find_v g p x xv s key _ HH.out.ok hbox hix)
  rw [HF.out] at HFV
  clear hb1 hB1 hbox hix
  simp only at b0 b1 b2 b3
  go_wp2_with fail
  refine HFV.out.mono ?_
  rintro e w2 ⟨rfl, hb2⟩
  rw [Option.getD_some, show ((hasN (some (⟨qk, qo, ql, cookie, false⟩ : Pos)) : Nat) : Int) = 2 from rfl]
  have HB2 := Lib.hid (HB1.out.trans (hb2.mono HB1.out.size))
  have HX2 := Lib.hid (HX1.out.1.mono hb2 hlt1)
  have hlt2 : w.heap.size < w2.heap.size := Nat.lt_of_lt_of_le hlt1 hb2.size
  clear hb2 b0 b1 b2 b3 HFV HX1
  obtain ⟨b0, b1, b2, b3⟩ := HX2.out
  simp only at b0 b1 b2 b3
  have HB3 := Lib.hid (HB2.out.alloc HB2.out.size (.cells #[.int .u64 (qk : Int), .int .i64 qo, .int .i64 ql, .int .u32 (cookie : Int), .bool false] 83))
  go_wp2_with fail
  refine (HHO.out _ HB3.out).mono ?_
  rintro e w3 ⟨rfl, hb3⟩
  have HT := Lib.hid (HH.out.same (HB3.out.trans (hb3.mono HB3.out.size)) (k + 4) (by omega) (by omega))
  clear hb3 HHO b0 b1 b2 b3
  go_wp2
  go_ret
  exact ⟨rfl, HT.out⟩
theorem lay_v (n : Ndl) (v : Value) (g p k : Nat) (S : Nat → Prop) (d : Dsk) (s : Vst) (w : World) (h : Vready w g p S d k s) (hv : IsB w v n.data) (hvS : ∀ b, liesB v n.data b → ¬ S b) (hn : n.fits) (hr : Room' s d n) :
    Calls Tryz.prog 23 #[.pointer (some ⟨g, 0, none⟩), Nd.nval n v] w fun e w' =>
      e = .returned (cerr (s.lay n).2) ∧ VolT w w' g p S d s (k + 4) (s.lay n).1 := by
  obtain ⟨key, cookie, gone, data⟩ := n
  by_cases hc : ncheck ⟨key, cookie, gone, data⟩ = 0
  · cases ho : newest s.ns key with
    | none =>
      rw [show s.lay ⟨key, cookie, gone, data⟩ = s.write ⟨key, cookie, gone, data⟩ by unfold Vst.lay; rw [if_neg (by simp [hc])]; simp only [ho]]
      exact lay_n key cookie gone data v g p k S d s w h hv hvS hn hr hc (Vst.fnd_none ho)
    | some o =>
      obtain ⟨a, b, h1, hf⟩ := Vst.fnd_some ho
      have hl : ∀ r, (if o.cookie ≠ cookie then (s, 9) else if o.gone = true then (s, 0) else if gone = true then s.write ⟨key, cookie, gone, data⟩ else if sameN o ⟨key, cookie, gone, data⟩ = true then (s, 0) else (s, 8)) = r → s.lay ⟨key, cookie, gone, data⟩ = r := fun r e => by
        rw [← e]; unfold Vst.lay; rw [if_neg (by simp [hc])]; simp only [ho]
      by_cases hk : o.cookie = cookie
      · cases hg : o.gone with
        | true =>
          rw [hl (s, 0) (by rw [if_neg (by simp [hk]), if_pos hg])]
          exact lay_g key cookie gone data v g p k S d s w h hv hc _ _ _ (by rw [hf]; unfold posN; rw [hk, hg])
        | false =>
          have hf' : fnd s.idx key = some ⟨o.key, ((16 + tot a : Nat) : Int), (o.data.length : Int), cookie, false⟩ := by rw [hf]; unfold posN; rw [hk, hg]
          cases gone with
          | true =>
            rw [hl (s.write ⟨key, cookie, true, data⟩) (by rw [if_neg (by simp [hk]), if_neg (by simp [hg]), if_pos rfl])]
            exact lay_w key cookie data v g p k S d s w h hv hvS hn hr hc _ _ _ hf'
          | false =>
            have hlk : s.look key cookie = 0 := by unfold Vst.look; rw [ho]; simp only; rw [if_neg (by simp [hg]), if_neg (by simp [hk])]
            have := lay_h key cookie data v g p k S d s w h hv hc _ _ _ hf' o ho hlk
            by_cases hs : sameN o ⟨key, cookie, false, data⟩ = true
            · rw [hl (s, 0) (by rw [if_neg (by simp [hk]), if_neg (by simp [hg]), if_neg (by simp), if_pos hs])]
              rw [if_pos hs] at this
              exact this
            · rw [hl (s, 8) (by rw [if_neg (by simp [hk]), if_neg (by simp [hg]), if_neg (by simp), if_neg hs])]
              rw [if_neg hs] at this
              exact this
      · rw [hl (s, 9) (by rw [if_pos hk])]
        exact lay_c key cookie gone data v g p k S d s w h hv hc _ _ _ _ _ hf hk
  · rw [show s.lay ⟨key, cookie, gone, data⟩ = (s, ncheck ⟨key, cookie, gone, data⟩) by unfold Vst.lay; rw [if_pos hc]]
    exact lay_b key cookie gone data v g p k S d s w h hv hc

end Go.Proofs.YtoblbipkkdiddaaGreatDoor
end

section
namespace Go.Cor

theorem psn_at {l : List Pos} (hs : Asc l) {i : Nat} {p : Pos} (h : l[i]? = some p) : psn l p.key = i := by
  rcases Nat.lt_trichotomy (psn l p.key) i with h1 | h1 | h1
  · have hl := (List.getElem?_eq_some_iff.1 h).1
    have h2 : l[psn l p.key]? = some l[psn l p.key] := List.getElem?_eq_getElem (by omega)
    have h3 := psn_above hs h2 (Nat.le_refl _)
    have h4 := hs.lt h2 h h1
    omega
  · exact h1
  · have := psn_below h h1
    omega
/-- The needles of a load. -/
def Vst.load (s : Vst) (from_ : Nat) (most : Nat) : List Ndl := (s.tops.drop (psn s.idx from_)).take most
/-- Are there keys behind these? -/
def Vst.more (s : Vst) (from_ most : Nat) : Bool := decide (psn s.idx from_ + most < s.idx.length)
/-- The first one of them. -/
def Vst.next (s : Vst) (from_ most : Nat) : Nat := if psn s.idx from_ + most < s.idx.length then (pat s.idx (psn s.idx from_ + most)).key else 0
theorem Vst.next_psn {s : Vst} {from_ most : Nat} (h : s.more from_ most = true) : psn s.idx (s.next from_ most) = psn s.idx from_ + most := by
  have h1 : psn s.idx from_ + most < s.idx.length := of_decide_eq_true h
  unfold Vst.next
  rw [if_pos h1]
  exact psn_at s.idx_asc (get_pat h1)
theorem Vst.load_len (s : Vst) (from_ most : Nat) : (s.load from_ most).length = min most (s.idx.length - psn s.idx from_) := by
  unfold Vst.load
  rw [List.length_take, List.length_drop, s.tops_len]
theorem Vst.tops_get {s : Vst} {i : Nat} (h : i < s.idx.length) : ∃ n, s.tops[i]? = some n ∧ newest s.ns n.key = some n ∧ n.key = (pat s.idx i).key ∧ (pat s.idx i).gone = n.gone ∧ (pat s.idx i).cookie = n.cookie := by
  obtain ⟨n, h1, h2, h3, h4, _⟩ := s.top (pat_mem h)
  refine ⟨n, ?_, by rw [h2]; exact h1, h2, h3, h4⟩
  unfold Vst.tops
  rw [List.getElem?_map, get_pat h]
  show some ((newest s.ns (pat s.idx i).key).getD _) = _
  rw [h1, Option.getD_some]
/-- A load of all. -/
theorem Vst.load_all (s : Vst) {most : Nat} (h : s.idx.length ≤ most) : s.load 0 most = s.tops ∧ s.more 0 most = false := by
  unfold Vst.load Vst.more
  rw [psn_zero]
  exact ⟨List.take_of_length_le (by rw [List.length_drop, s.tops_len]; omega), decide_eq_false (by omega)⟩

/-- What two volumes have alike: each key, and whether it is gone. -/
def Alike (a b : Vst) : Prop := ∀ k, (newest a.ns k).map Ndl.gone = (newest b.ns k).map Ndl.gone
def flagP (p : Pos) : Pos := ⟨p.key, 0, 0, 0, p.gone⟩
theorem flag_asc (s : Vst) : Asc (s.idx.map flagP) := by
  unfold Asc
  rw [List.pairwise_map]
  exact s.idx_asc
theorem flag_mem (s : Vst) (q : Pos) : q ∈ s.idx.map flagP ↔ ∃ g, (newest s.ns q.key).map Ndl.gone = some g ∧ q = ⟨q.key, 0, 0, 0, g⟩ := by
  constructor
  · intro h
    obtain ⟨p, hp, rfl⟩ := List.mem_map.1 h
    obtain ⟨n, h1, _, h3, _⟩ := s.top hp
    exact ⟨p.gone, by show (newest s.ns p.key).map Ndl.gone = _; rw [h1, h3]; rfl, rfl⟩
  · rintro ⟨g, h1, h2⟩
    cases ho : newest s.ns q.key with
    | none => rw [ho] at h1; cases h1
    | some n =>
      rw [ho] at h1
      cases h1
      obtain ⟨p, hp, hk⟩ := Vst.idx_has ho
      obtain ⟨m, g1, _, g3, _⟩ := s.top hp
      rw [hk, ho] at g1
      cases g1
      refine List.mem_map.2 ⟨p, hp, ?_⟩
      rw [h2]
      unfold flagP
      rw [hk, g3]
theorem Alike.flags {a b : Vst} (h : Alike a b) : a.idx.map flagP = b.idx.map flagP :=
  asc_ext (flag_asc a) (flag_asc b) fun q => by
    rw [flag_mem, flag_mem, h q.key]
theorem Alike.len {a b : Vst} (h : Alike a b) : a.idx.length = b.idx.length := by
  have := congrArg List.length h.flags
  simpa using this
theorem Alike.count {a b : Vst} (h : Alike a b) : (a.idx.filter Pos.gone).length = (b.idx.filter Pos.gone).length := by
  have h1 : ∀ l : List Pos, (l.filter Pos.gone).length = ((l.map flagP).filter Pos.gone).length := fun l => by
    induction l with
    | nil => rfl
    | cons p r ih =>
      simp only [List.map_cons, List.filter_cons]
      show _ = (if p.gone = true then _ else _ : List Pos).length
      split
      · simp [ih]
      · exact ih
  exact (h1 a.idx).trans ((congrArg (fun l => (l.filter Pos.gone).length) h.flags).trans (h1 b.idx).symm)
theorem Alike.countP {a b : Vst} (h : Alike a b) : a.idx.countP (fun p => p.gone) = b.idx.countP (fun p => p.gone) := by
  rw [List.countP_eq_length_filter, List.countP_eq_length_filter]
  exact h.count
/-- Both ways laid: alike. -/
theorem both_alike {a b c e : Vst} (hc : ∀ k, newest c.ns k = joinN (newest a.ns k) (newest b.ns k)) (he : ∀ k, newest e.ns k = joinN (newest c.ns k) (newest a.ns k)) :
    Alike e c ∧ (∀ k n, newest e.ns k = some n → ∃ o, newest c.ns k = some o ∧ (n.gone = true → o.gone = true)) := by
  have key : ∀ k, (newest e.ns k).map Ndl.gone = (newest c.ns k).map Ndl.gone := fun k => by
    rw [he, hc]
    cases newest a.ns k with
    | none =>
      rw [joinN_none]
      cases newest b.ns k <;> rfl
    | some n =>
      cases newest b.ns k with
      | none =>
        show (if n.gone = true then some n else if n.gone = true then some n else some n).map Ndl.gone = _
        split
        · rfl
        · rfl
      | some o =>
        show (joinN (if o.gone = true then some o else if n.gone = true then some n else some o) (some n)).map Ndl.gone = (if o.gone = true then some o else if n.gone = true then some n else some o).map Ndl.gone
        cases h1 : o.gone <;> cases h2 : n.gone <;> simp [joinN, h1, h2]
  refine ⟨key, fun k n hn => ?_⟩
  have := key k
  rw [hn] at this
  cases hck : newest c.ns k with
  | none => rw [hck] at this; cases this
  | some o =>
    rw [hck] at this
    simp only [Option.map_some, Option.some.injEq] at this
    exact ⟨o, rfl, fun h => by rw [← this]; exact h⟩

end Go.Cor
end

section
namespace Go.Proofs.YtoblbipkkdiddaaGreatDoor
open Go.RowKit Go.Cor

theorem mk_keep {wx wy : World} {B : Nat} {c0 c1 c2 c3 : Value} (hb : Below wx.heap.size wx wy) (hB : B < wx.heap.size)
    (K : wx.cell? ⟨B, 0, none⟩ = some c0 ∧ wx.cell? ⟨B, 1, none⟩ = some c1 ∧ wx.cell? ⟨B, 2, none⟩ = some c2 ∧ wx.cell? ⟨B, 3, none⟩ = some c3) : wy.cell? ⟨B, 0, none⟩ = some c0 ∧ wy.cell? ⟨B, 1, none⟩ = some c1 ∧ wy.cell? ⟨B, 2, none⟩ = some c2 ∧ wy.cell? ⟨B, 3, none⟩ = some c3 := four_below hb hB K
/-- A volume as it is made. -/
def vst0 (num most ep : Nat) : Vst := ⟨num, 1, most, ep, false, []⟩
/-- What Make leaves. -/
def Made (w w' : World) (g p : Nat) (Sd : Nat → Prop) (d : Dsk) (k' : Nat) (s : Vst) : Prop :=
  ∃ S' d', Vl w' g p S' d' k' s ∧ Kept Sd w w' ∧ (∀ b, S' b → Sd b ∨ w.heap.size ≤ b) ∧ w.heap.size ≤ g ∧ Lies d' k' s ∧ s.Ok ∧ d'.cap = d.cap ∧ d'.now.length = d.now.length + 2 ∧ d'.used = d.used + 40 ∧ ∀ m, m ≠ nmD s.num s.gen → m ≠ nmM s.num → m ≠ nmS s.num → view d' m = view d m

theorem make_plain {d d1 d2 : Dsk} {k num most ep : Nat} {X Y : List UInt8} (hX : X.length = 16) (hY : Y.length = 24) (hM : view d (nmM num) = none) (hS : view d (nmS num) = none)
    (h1 : Went d d1 (k + 6) (d.used + X.length) (d.now.length + 1) (fun m => if m = nmD num 1 then some X else view d m))
    (h2 : Went d1 d2 (k + 16) (d1.used + 24 - olen (view d1 (nmM num))) (d1.now.length + 1 - if (view d1 (nmM num)).isSome then 1 else 0) (fun m => if m = nmM num then some Y else view d1 m)) :
    Lies d2 (k + 16) (vst0 num most ep) ∧ d2.cap = d.cap ∧ d2.now.length = d.now.length + 2 ∧ d2.used = d.used + 40 ∧ ∀ m, m ≠ nmD num 1 → m ≠ nmM num → m ≠ nmS num → view d2 m = view d m := by
  have hv1 : view d1 (nmM num) = none := by rw [h1.view, if_neg (nmD_nmM _ _ _), hM]
  refine ⟨⟨h2.fs, ⟨X, hX, ?_⟩, ⟨Y, ?_, hY⟩, ?_⟩, h2.cap.trans h1.cap, ?_, ?_, fun m a b _ => by rw [h2.view, if_neg b, h1.view, if_neg a]⟩
  · show view d2 (nmD num 1) = some (X ++ [])
    rw [h2.view, if_neg (fun e => nmD_nmM _ _ _ e.symm), h1.view, if_pos rfl, List.append_nil]
  · show view d2 (nmM num) = some Y
    rw [h2.view, if_pos rfl]
  · show view d2 (nmS num) = none
    rw [h2.view, if_neg (nmM_nmS _ _), h1.view, if_neg (nmD_nmS _ _ _), hS]
  · rw [h2.len, h1.len, hv1]
    simp
  · rw [h2.used, h1.used, hv1, hX]
    simp only [olen]
    omega

set_option maxRecDepth 100000 in
set_option maxHeartbeats 1000000 in
theorem make_v (num most ep p k : Nat) (Sd : Nat → Prop) (d : Dsk) (w : World) (h : Dk w p Sd d k) (hk : k + 16 ≤ 90000) (hf : Fs d k) (n1 : 1 ≤ num) (n9 : num < 10) (hm : 16 ≤ most) (hm2 : most ≤ 16777216) (he : ep ≤ 2147483647)
    (hD : view d (nmD num 1) = none) (hM : view d (nmM num) = none) (hS : view d (nmS num) = none) (hc : d.now.length < 60) (hu : d.used + 40 ≤ d.cap) :
    Calls Tryz.prog 25 #[.pointer (some ⟨p, 0, none⟩), .int .i64 (num : Int), .int .i64 (most : Int), .int .i64 (ep : Int)] w fun e w' =>
      ∃ g, e = .returned (.tuple #[.pointer (some ⟨g, 0, none⟩), .nilIface]) ∧ Made w w' g p Sd d (k + 16) (vst0 num most ep) := by
  have HH := Lib.hid h
  have HF := Lib.hid hf
  have HDD := Lib.hid hD
  have HM := Lib.hid hM
  have HS := Lib.hid hS
  have HC := Lib.hid hc
  have HU := Lib.hid hu
  have hde : decide (0 ≤ (ep : Int) ∧ (ep : Int) ≤ 2147483647) = true := decide_eq_true (by omega)
  clear h hf hD hM hS hc hu
  go_enter Tryz.func25, Tryz.ntmps25
  go_wp2_with fail
  refine (can_yes num most _ n1 n9 hm hm2).mono ?_
  rintro e w1 ⟨rfl, rfl⟩
  go_wp2_with fail
  refine (epochCan_any (ep : Int) _).mono ?_
  rintro e w1 ⟨rfl, rfl⟩
  rw [hde]
  go_wp2_with fail
  refine (names_h num 1 _ n9 (by omega)).mono ?_
  rintro e w2 ⟨rfl, rfl⟩
  go_wp2_with fail
  refine (named_d w p k Sd d (nmM num) HH.out).mono ?_
  rintro e w3 ⟨rfl, hb3⟩
  rw [HM.out, Option.isSome_none]
  have HB3 := Lib.hid hb3
  clear hb3
  go_wp2_with fail
  refine (putSuper_ok num 1 _ n1 n9 (by omega) (by omega)).mono ?_
  rintro e w4 ⟨q, cap, rfl, ⟨X, hX, hown⟩, hb4⟩
  have HB4 := Lib.hid (HB3.out.trans (hb4.mono HB3.out.size))
  have HI4 := Lib.hid (IsB.own hown hX.symm)
  have hfresh : ∀ b, liesB (.slice (some ⟨q, 0, none⟩) 16 cap) X b → ¬ Sd b := fun b hb hs => by
    have h1 := (hown.lt b hb.2).1
    have h2 := HH.out.lt b hs
    have h3 := HB3.out.size
    omega
  have HFR := Lib.hid hfresh
  have HD4 := Lib.hid (HH.out.below HB4.out (Nat.le_refl _))
  clear hown hb4 hfresh
  go_wp2_with fail
  refine (create_d w4 p k Sd d (nmD num 1) _ X HD4.out (by omega) HF.out (isNm_D n9 (by omega)) HDD.out (by have := HC.out; omega) HI4.out HFR.out (by omega) (by have := HU.out; omega)).mono ?_
  rintro e w5 ⟨rfl, d1, ht5, hw5⟩
  obtain ⟨S5, hd5, hk5, hs5⟩ := Dt.pre HB4.out ht5
  have HD5 := Lib.hid hd5
  have HK5 := Lib.hid hk5
  have HS5 := Lib.hid hs5
  have HW5 := Lib.hid hw5
  clear ht5 hd5 hk5 hs5 hw5
  go_wp2_with fail
  have hal5 := below_alloc w5 (.cells #[.int .i64 (num : Int), .int .i64 1, .int .i64 (ep : Int), .bool false] 104)
  have HZ5 := Lib.hid (Blk.new w5 #[.int .i64 (num : Int), .int .i64 1, .int .i64 (ep : Int), .bool false] 104)
  have hv1S : view d1 (nmS num) = none := by rw [HW5.out.view, if_neg (nmD_nmS _ _ _), HS.out]
  refine (lay_d _ p (k + 6) S5 d1 num 1 ep false (HD5.out.below hal5 (Nat.le_refl _)) (by omega) HW5.out.fs n1 n9 (by omega) (by omega) he hv1S (by rw [HW5.out.len]; have := HC.out; omega) (by rw [HW5.out.used, HW5.out.cap, hX]; have := HU.out; omega)).mono ?_
  rintro e w6 ⟨rfl, d2, Y, hY, ht6, hw6⟩
  have HP := Lib.hid (make_plain (most := most) (ep := ep) hX hY HM.out HS.out HW5.out hw6)
  have hb5 : Kept Sd w (w5.alloc (.cells #[.int .i64 (num : Int), .int .i64 1, .int .i64 (ep : Int), .bool false] 104)) := HK5.out.alloc _
  obtain ⟨S6, hd6, hk6, hs6⟩ := ht6
  have h5w : w.heap.size ≤ w5.heap.size := HK5.out.size
  have hz6 := HZ5.out.kept hk6 (fun hs => by have := HD5.out.lt _ hs; omega)
  have HK6 := Lib.hid (hb5.trans hk6 (fun j hj hlt => by
    rcases HS5.out j hj with h | h
    · exact h
    · omega))
  have HS6 := Lib.hid (show ∀ b, S6 b → Sd b ∨ w.heap.size ≤ b from fun b hb => by
    rcases hs6 b hb with h | h
    · exact HS5.out b h
    · exact .inr (Nat.le_trans (Nat.le_trans h5w hal5.size) h))
  have HD6 := Lib.hid hd6
  have K0 : w6.drew.cell? ⟨w5.heap.size, 0, none⟩ = some (.int .i64 (num : Int)) ∧ w6.drew.cell? ⟨w5.heap.size, 1, none⟩ = some (.int .i64 1) ∧ w6.drew.cell? ⟨w5.heap.size, 2, none⟩ = some (.int .i64 (ep : Int)) ∧ w6.drew.cell? ⟨w5.heap.size, 3, none⟩ = some (.bool false) := ⟨hz6.cell 0 rfl, hz6.cell 1 rfl, hz6.cell 2 rfl, hz6.cell 3 rfl⟩
  have hl56 : w5.heap.size < w6.heap.size := hz6.lt
  have hl6 : w.heap.size ≤ w6.heap.size := HK6.out.size
  clear hw6 hk6 hs6 hd6 hz6 hb5 HZ5 hv1S hal5
  go_upto_region 18 with fail
  go_region_held3 (fun wx => wx.cell? ⟨w5.heap.size, 0, none⟩ = some (.int .i64 (num : Int)) ∧ wx.cell? ⟨w5.heap.size, 1, none⟩ = some (.int .i64 1) ∧ wx.cell? ⟨w5.heap.size, 2, none⟩ = some (.int .i64 (ep : Int)) ∧ wx.cell? ⟨w5.heap.size, 3, none⟩ = some (.bool false)) (first | exact K0 | exact Ka | exact mk_keep (below_alloc _ _) (Nat.lt_of_lt_of_le hl56 hb7.size) Ka) (first | (go_at_call 58; refine (Q.new_any (.slice none 0 0) [] w6.drew (Q.IsP.nil _) (by decide)).mono ?_; rintro e w7 ⟨x, rfl, hown7, hb7⟩; have Ka := mk_keep hb7 hl56 K0))
  clear K0 Ka
  have h67 : w6.heap.size ≤ w7.heap.size := hb7.size
  obtain ⟨xv, hix, hge⟩ := hown7
  have hdk := (HD6.out.below (((Below.refl _ w6).drew).trans hb7) (Nat.le_refl _)).below (below_alloc w7 (.cells #[.pointer (some ⟨p, 0, none⟩), .int .i64 (num : Int), .int .i64 1, .int .i64 (ep : Int), .bool false, .int .i64 (most : Int), .int .i64 16, .pointer (some ⟨x, 0, none⟩)] 107)) (Nat.le_refl _)
  have hbx := Blk.new w7 (vcells p x (vst0 num most ep)) 107
  have hixa : Q.At (w7.alloc (.cells #[.pointer (some ⟨p, 0, none⟩), .int .i64 (num : Int), .int .i64 1, .int .i64 (ep : Int), .bool false, .int .i64 (most : Int), .int .i64 16, .pointer (some ⟨x, 0, none⟩)] 107)) x xv (vst0 num most ep).idx := hix.below (below_alloc w7 _) (Nat.le_refl _)
  have hgx : ¬ Q.own x xv w7.heap.size := fun h => by have := hix.lt _ h; omega
  have hgd : ¬ S6 w7.heap.size := fun h => by have := HD6.out.lt _ h; omega
  have hxd : ∀ b, Q.own x xv b → ¬ S6 b := fun b h1 h2 => by
    have := hge b h1
    have h3 := HD6.out.lt _ h2
    have h4 : w6.drew.heap.size = w6.heap.size := rfl
    omega
  have hok : (vst0 num most ep).Ok := ⟨n1, n9, Nat.le_refl 1, Nat.lt_of_sub_pos (Nat.succ_pos 8), he, hm2, hm, Nat.succ_pos 4095, fun n hn => by cases hn⟩
  have hM : Made w (w7.alloc (.cells #[.pointer (some ⟨p, 0, none⟩), .int .i64 (num : Int), .int .i64 1, .int .i64 (ep : Int), .bool false, .int .i64 (most : Int), .int .i64 16, .pointer (some ⟨x, 0, none⟩)] 107)) w7.heap.size p Sd d (k + 16) (vst0 num most ep) := by
    refine ⟨fun b => b = w7.heap.size ∨ Q.own x xv b ∨ S6 b, d2, ⟨x, xv, S6, ⟨hbx, hixa, hdk, hgx, hgd, hxd⟩, fun b => Iff.rfl⟩, ?_, fun b hb => ?_, ?_, HP.out.1, hok, HP.out.2.1, HP.out.2.2.1, HP.out.2.2.2.1, HP.out.2.2.2.2⟩
    · exact (HK6.out.trans (Kept.of_below (S := fun _ => False) (((Below.refl _ w6).drew).trans hb7) (Nat.le_refl _)) (fun _ h => h.elim)).alloc _
    · rcases hb with rfl | h | h
      · exact .inr (by omega)
      · have := hge b h
        have h4 : w6.drew.heap.size = w6.heap.size := rfl
        exact .inr (by omega)
      · exact HS6.out b h
    · omega
  have HMM := Lib.hid hM
  clear hM hok hxd hgd hgx hixa hbx hdk hix hge hb7
  go_wp2
  go_ret2
  exact ⟨_, rfl, HMM.out⟩

end Go.Proofs.YtoblbipkkdiddaaGreatDoor
end

section
namespace Go.Proofs.YtoblbipkkdiddaaGreatDoor.Q
open Go.RowKit Go.Cor

theorem psn_is {l : List Pos} (hs : Asc l) {i k : Nat} {e : Pos} (h : l[i]? = some e) (hk : e.key = k) : psn l k = i := by
  have hlt := (List.getElem?_eq_some_iff.1 h).1
  by_cases h1 : i < psn l k
  · have := psn_below h h1
    omega
  · by_cases h2 : psn l k < i
    · have he : l[psn l k]? = some (pat l (psn l k)) := get_pat (by omega)
      have h3 := psn_above hs he (Nat.le_refl _)
      have h4 := hs.lt he h h2
      omega
    · omega
theorem fnd_is {l : List Pos} {i k : Nat} {e : Pos} (hs : Asc l) (h : l[i]? = some e) (hk : e.key = k) : fnd l k = some e := (fnd_iff hs).2 ⟨List.mem_of_getElem? h, hk⟩
theorem fnd_no {l : List Pos} {k : Nat} (hs : Asc l) (h : ∀ i, i < l.length → (pat l i).key ≠ k) : fnd l k = none := by
  cases hf : fnd l k with
  | none => rfl
  | some q =>
    obtain ⟨hm, hk⟩ := (fnd_iff hs).1 hf
    obtain ⟨i, hi⟩ := List.getElem?_of_mem hm
    exact absurd (by rw [pat_of hi]; exact hk) (h i (List.getElem?_eq_some_iff.1 hi).1)
/-- Where a key stands, or below 0. -/
def fidx (l : List Pos) (k : Nat) : Int := if (fnd l k).isSome then (psn l k : Int) else -1

set_option maxHeartbeats 1000000 in
theorem rfind_any (v : Value) (l : List Pos) (k : Nat) (w : World) (hv : IsP w v l) (hs : Asc l) (hl : l.length ≤ 1048576) :
    Calls Tryz.prog 70 #[v, .int .u64 (k : Int)] w fun e w' => e = .returned (.int .i64 (fidx l k)) ∧ w = w' := by
  obtain ⟨N, hN⟩ : ∃ N, l.length = N := ⟨_, rfl⟩
  obtain ⟨r, hr⟩ : ∃ r, fidx l k = r := ⟨_, rfl⟩
  have hlen := fun W => len_P (P := Tryz.prog) hv hN 27 3 _ Tryz.underlying27 W
  have HV := Lib.hid hv
  rw [hN] at hl
  rw [hr]
  have HN := Lib.hid hN
  have HR := Lib.hid hr
  clear hv hN hr
  go_enter Tryz.func70, Tryz.ntmps70
  go_wp2
  go_loop [5] (fun c => ∃ i : Nat, i ≤ N ∧ c = .int .i64 i ∧ Hid (∀ j, j < i → (pat l j).key ≠ k)) (fun c => N - (intOf c).toNat)
  case atStart => exact ⟨0, Nat.zero_le _, rfl, Lib.hid (fun j hj => absurd hj (Nat.not_lt_zero j))⟩
  case round =>
    obtain ⟨i, hiN, rfl, HJ⟩ := hrel
    by_cases hlt : i < N
    · obtain ⟨p, hp⟩ : ∃ p, pat l i = p := ⟨_, rfl⟩
      obtain ⟨b, o, hidx, c0, c1, c2, c3, c4⟩ := indexAt_P HV.out 27 67 Tryz.underlying27 Tryz.sizePosR i (by rw [HN.out]; omega)
      rw [hp] at c0 c1 c2 c3 c4
      have hget : l[i]? = some p := by rw [← hp]; exact get_pat (by rw [HN.out]; exact hlt)
      by_cases hk : p.key = k
      · obtain rfl : r = (i : Int) := by
          rw [← HR.out]
          unfold fidx
          rw [fnd_is hs hget hk, psn_is hs hget hk]
          rfl
        have hb : ((p.key : Int) == (k : Int)) = true := by rw [beq_iff_eq]; omega
        clear hk hget hp
        go_wp2
        go_ret
        exact ⟨rfl, rfl⟩
      · have hb : ((p.key : Int) == (k : Int)) = false := by rw [beq_eq_false_iff_ne]; omega
        have HJ2 := Lib.hid (show ∀ j, j < i + 1 → (pat l j).key ≠ k from fun j hj => by
          by_cases h : j < i
          · exact HJ.out j h
          · obtain rfl : j = i := by omega
            rw [hp]
            exact hk)
        clear hk hget hp
        go_wp2
        go_round
        case rel => exact ⟨i + 1, by omega, by go_num, HJ2⟩
        case measure => simp [intOf]; omega
    · obtain rfl : i = N := by omega
      obtain rfl : r = -1 := by
        rw [← HR.out]
        unfold fidx
        rw [fnd_no hs (fun j hj => HJ.out j (by rw [← HN.out]; exact hj))]
        rfl
      go_wp2
      go_ret
      exact ⟨rfl, rfl⟩

/-- A put, in two parts. -/
def thereN (l : List Pos) (k : Nat) : Nat := if (fnd l k).isSome then 1 else 0
theorem put_parts (l : List Pos) (p : Pos) : put l p = l.take (psn l p.key) ++ p :: l.drop (psn l p.key + thereN l p.key) := by
  unfold thereN
  cases h : fnd l p.key with
  | none => rw [put_new h]; rfl
  | some q =>
    have hlt := (List.getElem?_eq_some_iff.1 (fnd_at h).1).1
    rw [put_there h, List.set_eq_take_append_cons_drop, if_pos hlt]
    rfl

set_option maxRecDepth 100000 in
set_option maxHeartbeats 2000000 in
theorem rput_any (v : Value) (l : List Pos) (p : Pos) (w : World) (hv : IsP w v l) (hs : Asc l) (hl : l.length < 4096) :
    Calls Tryz.prog 71 #[v, pval p] w fun e w' =>
      ∃ v', e = .returned (.tuple #[v', .bool true]) ∧ w'.ownsRow w.heap.size 67 5 v' (put l p).length (row pcells (put l p)) ∧ Below w.heap.size w w' := by
  obtain ⟨i0, hi, hz0, hz1, hz2⟩ := info_parts Tryz.infoPosR
  obtain ⟨N, hN⟩ : ∃ N, l.length = N := ⟨_, rfl⟩
  obtain ⟨J, hJ⟩ : ∃ J, psn l p.key = J := ⟨_, rfl⟩
  obtain ⟨T, hT⟩ : ∃ T, thereN l p.key = T := ⟨_, rfl⟩
  have hJN := psn_le l p.key
  have hlen := fun W => len_P (P := Tryz.prog) hv hN 27 3 _ Tryz.underlying27 W
  have HV := Lib.hid hv
  have HP := Lib.hid (put_parts l p)
  rw [hN] at hl hJN
  rw [hJ] at hJN
  have hl' : ¬ ((4096 : Int) ≤ (N : Int)) := by omega
  have HN := Lib.hid hN
  have HJ := Lib.hid hJ
  have HT := Lib.hid hT
  have hb1 := (Below.refl w.heap.size w).alloc (Nat.le_refl _) (.cells #[.int .u64 (p.key : Int), .int .i64 p.off, .int .i64 p.len, .int .u32 (p.cookie : Int), .bool p.gone] 67)
  have hq := Blk.new w #[.int .u64 (p.key : Int), .int .i64 p.off, .int .i64 p.len, .int .u32 (p.cookie : Int), .bool p.gone] 67
  clear hv hN hJ hT
  go_enter Tryz.func71, Tryz.ntmps71
  go_wp2_with fail
  refine (rfind_any v l p.key _ (HV.out.mono hb1 (Nat.le_refl _)) hs (by rw [HN.out]; omega)).mono ?_
  rintro e w1 ⟨rfl, rfl⟩
  obtain ⟨w1, hw1⟩ : ∃ w1, w.alloc (.cells #[.int .u64 (p.key : Int), .int .i64 p.off, .int .i64 p.len, .int .u32 (p.cookie : Int), .bool p.gone] 67) = w1 := ⟨_, rfl⟩
  obtain ⟨B1, hBB⟩ : ∃ B1, w1.heap.size = B1 := ⟨_, rfl⟩
  have HS1 := Lib.hid (show B1 = w.heap.size + 1 from by rw [← hBB, ← hw1]; simp)
  have HSB := Lib.hid hBB
  have HSL := Lib.hid (show w.heap.size ≤ B1 from by rw [HS1.out]; exact Nat.le_succ _)
  rw [hw1] at hb1 hq ⊢
  have HB1 := Lib.hid hb1
  have HQ := Lib.hid hq
  clear hb1 hq hw1 hBB
  obtain ⟨F, hF⟩ : ∃ F, fidx l p.key = F := ⟨_, rfl⟩
  rw [hF]
  clear hF
  by_cases hF : F < 0
  all_goals
    go_wp2
    go_loopw [6, 7] (fun o k wr => ∃ i : Nat, i ≤ J ∧ k = .int .i64 i ∧ Hid (wr.ownsRow B1 67 5 o i (row pcells (l.take i))) ∧ Hid (Below B1 w1 wr)) (fun _ k _ => N - (intOf k).toNat)
    case atStart => exact ⟨0, Nat.zero_le _, rfl, Lib.hid (World.ownsRow_nil _ _ _ _), Lib.hid (Below.refl _ _)⟩
    case round =>
      obtain ⟨i, hiJ, rfl, HO, HB⟩ := hrel
      obtain ⟨q0, q1, q2, q3, q4, _⟩ := blk5_facts (HQ.out.below HB.out (by rw [HS1.out]; exact Nat.lt_succ_self _))
      by_cases hlt : i < J
      · obtain ⟨e, he⟩ : ∃ e, pat l i = e := ⟨_, rfl⟩
        obtain ⟨b, o, hidx, c0, c1, c2, c3, c4⟩ := indexAt_P ((HV.out.mono HB1.out (Nat.le_refl _)).mono HB.out (by rw [HSB.out]; exact Nat.le_refl _)) 27 67 Tryz.underlying27 Tryz.sizePosR i (by rw [HN.out]; omega)
        rw [he] at c0 c1 c2 c3 c4
        have hk : decide (e.key < p.key) = true := decide_eq_true (by
          have := psn_below (k := p.key) (get_pat (ps := l) (i := i) (by rw [HN.out]; omega)) (by rw [HJ.out]; exact hlt)
          rw [he] at this
          omega)
        have hiN : decide (i < N) = true := decide_eq_true (by omega)
        have HPT := Lib.hid (show row pcells (l.take (i + 1)) = row pcells (l.take i) ++ pcells e from by rw [take_snoc (by rw [HN.out]; omega), row_append, row_one, he])
        obtain ⟨X, hX⟩ : ∃ X, X = row pcells (l.take i) := ⟨_, rfl⟩
        rw [← hX] at HO HPT
        clear hX he
        go_wp2
        go_quiet (fail)
        have HO5 := Lib.hid (show (wr.drewN nq).ownsRow B1 67 5 u6 i X from HO.out)
        have HB5 := Lib.hid (show Below B1 w1 (wr.drewN nq) from ⟨HB.out.os, HB.out.tape, HB.out.output, HB.out.size, HB.out.block⟩)
        have HZ5 := Lib.hid (show B1 ≤ (wr.drewN nq).heap.size from by rw [← HSB.out]; exact HB5.out.size)
        clear HO HB
        go_wp2_with (at_builtin; refine wpList_append_own _ rfl _ _ 27 rfl B1 67 i0 _ 5 32 Tryz.underlying27 hi hz0 hz1 hz2 rfl (by decide) _ _ _ rfl (HO5.out.alloc _) ⟨wr.heap.size, 0, none⟩ 1 1 (pcells e) rfl rfl ?c1 ?c2 ?c3 ?c4 ?c5 ?_)
        case c1 => exact cell_five_new _ e _
        case c2 => exact pcells_one e
        case c3 => unfold maxLen; omega
        case c4 => omega
        case c5 => exact Nat.le_trans HZ5.out (by simp)
        intro v5 w5 hown5 hgrow5 _
        have HB6 := Lib.hid ((HB5.out.alloc HZ5.out _).grown hgrow5 (Nat.le_trans HZ5.out (by simp)) (fun j hj => (HO5.out.lt j hj).1))
        have HO6 := Lib.hid (show w5.ownsRow B1 67 5 v5 (i + 1) (row pcells (l.take (i + 1))) from by rw [HPT.out]; exact hown5)
        clear hown5 hgrow5 q0 q1 q2 q3 q4 c0 c1 c2 c3 c4 hidx HO5 HB5
        go_wp2
        go_roundw
        case rel => exact ⟨i + 1, by omega, by go_num, HO6, HB6⟩
        case measure => simp [intOf]; omega
      · obtain rfl : i = J := by omega
        by_cases hJN2 : i < N
        · obtain ⟨e, he⟩ : ∃ e, pat l i = e := ⟨_, rfl⟩
          obtain ⟨b, o, hidx, c0, c1, c2, c3, c4⟩ := indexAt_P ((HV.out.mono HB1.out (Nat.le_refl _)).mono HB.out (by rw [HSB.out]; exact Nat.le_refl _)) 27 67 Tryz.underlying27 Tryz.sizePosR i (by rw [HN.out]; omega)
          rw [he] at c0 c1 c2 c3 c4
          have hk : decide (e.key < p.key) = false := decide_eq_false (by
            have := psn_above (k := p.key) hs (get_pat (ps := l) (i := i) (by rw [HN.out]; omega)) (by rw [HJ.out]; exact Nat.le_refl _)
            rw [he] at this
            omega)
          have hiN : decide (i < N) = true := decide_eq_true (by omega)
          clear he
          go_wp2
          go_quiet (fail)
          clear hidx c0 c1 c2 c3 c4 hk hiN
          have HO5 := Lib.hid (show (wr.drewN nq).ownsRow B1 67 5 u6 i (row pcells (l.take i)) from HO.out)
          have HB5 := Lib.hid (show Below B1 w1 (wr.drewN nq) from ⟨HB.out.os, HB.out.tape, HB.out.output, HB.out.size, HB.out.block⟩)
          have HZ5 := Lib.hid (show B1 ≤ (wr.drewN nq).heap.size from by rw [← HSB.out]; exact HB5.out.size)
          clear HO HB
          obtain ⟨X, hX⟩ : ∃ X, X = row pcells (l.take i) := ⟨_, rfl⟩
          rw [← hX] at HO5
          have HX := Lib.hid hX
          clear hX
          go_wp2_with (at_builtin; refine wpList_append_own _ rfl _ _ 27 rfl B1 67 i0 _ 5 32 Tryz.underlying27 hi hz0 hz1 hz2 rfl (by decide) _ _ _ rfl (HO5.out.alloc _) ⟨wr.heap.size, 0, none⟩ 1 1 (pcells p) rfl rfl ?c1 ?c2 ?c3 ?c4 ?c5 ?_)
          case c1 => exact cell_five_new _ p _
          case c2 => exact pcells_one p
          case c3 => unfold maxLen; omega
          case c4 => omega
          case c5 => exact Nat.le_trans HZ5.out (by simp)
          intro v5 w5 hown5 hgrow5 _
          have HB6 := Lib.hid ((HB5.out.alloc HZ5.out _).grown hgrow5 (Nat.le_trans HZ5.out (by simp)) (fun j hj => (HO5.out.lt j hj).1))
          have HO6 := Lib.hid (show w5.ownsRow B1 67 5 v5 (i + 1) (row pcells (l.take i ++ [p] ++ (l.take i).drop (i + T))) from by
            rw [List.drop_of_length_le (by rw [List.length_take]; omega), List.append_nil, row_append, row_one, ← HX.out]
            exact hown5)
          clear hown5 hgrow5 HO5 HB5 q0 q1 q2 q3 q4
          go_wp2
          go_loopw [6, 7] (fun o k wr => ∃ m : Nat, i ≤ m ∧ m ≤ N ∧ k = .int .i64 m ∧ Hid (wr.ownsRow B1 67 5 o (i + 1 + (m - (i + T))) (row pcells (l.take i ++ [p] ++ (l.take m).drop (i + T)))) ∧ Hid (Below B1 w1 wr)) (fun _ k _ => N - (intOf k).toNat)
          case atStart => exact ⟨i, Nat.le_refl _, hJN, rfl, by rw [show i - (i + T) = 0 from by omega]; exact HO6, HB6⟩
          case round =>
            clear HO6 HB6
            obtain ⟨m, him, hmN, rfl, HO, HB⟩ := hrel
            obtain ⟨q0, q1, q2, q3, q4, _⟩ := blk5_facts (HQ.out.below HB.out (by rw [HS1.out]; exact Nat.lt_succ_self _))
            by_cases hlt : m < N
            · obtain ⟨e, he⟩ : ∃ e, pat l m = e := ⟨_, rfl⟩
              obtain ⟨b, o, hidx, c0, c1, c2, c3, c4⟩ := indexAt_P ((HV.out.mono HB1.out (Nat.le_refl _)).mono HB.out (by rw [HSB.out]; exact Nat.le_refl _)) 27 67 Tryz.underlying27 Tryz.sizePosR m (by rw [HN.out]; omega)
              rw [he] at c0 c1 c2 c3 c4
              have hget : l[m]? = some e := by rw [← he]; exact get_pat (by rw [HN.out]; exact hlt)
              by_cases hk : e.key = p.key
              · have hmi : m = i := (psn_is hs hget hk).symm.trans HJ.out
                have hT1 : T = 1 := by
                  rw [← HT.out]
                  unfold thereN
                  rw [fnd_is hs hget hk]
                  rfl
                have hb : ((e.key : Int) != (p.key : Int)) = false := by rw [bne_eq_false_iff_eq]; omega
                have HO6 := Lib.hid (show wr.ownsRow B1 67 5 u6 (i + 1 + (m + 1 - (i + T))) (row pcells (l.take i ++ [p] ++ (l.take (m + 1)).drop (i + T))) from by
                  have h9 := HO.out
                  rw [List.drop_of_length_le (by rw [List.length_take]; omega)] at h9 ⊢
                  rw [show i + 1 + (m + 1 - (i + T)) = i + 1 + (m - (i + T)) from by omega]
                  exact h9)
                have HB6 := HB
                clear hk hget he HO hmi hT1
                go_wp2
                go_quiet (fail)
                have HO7 := Lib.hid (show (wr.drewN nq).ownsRow B1 67 5 u6 (i + 1 + (m + 1 - (i + T))) (row pcells (l.take i ++ [p] ++ (l.take (m + 1)).drop (i + T))) from HO6.out)
                have HB7 := Lib.hid (show Below B1 w1 (wr.drewN nq) from ⟨HB6.out.os, HB6.out.tape, HB6.out.output, HB6.out.size, HB6.out.block⟩)
                clear HO6 HB6
                go_wp2
                go_roundw
                case rel => exact ⟨m + 1, by omega, by omega, by go_num, HO7, HB7⟩
                case measure => simp [intOf]; omega
              · have hmT : i + T ≤ m := by
                  have h8 := HT.out
                  unfold thereN at h8
                  cases hf : fnd l p.key with
                  | none =>
                    rw [hf] at h8
                    have h9 : T = 0 := h8.symm
                    omega
                  | some q =>
                    rw [hf] at h8
                    have h9 : T = 1 := h8.symm
                    have h7 := fnd_at hf
                    rw [HJ.out] at h7
                    by_cases hmi : m = i
                    · rw [← hmi, hget] at h7
                      exact absurd (by rw [Option.some.inj h7.1]; exact h7.2) hk
                    · omega
                have hb : ((e.key : Int) != (p.key : Int)) = true := by rw [bne_iff_ne]; omega
                have HPT := Lib.hid (show row pcells (l.take i ++ [p] ++ (l.take (m + 1)).drop (i + T)) = row pcells (l.take i ++ [p] ++ (l.take m).drop (i + T)) ++ pcells e from by
                  rw [take_snoc (by rw [HN.out]; omega), List.drop_append_of_le_length (by rw [List.length_take, HN.out]; omega), ← List.append_assoc, row_append, row_one, he])
                obtain ⟨Y, hY⟩ : ∃ Y, Y = row pcells (l.take i ++ [p] ++ (l.take m).drop (i + T)) := ⟨_, rfl⟩
                rw [← hY] at HO HPT
                obtain ⟨n5, hn5⟩ : ∃ n5, i + 1 + (m - (i + T)) = n5 := ⟨_, rfl⟩
                have HN5 := Lib.hid (show i + 1 + (m + 1 - (i + T)) = n5 + 1 from by omega)
                have hn5l : n5 ≤ 8192 := by omega
                rw [hn5] at HO
                clear hk hget he hmT hY hn5
                go_wp2
                go_quiet (fail)
                have HO5 := Lib.hid (show (wr.drewN nq).ownsRow B1 67 5 u6 n5 Y from HO.out)
                have HB5 := Lib.hid (show Below B1 w1 (wr.drewN nq) from ⟨HB.out.os, HB.out.tape, HB.out.output, HB.out.size, HB.out.block⟩)
                have HZ5 := Lib.hid (show B1 ≤ (wr.drewN nq).heap.size from by rw [← HSB.out]; exact HB5.out.size)
                clear HO HB
                go_wp2_with (at_builtin; refine wpList_append_own _ rfl _ _ 27 rfl B1 67 i0 _ 5 32 Tryz.underlying27 hi hz0 hz1 hz2 rfl (by decide) _ _ _ rfl (HO5.out.alloc _) ⟨wr.heap.size, 0, none⟩ 1 1 (pcells e) rfl rfl ?c1 ?c2 ?c3 ?c4 ?c5 ?_)
                case c1 => exact cell_five_new _ e _
                case c2 => exact pcells_one e
                case c3 => unfold maxLen; omega
                case c4 => omega
                case c5 => exact Nat.le_trans HZ5.out (by simp)
                intro v5 w5 hown5 hgrow5 _
                have HB6 := Lib.hid ((HB5.out.alloc HZ5.out _).grown hgrow5 (Nat.le_trans HZ5.out (by simp)) (fun j hj => (HO5.out.lt j hj).1))
                have HO6 := Lib.hid (show w5.ownsRow B1 67 5 v5 (i + 1 + (m + 1 - (i + T))) (row pcells (l.take i ++ [p] ++ (l.take (m + 1)).drop (i + T))) from by rw [HPT.out, HN5.out]; exact hown5)
                clear hown5 hgrow5 q0 q1 q2 q3 q4 c0 c1 c2 c3 c4 hidx HO5 HB5
                go_wp2
                go_roundw
                case rel =>
                  exact ⟨m + 1, by omega, by omega, by go_num, HO6, HB6⟩
                case measure => simp [intOf]; omega
            · obtain rfl : m = N := by omega
              have HO6 := Lib.hid (show wr.ownsRow w.heap.size 67 5 u6 (put l p).length (row pcells (put l p)) from by
                have h9 := HO.out
                rw [List.take_of_length_le (l := l) (i := m) (by rw [HN.out]; exact Nat.le_refl _), List.append_assoc] at h9
                have h8 := HP.out
                rw [HJ.out, HT.out] at h8
                have h7 : (put l p).length = i + 1 + (m - (i + T)) := by
                  rw [h8]
                  have h6 := HN.out
                  simp only [List.length_append, List.length_take, List.length_cons, List.length_drop, h6]
                  omega
                rw [h7, h8]
                exact ownsRow_base h9 HSL.out)
              have HB6 := Lib.hid (HB1.out.trans (HB.out.mono HSL.out))
              clear HO HB
              go_wp2
              go_ret2
              exact ⟨_, rfl, HO6.out, HB6.out⟩
        · have hiN : decide (i < N) = false := decide_eq_false hJN2
          go_wp2
          go_quiet (fail)
          clear hiN
          have HO5 := Lib.hid (show (wr.drewN nq).ownsRow B1 67 5 u6 i (row pcells (l.take i)) from HO.out)
          have HB5 := Lib.hid (show Below B1 w1 (wr.drewN nq) from ⟨HB.out.os, HB.out.tape, HB.out.output, HB.out.size, HB.out.block⟩)
          have HZ5 := Lib.hid (show B1 ≤ (wr.drewN nq).heap.size from by rw [← HSB.out]; exact HB5.out.size)
          clear HO HB
          obtain ⟨X, hX⟩ : ∃ X, X = row pcells (l.take i) := ⟨_, rfl⟩
          rw [← hX] at HO5
          have HX := Lib.hid hX
          clear hX
          go_wp2_with (at_builtin; refine wpList_append_own _ rfl _ _ 27 rfl B1 67 i0 _ 5 32 Tryz.underlying27 hi hz0 hz1 hz2 rfl (by decide) _ _ _ rfl (HO5.out.alloc _) ⟨wr.heap.size, 0, none⟩ 1 1 (pcells p) rfl rfl ?c1 ?c2 ?c3 ?c4 ?c5 ?_)
          case c1 => exact cell_five_new _ p _
          case c2 => exact pcells_one p
          case c3 => unfold maxLen; omega
          case c4 => omega
          case c5 => exact Nat.le_trans HZ5.out (by simp)
          intro v5 w5 hown5 hgrow5 _
          have HB6 := Lib.hid ((HB5.out.alloc HZ5.out _).grown hgrow5 (Nat.le_trans HZ5.out (by simp)) (fun j hj => (HO5.out.lt j hj).1))
          have HO6 := Lib.hid (show w5.ownsRow B1 67 5 v5 (i + 1) (row pcells (l.take i ++ [p] ++ (l.take i).drop (i + T))) from by
            rw [List.drop_of_length_le (by rw [List.length_take]; omega), List.append_nil, row_append, row_one, ← HX.out]
            exact hown5)
          clear hown5 hgrow5 HO5 HB5 q0 q1 q2 q3 q4
          go_wp2
          go_loopw [6, 7] (fun o k wr => ∃ m : Nat, i ≤ m ∧ m ≤ N ∧ k = .int .i64 m ∧ Hid (wr.ownsRow B1 67 5 o (i + 1 + (m - (i + T))) (row pcells (l.take i ++ [p] ++ (l.take m).drop (i + T)))) ∧ Hid (Below B1 w1 wr)) (fun _ k _ => N - (intOf k).toNat)
          case atStart => exact ⟨i, Nat.le_refl _, hJN, rfl, by rw [show i - (i + T) = 0 from by omega]; exact HO6, HB6⟩
          case round =>
            clear HO6 HB6
            obtain ⟨m, him, hmN, rfl, HO, HB⟩ := hrel
            obtain ⟨q0, q1, q2, q3, q4, _⟩ := blk5_facts (HQ.out.below HB.out (by rw [HS1.out]; exact Nat.lt_succ_self _))
            by_cases hlt : m < N
            · exact absurd hlt (by omega)
            · obtain rfl : m = N := by omega
              have HO6 := Lib.hid (show wr.ownsRow w.heap.size 67 5 u6 (put l p).length (row pcells (put l p)) from by
                have h9 := HO.out
                rw [List.take_of_length_le (l := l) (i := m) (by rw [HN.out]; exact Nat.le_refl _), List.append_assoc] at h9
                have h8 := HP.out
                rw [HJ.out, HT.out] at h8
                have h7 : (put l p).length = i + 1 + (m - (i + T)) := by
                  rw [h8]
                  have h6 := HN.out
                  simp only [List.length_append, List.length_take, List.length_cons, List.length_drop, h6]
                  omega
                rw [h7, h8]
                exact ownsRow_base h9 HSL.out)
              have HB6 := Lib.hid (HB1.out.trans (HB.out.mono HSL.out))
              clear HO HB
              go_wp2
              go_ret2
              exact ⟨_, rfl, HO6.out, HB6.out⟩

end Go.Proofs.YtoblbipkkdiddaaGreatDoor.Q
end

section
namespace Go.Proofs.YtoblbipkkdiddaaGreatDoor.Nd
open Go.RowKit Go.Cor

theorem refcheck_any (n : Ndl) (v : Value) (w : World) (hv : IsB w v n.data) :
    Calls Tryz.prog 36 #[nval n v] w fun e w' => e = .returned (.int .i64 (ncheck n : Nat)) ∧ Below w.heap.size w w' := by
  obtain ⟨k, c, g, l⟩ := n
  obtain ⟨d, hd⟩ : ∃ d : Nat, l.length = d := ⟨_, rfl⟩
  obtain ⟨x, cap, rfl, hlc, hcm⟩ := hv.at_len hd
  unfold maxLen at hcm
  have HR : Hid (ncheck ⟨k, c, g, l⟩ = if 4096 < d then 2 else if g = true ∧ 0 < d then 1 else 0) := by
    show ncheck ⟨k, c, g, l⟩ = _
    unfold ncheck
    rw [hd]
  clear hv hd
  by_cases h1 : 4096 < d
  · go_enter Tryz.func36, Tryz.ntmps36
    go_wp2
    go_ret
    exact ⟨by rw [HR.out, if_pos h1]; rfl, (Below.refl _ _).alloc (Nat.le_refl _) _⟩
  · cases g with
    | false =>
      go_enter Tryz.func36, Tryz.ntmps36
      go_wp2
      go_ret
      exact ⟨by rw [HR.out, if_neg h1]; rfl, (Below.refl _ _).alloc (Nat.le_refl _) _⟩
    | true =>
      by_cases h2 : 0 < d
      · go_enter Tryz.func36, Tryz.ntmps36
        go_wp2
        go_ret
        exact ⟨by rw [HR.out, if_neg h1, if_pos ⟨trivial, h2⟩]; rfl, (Below.refl _ _).alloc (Nat.le_refl _) _⟩
      · go_enter Tryz.func36, Tryz.ntmps36
        go_wp2
        go_ret
        exact ⟨by rw [HR.out, if_neg h1, if_neg (fun h => h2 h.2)]; rfl, (Below.refl _ _).alloc (Nat.le_refl _) _⟩

set_option maxHeartbeats 400000 in
theorem refsame_any (a b : Ndl) (va vb : Value) (w : World) (ha : IsB w va a.data) (hb : IsB w vb b.data) (hl : a.data.length ≤ 1099511627776) :
    Calls Tryz.prog 15 #[nval a va, nval b vb] w fun e w' => e = .returned (.bool (sameN a b)) ∧ Below w.heap.size w w' := by
  obtain ⟨k1, c1, g1, l⟩ := a
  obtain ⟨k2, c2, g2, m⟩ := b
  by_cases hk : k1 = k2
  · subst hk
    by_cases hc : c1 = c2
    · subst hc
      by_cases hg : g1 = g2
      · subst hg
        rw [sameN_data]
        have HA := Lib.hid ha
        have HB := Lib.hid hb
        clear ha hb
        go_enter Tryz.func15, Tryz.ntmps15
        go_wp2_with fail
        refine (same_any _ _ l m _ ?_ ?_ hl).mono ?_
        · exact (HA.out.mono ((Below.refl _ _).alloc (Nat.le_refl _) _) (Nat.le_refl _)).mono ((Below.refl _ _).alloc (Nat.le_refl _) _) (Nat.le_refl _)
        · exact (HB.out.mono ((Below.refl _ _).alloc (Nat.le_refl _) _) (Nat.le_refl _)).mono ((Below.refl _ _).alloc (Nat.le_refl _) _) (Nat.le_refl _)
        rintro e w' ⟨rfl, nd, rfl⟩
        go_wp2
        go_ret
        exact ⟨rfl, below_drewN (((Below.refl _ _).alloc (Nat.le_refl _) _).alloc (by simp) _) nd⟩
      · rw [sameN_gone hg]
        have hgb : (g1 == g2) = false := by simpa using hg
        clear hg
        go_enter Tryz.func15, Tryz.ntmps15
        go_wp2
        go_ret
        exact ⟨rfl, ((Below.refl _ _).alloc (Nat.le_refl _) _).alloc (by simp) _⟩
    · rw [sameN_cookie hc]
      have hcb : ((c1 : Int) == (c2 : Int)) = false := by rw [beq_eq_false_iff_ne]; omega
      clear hc
      go_enter Tryz.func15, Tryz.ntmps15
      go_wp2
      go_ret
      exact ⟨rfl, ((Below.refl _ _).alloc (Nat.le_refl _) _).alloc (by simp) _⟩
  · rw [sameN_key hk]
    have hkb : ((k1 : Int) == (k2 : Int)) = false := by rw [beq_eq_false_iff_ne]; omega
    clear hk
    go_enter Tryz.func15, Tryz.ntmps15
    go_wp2
    go_ret
    exact ⟨rfl, ((Below.refl _ _).alloc (Nat.le_refl _) _).alloc (by simp) _⟩


end Go.Proofs.YtoblbipkkdiddaaGreatDoor.Nd
end

section
namespace Go.Proofs.YtoblbipkkdiddaaGreatDoor
open Go.RowKit Go.Cor

theorem Tryz.infoNdR : (Tryz.prog.info? 47).map (fun i => (i.zero, i.size, i.bytes)) = some (some (.agg #[.int .u64 0, .int .u32 0, .bool false, .slice none 0 0]), 4, 40) := by kernel_rfl
theorem Tryz.sizeNdR : (Tryz.prog.info? 47).map (·.size) = some 4 := by kernel_rfl
/-- A needle as cells, with its data's slice. -/
def ncl (x : Ndl × Value) : List Value := [.int .u64 (x.1.key : Int), .int .u32 (x.1.cookie : Int), .bool x.1.gone, x.2]
theorem ncl_len (x : Ndl × Value) : (ncl x).length = 4 := rfl
/-- v is a slice of needles. -/
def IsN (w : World) (v : Value) (ps : List (Ndl × Value)) : Prop := IsX w 4 v ps.length (row ncl ps) ∧ ∀ x ∈ ps, IsB w x.2 x.1.data ∧ x.2.oneCell' = true
theorem IsN.mono {w w' : World} {v : Value} {ps : List (Ndl × Value)} {B : Nat} (h : IsN w v ps) (hb : Below B w w') (hB : w.heap.size ≤ B) : IsN w' v ps := ⟨h.1.mono hb hB, fun x hx => ⟨(h.2 x hx).1.mono hb hB, (h.2 x hx).2⟩⟩
theorem IsN.one {w : World} {v : Value} {ps : List (Ndl × Value)} (h : IsN w v ps) : ∀ u ∈ row ncl ps, u.oneCell' = true := row_mem fun x hx u hu => by
  simp only [ncl, List.mem_cons, List.not_mem_nil, or_false] at hu
  rcases hu with rfl | rfl | rfl | rfl
  · rfl
  · rfl
  · rfl
  · exact (h.2 x hx).2
abbrev dval (s : Vst) (lv dv : Value) : Value := .agg #[.int .i64 (s.num : Int), .int .i64 (s.most : Int), .int .i64 (s.epoch : Int), .int .i64 (s.size : Int), .bool s.shut, lv, dv]
/-- The document's volume; S: what it doesn't lie in. -/
structure DocP (w : World) (S : Nat → Prop) (s : Vst) (lv dv : Value) (ps : List (Ndl × Value)) : Prop where
  ns : ps.map (·.1) = s.ns
  l : Q.IsP w lv s.idx
  d : IsN w dv ps
  la : ∀ b, liesX lv s.idx.length b → ¬ S b
  da : ∀ b, liesX dv ps.length b → ¬ S b
  na : ∀ x ∈ ps, ∀ b, liesB x.2 x.1.data b → ¬ S b
def Doc (w : World) (S : Nat → Prop) (s : Vst) (u : Value) : Prop := ∃ lv dv ps, u = dval s lv dv ∧ DocP w S s lv dv ps
theorem DocP.below {w w' : World} {S : Nat → Prop} {s : Vst} {lv dv : Value} {ps : List (Ndl × Value)} (h : DocP w S s lv dv ps) (hb : Below w.heap.size w w') : DocP w' S s lv dv ps := ⟨h.ns, h.l.mono hb (Nat.le_refl _), h.d.mono hb (Nat.le_refl _), h.la, h.da, h.na⟩
theorem DocP.kept {w w' : World} {S S' : Nat → Prop} {s : Vst} {lv dv : Value} {ps : List (Ndl × Value)} (h : DocP w S s lv dv ps) (hk : Kept S w w') (hS : ∀ b, S' b → S b ∨ w.heap.size ≤ b) : DocP w' S' s lv dv ps := by
  have hl : ∀ b, liesX lv s.idx.length b → b < w.heap.size := fun b hb => IsX.lies_lt h.l (by decide) hb
  have hd : ∀ b, liesX dv ps.length b → b < w.heap.size := fun b hb => IsX.lies_lt h.d.1 (by decide) hb
  have hn : ∀ x ∈ ps, ∀ b, liesB x.2 x.1.data b → b < w.heap.size := fun x hx b hb => (h.d.2 x hx).1.lies_lt hb
  have nS : ∀ b, b < w.heap.size → ¬ S b → ¬ S' b := fun b h1 h2 h3 => by
    rcases hS b h3 with h4 | h4
    · exact h2 h4
    · omega
  exact ⟨h.ns, IsX.kept h.l hk h.la, ⟨h.d.1.kept hk h.da, fun x hx => ⟨(h.d.2 x hx).1.kept hk (h.na x hx), (h.d.2 x hx).2⟩⟩, fun b hb => nS b (hl b hb) (h.la b hb), fun b hb => nS b (hd b hb) (h.da b hb), fun x hx b hb => nS b (hn x hx b hb) (h.na x hx b hb)⟩
theorem Doc.below {w w' : World} {S : Nat → Prop} {s : Vst} {u : Value} (h : Doc w S s u) (hb : Below w.heap.size w w') : Doc w' S s u := by
  obtain ⟨lv, dv, ps, rfl, h⟩ := h
  exact ⟨lv, dv, ps, rfl, h.below hb⟩
theorem Doc.kept {w w' : World} {S S' : Nat → Prop} {s : Vst} {u : Value} (h : Doc w S s u) (hk : Kept S w w') (hS : ∀ b, S' b → S b ∨ w.heap.size ≤ b) : Doc w' S' s u := by
  obtain ⟨lv, dv, ps, rfl, h⟩ := h
  exact ⟨lv, dv, ps, rfl, h.kept hk hS⟩

theorem newest_none_iff {ns : List Ndl} {k : Nat} : newest ns k = none ↔ ∀ n ∈ ns, n.key ≠ k := by
  unfold newest
  rw [List.find?_eq_none]
  simp
theorem newest_take {ns : List Ndl} {k i : Nat} {n : Ndl} (hi : ns[i]? = some n) (hk : n.key = k) (hl : ∀ j m, i < j → ns[j]? = some m → m.key ≠ k) : newest ns k = some n := by
  induction ns using snoc_ind generalizing i with
  | h0 => simp at hi
  | h1 l a ih =>
    rw [newest_snoc]
    by_cases e : i < l.length
    · have ha : a.key ≠ k := hl l.length a e (by simp)
      rw [if_neg ha]
      refine ih (by rw [List.getElem?_append_left e] at hi; exact hi) (fun j m hj hm => hl j m hj ?_)
      have := (List.getElem?_eq_some_iff.1 hm).1
      rw [List.getElem?_append_left this]; exact hm
    · have hlt := (List.getElem?_eq_some_iff.1 hi).1
      simp only [List.length_append, List.length_singleton] at hlt
      have e2 : i = l.length := by omega
      subst e2
      simp at hi
      subst hi
      rw [if_pos hk]

set_option maxRecDepth 100000 in
set_option maxHeartbeats 1000000 in
theorem newest_r (key : Nat) (S : Nat → Prop) (s : Vst) (lv dv : Value) (ps : List (Ndl × Value)) (w : World) (h : DocP w S s lv dv ps) (hl : ps.length ≤ 1048576) :
    Calls Tryz.prog 34 #[dval s lv dv, .int .u64 (key : Int)] w fun e w' =>
      ∃ (n : Ndl) (x : Option Addr) (L c : Nat), e = .returned (.tuple #[Nd.nval n (.slice x L c), .bool (newest s.ns key).isSome]) ∧ ((newest s.ns key = some n ∧ (n, .slice x L c) ∈ ps) ∨ (newest s.ns key = none ∧ n = ⟨0, 0, false, []⟩ ∧ x = none ∧ L = 0 ∧ c = 0)) ∧ Below w.heap.size w w' := by
  have HH := Lib.hid h
  obtain ⟨N, hN⟩ : ∃ N, ps.length = N := ⟨_, rfl⟩
  have hlen := fun W => len_X (P := Tryz.prog) h.d.1 28 3 _ Tryz.underlying28 W
  rw [hN] at hlen hl
  have HN := Lib.hid hN
  have HNS := Lib.hid h.ns
  clear h hN
  go_enter Tryz.func34, Tryz.ntmps34
  have e0 : IntKind.i64.wrap ((N : Int) - 1) = (N : Int) - 1 := IntWalk.i64_in _ (by omega)
  have hb0 := ((Below.refl w.heap.size w).alloc (Nat.le_refl _) (.cells #[.int .i64 (s.num : Int), .int .i64 (s.most : Int), .int .i64 (s.epoch : Int), .int .i64 (s.size : Int), .bool s.shut, lv, dv] 30)).alloc (by simp) (.cells #[.int .u64 0, .int .u32 0, .bool false, .slice none 0 0] 47)
  have hz := Blk.new (w.alloc (.cells #[.int .i64 (s.num : Int), .int .i64 (s.most : Int), .int .i64 (s.epoch : Int), .int .i64 (s.size : Int), .bool s.shut, lv, dv] 30)) #[.int .u64 0, .int .u32 0, .bool false, .slice none 0 0] 47
  have hv := (Blk.new w #[.int .i64 (s.num : Int), .int .i64 (s.most : Int), .int .i64 (s.epoch : Int), .int .i64 (s.size : Int), .bool s.shut, lv, dv] 30).alloc (.cells #[.int .u64 0, .int .u32 0, .bool false, .slice none 0 0] 47)
  obtain ⟨w1, hw1⟩ : ∃ w1, (w.alloc (.cells #[.int .i64 (s.num : Int), .int .i64 (s.most : Int), .int .i64 (s.epoch : Int), .int .i64 (s.size : Int), .bool s.shut, lv, dv] 30)).alloc (.cells #[.int .u64 0, .int .u32 0, .bool false, .slice none 0 0] 47) = w1 := ⟨_, rfl⟩
  rw [hw1] at hb0 hz hv
  rw [show (w.alloc (.cells #[.int .i64 (s.num : Int), .int .i64 (s.most : Int), .int .i64 (s.epoch : Int), .int .i64 (s.size : Int), .bool s.shut, lv, dv] 30)).heap.size = w.heap.size + 1 by simp] at hz
  have HB := Lib.hid hb0
  have HZ := Lib.hid hz
  have c6 : w1.cell? ⟨w.heap.size, 6, none⟩ = some dv := hv.cell 6 rfl
  have z0 := hz.cell 0 rfl
  have z1 := hz.cell 1 rfl
  have z2 := hz.cell 2 rfl
  have z3 := hz.cell 3 rfl
  have zf := fun j => hz.free j
  clear hb0 hz hv
  go_wp2_with fail
  clear hw1
  go_loopw [6] (fun c wr => ∃ j : Int, -1 ≤ j ∧ j < N ∧ c = .int .i64 j ∧ wr = w1 ∧ Hid (∀ (i : Nat) (x : Ndl × Value), j < (i : Int) → ps[i]? = some x → x.1.key ≠ key)) (fun c _ => (intOf c + 1).toNat)
  case atStart => exact ⟨(N : Int) - 1, by omega, by omega, rfl, rfl, Lib.hid (fun i x hi hx => by
    have := (List.getElem?_eq_some_iff.1 hx).1
    have := HN.out
    omega)⟩
  case round =>
    obtain ⟨j, hj1, hjN, rfl, rfl, HJ⟩ := hrel
    by_cases h0 : 0 ≤ j
    · obtain ⟨J, rfl⟩ := Int.eq_ofNat_of_zero_le h0
      have hJN : J < N := by omega
      obtain ⟨x, hx⟩ : ∃ x, ps[J]? = some x := ⟨_, List.getElem?_eq_getElem (by rw [HN.out]; exact hJN)⟩
      obtain ⟨b, o, hidx, _, hcell⟩ := indexAt_X (HH.out.d.1.mono HB.out (Nat.le_refl _)) 28 47 Tryz.underlying28 Tryz.sizeNdR J (by rw [HN.out]; exact hJN)
      have d0 : wr.cell? ⟨b, o, none⟩ = some (.int .u64 (x.1.key : Int)) := by
        have h1 := hcell 0 (by decide)
        rw [row_get ncl_len hx 0 (by decide), Nat.add_zero] at h1
        exact h1
      have d1 : wr.cell? ⟨b, o + 1, none⟩ = some (.int .u32 (x.1.cookie : Int)) := by
        have h1 := hcell 1 (by decide)
        rw [row_get ncl_len hx 1 (by decide)] at h1
        exact h1
      have d2 : wr.cell? ⟨b, o + 2, none⟩ = some (.bool x.1.gone) := by
        have h1 := hcell 2 (by decide)
        rw [row_get ncl_len hx 2 (by decide)] at h1
        exact h1
      have d3 : wr.cell? ⟨b, o + 3, none⟩ = some x.2 := by
        have h1 := hcell 3 (by decide)
        rw [row_get ncl_len hx 3 (by decide)] at h1
        exact h1
      have e1 : IntKind.i64.wrap ((J : Int) - 1) = (J : Int) - 1 := IntWalk.i64_in _ (by omega)
      clear hcell
      obtain ⟨n, v⟩ := x
      obtain ⟨xl, hxl⟩ : ∃ xl, n.data.length = xl := ⟨_, rfl⟩
      have hIB : IsB w v n.data := (HH.out.d.2 _ (List.mem_of_getElem? hx)).1
      obtain ⟨xa, xcap, hvs, _, _⟩ := hIB.at_len hxl
      simp only at d0 d1 d2 d3
      rw [hvs] at d3 hx
      clear hIB hvs
      have HX := Lib.hid hx
      clear hx hxl
      by_cases hk : n.key = key
      · have hne : newest s.ns key = some n := by
          rw [← HNS.out]
          refine newest_take (i := J) (by rw [List.getElem?_map, HX.out]; rfl) hk (fun j m hj hm => ?_)
          rw [List.getElem?_map] at hm
          cases hp : ps[j]? with
          | none => rw [hp] at hm; cases hm
          | some y =>
            rw [hp] at hm
            cases hm
            exact HJ.out j y (by omega) hp
        have HNE := Lib.hid hne
        have HBF := Lib.hid (below_set4 (u0 := .int .u64 (key : Int)) (u1 := .int .u32 (n.cookie : Int)) (u2 := .bool n.gone) (u3 := (.slice xa xl xcap)) HB.out (Nat.le_succ _))
        have hF := blk_set4 HZ.out (.int .u64 (key : Int)) (.int .u32 (n.cookie : Int)) (.bool n.gone) (.slice xa xl xcap)
        have y0 := hF.cell 0 rfl
        have y1 := hF.cell 1 rfl
        have y2 := hF.cell 2 rfl
        have y3 := hF.cell 3 rfl
        unfold set4 at y0 y1 y2 y3
        have HY := Lib.hid (And.intro y0 (And.intro y1 (And.intro y2 y3)))
        have HKK := Lib.hid (show Nd.nval n (.slice xa xl xcap) = .agg #[.int .u64 (key : Int), .int .u32 (n.cookie : Int), .bool n.gone, .slice xa xl xcap] by rw [← hk])
        clear hF y0 y1 y2 y3 hne
        have hk2 : (n.key : Int) = (key : Int) := by rw [hk]
        go_wp2
        obtain ⟨y0, y1, y2, y3⟩ := HY.out
        exact bodyPost_ret (v := .tuple #[.agg #[.int .u64 (key : Int), .int .u32 (n.cookie : Int), .bool n.gone, .slice xa xl xcap], .bool true]) (by simp [results, Tryz.results34, go_sem, y0, y1, y2, y3]) rfl ⟨n, xa, xl, xcap, by rw [HNE.out, HKK.out]; rfl, .inl ⟨HNE.out, List.mem_of_getElem? HX.out⟩, HBF.out⟩
      · have hk2 : ¬ (n.key : Int) = (key : Int) := by omega
        go_wp2
        go_roundw
        case rel => exact ⟨(J : Int) - 1, by omega, by omega, by trivial, by trivial, Lib.hid (fun i y hi hy => by
          by_cases e : i = J
          · subst e
            rw [HX.out] at hy
            cases hy
            exact hk
          · exact HJ.out i y (by omega) hy)⟩
        case measure => simp [intOf] <;> omega
    · obtain rfl : j = -1 := by omega
      have hne : newest s.ns key = none := by
        rw [← HNS.out, newest_none_iff]
        intro n hn
        obtain ⟨y, hy, rfl⟩ := List.mem_map.1 hn
        obtain ⟨i, hi⟩ := List.getElem?_of_mem hy
        exact HJ.out i y (by omega) hi
      have HNE := Lib.hid hne
      have HBF := Lib.hid (below_set4 (u0 := .int .u64 0) (u1 := .int .u32 0) (u2 := .bool false) (u3 := .slice none 0 0) HB.out (Nat.le_succ _))
      have hF := blk_set4 HZ.out (.int .u64 0) (.int .u32 0) (.bool false) (.slice none 0 0)
      have y0 := hF.cell 0 rfl
      have y1 := hF.cell 1 rfl
      have y2 := hF.cell 2 rfl
      have y3 := hF.cell 3 rfl
      unfold set4 at y0 y1 y2 y3
      have HY := Lib.hid (And.intro y0 (And.intro y1 (And.intro y2 y3)))
      clear hF y0 y1 y2 y3 hne
      go_wp2
      obtain ⟨y0, y1, y2, y3⟩ := HY.out
      exact bodyPost_ret (v := .tuple #[Nd.nval ⟨0, 0, false, []⟩ (.slice none 0 0), .bool false]) (by simp [results, Tryz.results34, go_sem, y0, y1, y2, y3]) rfl ⟨⟨0, 0, false, []⟩, none, 0, 0, by rw [HNE.out]; rfl, .inr ⟨HNE.out, rfl, rfl, rfl, rfl⟩, HBF.out⟩

end Go.Proofs.YtoblbipkkdiddaaGreatDoor
end
