/- The statement 'ShipAll' holds: for every input the law's function returns true, and leaves its arguments as they were. Condition: the row's listed package variables (tables of numbers) hold at the call's start what the program's text lays in them; the card ties that to the text. -/
import Derived.Test.YtoblbipkkdiddaaGreatDoorM1
import Derived.Test.YtoblbipkkdiddaaGreatDoorM2
import Derived.Test.YtoblbipkkdiddaaGreatDoorM3
import Derived.Test.YtoblbipkkdiddaaGreatDoorM4
import Derived.Test.YtoblbipkkdiddaaGreatDoorM5
import Derived.Test.YtoblbipkkdiddaaGreatDoorM6
import Derived.Test.YtoblbipkkdiddaaGreatDoorM7
import Derived.Test.YtoblbipkkdiddaaGreatDoorM8
import Derived.Test.YtoblbipkkdiddaaGreatDoorM9
import Derived.Test.YtoblbipkkdiddaaGreatDoorM10
import Derived.Test.YtoblbipkkdiddaaGreatDoorM11
import Derived.Test.YtoblbipkkdiddaaGreatDoorM12
import Derived.Test.YtoblbipkkdiddaaGreatDoorM13
import Derived.Test.YtoblbipkkdiddaaGreatDoorM14
import Derived.Test.YtoblbipkkdiddaaGreatDoorM15
import Derived.Test.YtoblbipkkdiddaaGreatDoorM16
import Derived.Test.YtoblbipkkdiddaaGreatDoorM17
import Derived.Test.YtoblbipkkdiddaaGreatDoorCards
import Derived.Test.YtoblbipkkdiddaaGreatDoorTie
import Derived.WalkKit
import Derived.ProofKit
import Derived.OpenShut
import Derived.ShutString
import Derived.ChangeOld
import Derived.Below
import Derived.SevenTiedAt
import Derived.Deep.DeepHandedRow
import Derived.Lib.LaidTab
set_option linter.unusedVariables false
set_option linter.unusedSimpArgs false

section
namespace Go.Proofs.YtoblbipkkdiddaaGreatDoor
open Go.RowKit Go.Cor

theorem Tryz.infoSz (a b c d e f h : Value) (W : World) (hb : d.oneCell' = true) : (Instr.field 62 (.agg #[a, b, c, d, e, f, h]) 3).run Tryz.prog W = .ok d W := by
  cases d <;> first | (exact absurd hb (by decide)) | kernel_rfl
theorem slice_h_A {w : World} {x : Option Addr} {N c : Nat} {l : List A9v} (h : IsA w (.slice x N c) l) {q : Nat} (hq : q ≤ N) (hN : l.length = N) :
    (∀ W, (Instr.slice 22 (.slice x N c) none (some (.int .i64 (q : Int))) none).run Tryz.prog W = .ok (.slice x q c) W) ∧ IsA w (.slice x q c) (l.take q) := by
  obtain ⟨i, hi1, hi2⟩ := Option.map_eq_some_iff.1 Tryz.sizeA9
  have hT := h.1
  rw [hN] at hT
  have h2 := hT.take hq
  obtain ⟨a, c', e, k1, k2, _⟩ := hT
  cases e
  have ht : Tryz.prog.underlying 22 = some (.slice (Tryz.prog.elem 22)) := by simp [Program.elem, Tryz.underlying22]
  have he : Tryz.prog.elem 22 = 86 := by simp [Program.elem, Tryz.underlying22]
  have hsz : ∀ W, (sizeOf 86).run Tryz.prog W = .ok 6 W := fun W => by simp [sizeOf, typeInfo, hi1, hi2]
  refine ⟨fun W => ?_, ?_, fun y hy => h.2 y (List.mem_of_mem_take hy)⟩
  · rw [run_slice_h W _ _ _ _ ht .i64 _ (by omega) (by omega), he, hsz]
    by_cases hc0 : c = 0
    · simp [Result.andThen, sliced, hc0]
    · have hadd : (x.map fun x => x.add 0) = x := by cases x <;> simp [Addr.add]
      simp [Result.andThen, sliced, hc0, hadd]
  · rw [List.length_take, hN, Nat.min_eq_left hq, show row acl (l.take q) = (row acl l).take (q * 6) from by
      have e1 : l = l.take q ++ l.drop q := (List.take_append_drop q l).symm
      conv => rhs; rw [e1, row_append]
      rw [List.take_left' (by rw [length_row acl_len, List.length_take, hN, Nat.min_eq_left hq])]]
    exact h2

theorem slice_h_V {w : World} {v : Value} {l : List A9v} (h : IsA w v l) {q : Nat} (hq : q ≤ l.length) : ∃ sv, (∀ W, (Instr.slice 22 v none (some (.int .i64 (q : Int))) none).run Tryz.prog W = .ok sv W) ∧ IsA w sv (l.take q) := by
  obtain ⟨x, c, rfl, _, _⟩ := IsX.slice h.1
  obtain ⟨h1, h2⟩ := slice_h_A h hq rfl
  exact ⟨_, h1, h2⟩
/-- What is so of two volumes behind acts, the second one behind some of the first one's. -/
structure Pair (sa sb : Vst) : Prop where
  grows : Grows sb.ns sa.ns
  agree : Agree sa sb
  chk : ∀ n ∈ sa.ns, ncheck n = 0
  few : sa.idx.length ≤ 60
  tops : tot sa.tops ≤ 24000
theorem pair_of {sa sb : Vst} {da db : Dsk} {ka kb : Nat} {l : List A9} {j : Nat} (hl : l.length ≤ 60) (hd : ∀ a ∈ l, a.n.data.length ≤ 300) (ha : MadeF 1 1048576 da ka l.length sa l) (hb : MadeF 2 1048576 db kb (l.take j).length sb (l.take j)) (hok : sa.Ok) : Pair sa sb := by
  have h1 := ha.run
  have h2 := hb.run
  have e : vst0 2 1048576 0 = (vst0 1 1048576 0).at 2 := rfl
  rw [e, runA_at] at h2
  have hg : Grows sb.ns sa.ns := by
    rw [h2, h1]
    exact runA_take _ l j
  have hI : sa.idx.length ≤ 60 := by have := sa.idx_len; have := ha.ns; omega
  refine ⟨hg, hg.agree, fun n hn => (hok.all n hn).2, hI, ?_⟩
  have h3 : ∀ n ∈ sa.tops, nlen n ≤ 400 := fun n hn => by
    have h4 := (newest_mem (Vst.tops_mem hn)).1
    rw [h1] at h4
    rcases runA_small l _ hd n h4 with h5 | h5
    · cases h5
    · exact nlen_small h5
  have := tot_le h3
  rw [sa.tops_len] at this
  have : 400 * sa.idx.length ≤ 400 * 60 := Nat.mul_le_mul_left _ hI
  omega

/-- Two volumes, the first one's document, and what each lies in. -/
structure Two (w0 w : World) (W B ga pa : Nat) (Sa : Nat → Prop) (da : Dsk) (ka : Nat) (sa : Vst) (gb pb : Nat) (Sb : Nat → Prop) (db : Dsk) (kb : Nat) (sb : Vst) (lx : Option Addr) (I lc : Nat) (dx : Option Addr) (N dc : Nat) : Prop where
  ra : Vready w ga pa Sa da ka sa
  rb : Vready w gb pb Sb db kb sb
  la : ∀ b, Sa b → b < W
  lb : ∀ b, Sb b → W ≤ b
  l : Q.IsP w (.slice lx I lc) sa.idx
  ll : ∀ b, liesX (.slice lx I lc) sa.idx.length b → b < W
  box : Blk w B #[.int .i64 (sa.num : Int), .int .i64 (sa.most : Int), .int .i64 (sa.epoch : Int), .int .i64 (sa.size : Int), .bool sa.shut, .slice lx I lc, .slice dx N dc] 30
  lB : B < W
  bel : Below w0.heap.size w0 w
  low : w0.heap.size ≤ W
theorem Two.below {w0 w w' : World} {W B ga pa : Nat} {Sa : Nat → Prop} {da : Dsk} {ka : Nat} {sa : Vst} {gb pb : Nat} {Sb : Nat → Prop} {db : Dsk} {kb : Nat} {sb : Vst} {lx : Option Addr} {I lc : Nat} {dx : Option Addr} {N dc : Nat} (h : Two w0 w W B ga pa Sa da ka sa gb pb Sb db kb sb lx I lc dx N dc) (hb : Below w.heap.size w w') : Two w0 w' W B ga pa Sa da ka sa gb pb Sb db kb sb lx I lc dx N dc :=
  ⟨h.ra.below hb, h.rb.below hb, h.la, h.lb, h.l.mono hb (Nat.le_refl _), h.ll, h.box.below hb h.box.lt, h.lB, h.bel.trans (hb.mono h.bel.size), h.low⟩
theorem Two.laid {w0 w w' : World} {W B ga pa : Nat} {Sa : Nat → Prop} {da : Dsk} {ka : Nat} {sa : Vst} {gb pb : Nat} {Sb S' : Nat → Prop} {db d' : Dsk} {kb k' : Nat} {sb s' : Vst} {lx : Option Addr} {I lc : Nat} {dx : Option Addr} {N dc : Nat} (h : Two w0 w W B ga pa Sa da ka sa gb pb Sb db kb sb lx I lc dx N dc) (hv : VolR w w' gb pb Sb S' db d' sb k' s') : Two w0 w' W B ga pa Sa da ka sa gb pb S' d' k' s' lx I lc dx N dc := by
  have hBl := h.box.lt
  have hlb := h.lb
  have hla := h.la
  refine ⟨h.ra.kept hv.kept (fun b h1 h2 => by have := hla b h1; have := hlb b h2; omega), hv.r, hla, fun b hb => ?_, IsX.kept h.l hv.kept (fun b h1 h2 => by have := h.ll b h1; have := hlb b h2; omega), h.ll, h.box.kept hv.kept (fun e => by have := h.lB; have := hlb _ e; omega), h.lB, h.bel.trans (hv.kept.below h.bel.size (fun j hj e => by have := hlb j e; have := h.low; omega)), h.low⟩
  rcases hv.low b hb with e | e
  · exact hlb b e
  · have := h.ll
    have h1 := h.rb.vl
    obtain ⟨x, v, Sd, h2, h3⟩ := h1
    have := hlb gb ((h3 gb).2 (.inl rfl))
    have := h2.box.lt
    omega

set_option maxRecDepth 100000 in
set_option maxHeartbeats 4000000 in
theorem shipAll_all (v : Value) (l : List A9v) (kk : Nat) (w : World) (h : IsA w v l) (hf : ∀ x ∈ l, x.1.n.fits) (hkk : kk < 256) :
    Calls Tryz.prog 5 #[v, .int .u8 (kk : Int)] w fun e w' => e = .returned (.bool true) ∧ Below w.heap.size w w' := by
  have HA := Lib.hid (alive13 w)
  have hlen := fun W => len_X (P := Tryz.prog) h.1 22 3 _ Tryz.underlying22 W
  obtain ⟨AN, hAN⟩ : ∃ AN, l.length = AN := ⟨_, rfl⟩
  rw [hAN] at hlen
  have HH := Lib.hid h
  have HF := Lib.hid hf
  have HFA := Lib.hid (fun wx (hb : Below w.heap.size w wx) => far_w _ l wx (HH.out.mono hb (Nat.le_refl _)))
  cases hr : farA (l.map (·.1)) with
  | true =>
    rw [hr] at HFA
    clear hr h hf
    go_enter Tryz.func5, Tryz.ntmps5
    go_wp2_with fail
    refine HA.out.mono ?_
    rintro e w1 ⟨rfl, hb⟩
    have HB := Lib.hid hb
    clear hb
    go_wp2_with fail
    refine (HFA.out _ HB.out).mono ?_
    rintro e w2 ⟨rfl, rfl⟩
    go_wp2
    go_ret
    exact ⟨rfl, HB.out⟩
  | false =>
    have hAN60 : AN ≤ 60 := by rw [← hAN]; exact (far_few hr).1
    obtain ⟨j, hj⟩ : ∃ j, kk % (AN + 1) = j := ⟨_, rfl⟩
    have hjA : j ≤ AN := by rw [← hj]; exact Nat.lt_succ_iff.1 (Nat.mod_lt _ (by omega))
    have HM := Lib.hid (fun wx (hb : Below w.heap.size w wx) => made_any 1 1048576 (by decide) (by decide) (by decide) (by decide) _ l wx (HH.out.mono hb (Nat.le_refl _)) (far_few hr).1 (far_few hr).2 HF.out)
    obtain ⟨sv, hslr, hsl⟩ := slice_h_V h (q := j) (by rw [hAN]; exact hjA)
    have HM2 := Lib.hid (fun wx (hb : Below w.heap.size w wx) => made_any 2 1048576 (by decide) (by decide) (by decide) (by decide) sv (l.take j) wx (hsl.mono hb (Nat.le_refl _)) (by rw [List.length_take]; omega) (fun x hx => (far_few hr).2 x (List.mem_of_mem_take hx)) (fun x hx => HF.out x (List.mem_of_mem_take hx)))
    have HSM := Lib.hid (far_few hr).2
    have HAN := Lib.hid hAN
    have ea : IntKind.i64.wrap ((AN : Int) + 1) = (AN : Int) + 1 := IntWalk.i64_in _ (by omega)
    have er : ((kk : Int) % ((AN : Int) + 1)) = (j : Int) := by rw [← hj, Int.natCast_emod]; rfl
    rw [hr] at HFA
    clear hr h hf hsl hAN
    go_enter Tryz.func5, Tryz.ntmps5
    go_wp2_with fail
    refine HA.out.mono ?_
    rintro e w1 ⟨rfl, hb⟩
    have HB := Lib.hid hb
    clear hb
    go_wp2_with fail
    refine (HFA.out _ HB.out).mono ?_
    rintro e w1' ⟨rfl, rfl⟩
    go_wp2_with fail
    refine (HM.out _ HB.out).mono ?_
    rintro e w2 ⟨ga, pa, Sa, da, ka, sa, lv, dv, ps, rfl, hr, hdoc, hb, hS, hm⟩
    obtain ⟨lx, lc, rfl, _, _⟩ := IsX.slice hdoc.l
    obtain ⟨dx, dc, rfl, _, _⟩ := IsX.slice hdoc.d.1
    obtain ⟨I, hI⟩ : ∃ I, sa.idx.length = I := ⟨_, rfl⟩
    obtain ⟨N, hN⟩ : ∃ N, ps.length = N := ⟨_, rfl⟩
    rw [hI, hN] at hdoc ⊢
    have HR := Lib.hid hr
    have HL := Lib.hid hdoc.l
    have HB2 := Lib.hid (HB.out.trans (hb.mono HB.out.size))
    have HI := Lib.hid hI
    have HMF := Lib.hid hm
    clear hr hdoc hb hS hm hI hN HM HFA HA HB
    go_upto_region 6 with fail
    obtain ⟨w3, hw3⟩ : ∃ w3, w2.alloc (.cells #[.int .i64 (sa.num : Int), .int .i64 (sa.most : Int), .int .i64 (sa.epoch : Int), .int .i64 (sa.size : Int), .bool sa.shut, .slice lx I lc, .slice dx N dc] 30) = w3 := ⟨_, rfl⟩
    have hb3 := below_alloc w2 (.cells #[.int .i64 (sa.num : Int), .int .i64 (sa.most : Int), .int .i64 (sa.epoch : Int), .int .i64 (sa.size : Int), .bool sa.shut, .slice lx I lc, .slice dx N dc] 30)
    have hV3 := Blk.new w2 #[.int .i64 (sa.num : Int), .int .i64 (sa.most : Int), .int .i64 (sa.epoch : Int), .int .i64 (sa.size : Int), .bool sa.shut, .slice lx I lc, .slice dx N dc] 30
    rw [hw3] at hb3 hV3
    rw [hw3]
    obtain ⟨B, hBq⟩ : ∃ B, w2.heap.size = B := ⟨_, rfl⟩
    have hBw : B < w3.heap.size := by rw [← hBq]; exact hV3.lt
    have HT3 := Lib.hid (show Vready w3 ga pa Sa da ka sa ∧ Q.IsP w3 (.slice lx I lc) sa.idx ∧ Blk w3 B #[.int .i64 (sa.num : Int), .int .i64 (sa.most : Int), .int .i64 (sa.epoch : Int), .int .i64 (sa.size : Int), .bool sa.shut, .slice lx I lc, .slice dx N dc] 30 ∧ (∀ b, Sa b → b < w3.heap.size) ∧ (∀ b, liesX (.slice lx I lc) sa.idx.length b → b < w3.heap.size) ∧ Below w.heap.size w w3 from
      ⟨HR.out.below hb3, HL.out.mono hb3 (Nat.le_refl _), hBq ▸ hV3, fun b hb => Nat.lt_of_lt_of_le (HR.out.vl.lt b hb) hb3.size, fun b hb => Nat.lt_of_lt_of_le (IsX.lies_lt HL.out (by decide) hb) hb3.size, HB2.out.trans (hb3.mono HB2.out.size)⟩)
    try rw [hBq]
    clear hw3 hb3 hV3 hBq HR HL HB2
    go_wp2_with fail
    refine (HM2.out _ HT3.out.2.2.2.2.2).mono ?_
    rintro e w4 ⟨gb, pb, Sb, db, kb, sb, lv2, dv2, ps2, rfl, hr2, hdoc2, hb4, hS2, hm2⟩
    obtain ⟨lx2, lc2, rfl, _, _⟩ := IsX.slice hdoc2.l
    obtain ⟨dx2, dc2, rfl, _, _⟩ := IsX.slice hdoc2.d.1
    obtain ⟨I2, hI2⟩ : ∃ I, sb.idx.length = I := ⟨_, rfl⟩
    obtain ⟨N2, hN2⟩ : ∃ N, ps2.length = N := ⟨_, rfl⟩
    rw [hI2, hN2]
    have HP := Lib.hid (pair_of (l := l.map (·.1)) (j := j) (by rw [List.length_map, HAN.out]; exact hAN60) (fun a ha => by obtain ⟨x, hx, rfl⟩ := List.mem_map.1 ha; exact HSM.out x hx) (by rw [List.length_map]; exact HMF.out) (by rw [← List.map_take, List.length_map]; exact hm2) HT3.out.1.ok)
    have HT4 := Lib.hid (show Two w w4 w3.heap.size B ga pa Sa da ka sa gb pb Sb db kb sb lx I lc dx N dc from
      ⟨HT3.out.1.below hb4, hr2, HT3.out.2.2.2.1, hS2, HT3.out.2.1.mono hb4 (Nat.le_refl _), HT3.out.2.2.2.2.1, HT3.out.2.2.1.below hb4 HT3.out.2.2.1.lt, hBw, HT3.out.2.2.2.2.2.trans (hb4.mono HT3.out.2.2.2.2.2.size), HT3.out.2.2.2.2.2.size⟩)
    have HM4 := Lib.hid (show sb.most = 1048576 ∧ sb.size ≤ 24016 ∧ sb.ns.length ≤ 60 ∧ db.used = 24 + sb.size ∧ db.cap = 1048576 ∧ kb ≤ 616 from by
      have hj60 : (l.take j).length ≤ 60 := by rw [List.length_take, HAN.out]; omega
      have h1 := hm2.size
      have h2 := hm2.ns
      have h3 := hm2.few
      exact ⟨hm2.most, by omega, by omega, hm2.used, hm2.cap, by omega⟩)
    clear hr2 hdoc2 hb4 hS2 hm2 hI2 hN2 HM2 HT3 HMF
    have HT5 := Lib.hid (HT4.out.below (below_alloc w4 (.cells #[.int .i64 (sb.num : Int), .int .i64 (sb.most : Int), .int .i64 (sb.epoch : Int), .int .i64 (sb.size : Int), .bool sb.shut, .slice lx2 I2 lc2, .slice dx2 N2 dc2] 30)))
    go_upto_region 9 with fail
    obtain ⟨w5, hw5⟩ : ∃ w5, w4.alloc (.cells #[.int .i64 (sb.num : Int), .int .i64 (sb.most : Int), .int .i64 (sb.epoch : Int), .int .i64 (sb.size : Int), .bool sb.shut, .slice lx2 I2 lc2, .slice dx2 N2 dc2] 30) = w5 := ⟨_, rfl⟩
    rw [hw5] at HT5
    rw [hw5]
    clear hw5 HT4
    -- Behind(a, b)
    go_wp2_with fail
    refine (sbeh_v ga pa ka gb pb kb Sa Sb da db sa sb w5 HT5.out.ra HT5.out.rb).mono ?_
    rintro e w6 ⟨x6, c6, rfl, hb6⟩
    obtain ⟨LA, hLA⟩ : ∃ LA, (behindL sa sb).length = LA := ⟨_, rfl⟩
    have hLI : LA ≤ I := by rw [← hLA, ← HI.out]; exact behind_len sa sb
    rw [hLA]
    have HT6 := Lib.hid (HT5.out.below hb6)
    clear hb6 hLA HT5
    -- All(a, b)
    have hI60 : I ≤ 60 := by rw [← HI.out]; exact HP.out.few
    have HAL := Lib.hid (all_laid HP.out.agree HP.out.chk (by have := HP.out.tops; have := HM4.out.1; have := HM4.out.2.1; omega))
    go_wp2_with fail
    refine (sall_v ga pa ka gb pb kb Sa Sb da db sa sb w6 HT6.out.ra HT6.out.rb (fun b h1 h2 => by have := HT6.out.la b h1; have := HT6.out.lb b h2; omega) (by rw [HI.out]; omega) (by rw [HI.out]; have := HM4.out.2.2.1; omega) (by have := HP.out.tops; have := HM4.out; omega) (by have := HM4.out; omega)).mono ?_
    rintro e w7 ⟨rfl, S1, d1, hv7⟩
    rw [HAL.out.1, HI.out]
    simp only
    rw [cerr_0]
    obtain ⟨sc, hsc⟩ : ∃ sc, (sb.lays sa.tops).1 = sc := ⟨_, rfl⟩
    rw [hsc] at hv7 HAL
    have HT7 := Lib.hid (HT6.out.laid hv7)
    have HC7 := Lib.hid (show d1.cap = 1048576 ∧ d1.used = 24 + sc.size ∧ sc.size ≤ 48016 ∧ sc.ns.length ≤ 120 ∧ sc.most = 1048576 from by
      obtain ⟨_, _, h3, h4, h5, _⟩ := HAL.out
      have h6 := HM4.out
      have h7 := HP.out.tops
      have h8 := hv7.used
      have h9 := hv7.cap
      rw [HI.out] at h5
      have h10 := h4.most
      exact ⟨by omega, by omega, by omega, by omega, by omega⟩)
    have HJ := Lib.hid HAL.out.2.1
    clear hv7 hsc HT6 HAL
    -- Behind(a, c)
    go_wp2_with fail
    refine (sbeh_v ga pa ka gb pb (kb + 256) Sa S1 da d1 sa sc w7 HT7.out.ra HT7.out.rb).mono ?_
    rintro e w8 ⟨x8, c8, rfl, hb8⟩
    rw [behind_all HJ.out]
    have HT8 := Lib.hid (HT7.out.below hb8)
    clear hb8 HT7
    -- Info of c
    obtain ⟨SZ, hSZ⟩ : ∃ SZ, sc.size = SZ := ⟨_, rfl⟩
    have HSZ := Lib.hid hSZ
    have hfld := fun W => Tryz.infoSz (.int .i64 (sc.num : Int)) (.int .i64 (sc.gen : Int)) (.int .i64 (sc.epoch : Int)) (.int .i64 (SZ : Int)) (.int .i64 ((sc.idx.length : Int) - (Q.goneN sc.idx : Int))) (.int .i64 (Q.goneN sc.idx : Int)) (.bool sc.shut) W rfl
    have HIN := Lib.hid (fun kz Sz dz wx (hv : Vready wx gb pb Sz dz kz sc) => info_v gb pb kz Sz dz sc wx hv)
    unfold infoV at HIN
    rw [hSZ] at HIN
    clear hSZ
    go_wp2_with fail
    refine (HIN.out _ _ _ w8 HT8.out.rb).mono ?_
    rintro e w9 ⟨rfl, hb9⟩
    have HT9 := Lib.hid (HT8.out.below hb9)
    clear hb9 HT8
    -- All(a, c): twice is as once
    go_wp2_with fail
    refine (sall_v ga pa ka gb pb (kb + 256) Sa S1 da d1 sa sc w9 HT9.out.ra HT9.out.rb (fun b h1 h2 => by have := HT9.out.la b h1; have := HT9.out.lb b h2; omega) (by rw [HI.out]; omega) (by rw [HI.out]; have := HC7.out.2.2.2.1; omega) (by have := HP.out.tops; have := HC7.out; omega) (by have := HM4.out; omega)).mono ?_
    rintro e w10 ⟨rfl, S2, d2, hv10⟩
    have hag := all_again HP.out.agree HP.out.chk HJ.out
    rw [hag] at hv10 ⊢
    rw [HI.out]
    simp only
    rw [cerr_0]
    simp only at hv10
    have HT10 := Lib.hid (HT9.out.laid hv10)
    clear hv10 hag HT9
    -- Behind(c, a)
    go_wp2_with fail
    refine (sbeh_v gb pb (kb + 256 + 256) ga pa ka S2 Sa d2 da sc sa w10 HT10.out.rb HT10.out.ra).mono ?_
    rintro e w11 ⟨x11, c11, rfl, hb11⟩
    rw [HP.out.grows.back HJ.out]
    have HT11 := Lib.hid (HT10.out.below hb11)
    clear hb11 HT10
    go_wp2_with fail
    refine (code_nil _).mono ?_
    rintro e w12 ⟨rfl, rfl⟩
    go_wp2_with fail
    refine (code_nil _).mono ?_
    rintro e w12 ⟨rfl, rfl⟩
    go_wp2_with fail
    refine (code_nil _).mono ?_
    rintro e w12 ⟨rfl, rfl⟩
    go_wp2_with fail
    refine (code_nil _).mono ?_
    rintro e w12 ⟨rfl, rfl⟩
    go_wp2_with fail
    refine (code_nil _).mono ?_
    rintro e w12 ⟨rfl, rfl⟩
    have b5 := HT11.out.box.cell 5 rfl
    have hgt : ¬ (I : Int) < (LA : Int) := by omega
    have hgt' : decide ((I : Int) < (LA : Int)) = false := decide_eq_false hgt
    have hgtn : decide (I < LA) = false := decide_eq_false (by omega)
    have hgtm : ¬ I < LA := by omega
    go_wp2_with fail
    refine (HIN.out _ _ _ _ HT11.out.rb).mono ?_
    rintro e w13 ⟨rfl, hb13⟩
    have HT13 := Lib.hid (HT11.out.below hb13)
    clear hb13 HT11 b5 hgt hgt' hgtn hgtm HIN
    go_wp2_with fail
    go_loopw [22] (fun c wr => ∃ i : Nat, i ≤ I ∧ c = .int .i64 (i : Int) ∧ Hid (Below w13.heap.size w13 wr)) (fun c _ => (I - intOf c).toNat)
    case atStart => exact ⟨0, Nat.zero_le _, rfl, Lib.hid (Below.refl _ _)⟩
    case round =>
      obtain ⟨i, hiI, rfl, HW⟩ := hrel
      clear hfld
      by_cases hi : i < I
      · have b5 := (HT13.out.box.below HW.out HT13.out.box.lt).cell 5 rfl
        obtain ⟨b, o, hidx, hp⟩ := Q.indexAt_P (P := Tryz.prog) (HT13.out.l.mono HW.out (Nat.le_refl _)) 27 67 Tryz.underlying27 Tryz.sizePsT i (by rw [HI.out]; exact hi)
        obtain ⟨n, hn1, _, _, hn4, _⟩ := sa.top (pat_mem (show i < sa.idx.length by rw [HI.out]; exact hi))
        obtain ⟨⟨pk, po, pl, pc, pg⟩, hpp⟩ : ∃ p, pat sa.idx i = p := ⟨_, rfl⟩
        rw [hpp] at hp hn1 hn4
        dsimp only at hn1 hn4
        obtain ⟨c0, c1, c2, c3, c4⟩ := hp
        dsimp only at c0 c1 c2 c3 c4
        have hlk := HP.out.grows.look HJ.out pk pc
        obtain ⟨q, hq⟩ : ∃ q, sa.look pk pc = q := ⟨_, rfl⟩
        obtain ⟨gn, hgn⟩ : ∃ gn, (if sa.look pk pc = 0 then n else ⟨0, 0, false, []⟩) = gn := ⟨_, rfl⟩
        obtain ⟨E0, hE0⟩ : ∃ E, cerr q = E := ⟨_, rfl⟩
        have HQ17 := Lib.hid (show q ≤ 17 by rw [← hq]; exact look_le sa pk pc)
        have HE := Lib.hid hE0
        have HGD := Lib.hid (show gn.data.length ≤ 1099511627776 by
          rw [← hgn]
          split
          · have := (ncheck_ok (HP.out.chk n (newest_mem hn1).1)).1; omega
          · simp)
        have HGB := Lib.hid (show ∀ wx, Below wr.heap.size wr wx → Calls Tryz.prog 22 #[.pointer (some ⟨gb, 0, none⟩), .int .u64 (pk : Int), .int .u32 (pc : Int)] wx (fun e w' => ∃ (mx : Option Addr) (mL mc : Nat), e = .returned (.tuple #[Nd.nval gn (.slice mx mL mc), E0]) ∧ IsB w' (.slice mx mL mc) gn.data ∧ (∀ j, liesB (.slice mx mL mc) gn.data j → wx.heap.size ≤ j) ∧ Below wx.heap.size wx w') from fun wx hb => by
          refine (get_v pk pc gb pb _ S2 d2 sc wx ((HT13.out.rb.below HW.out).below hb)).mono ?_
          rintro e w' ⟨m, x, cc, rfl, ho, hb2, hm⟩
          rw [hlk.1] at hm ⊢
          have hmg : m = gn := by
            rw [hm, ← hgn]
            by_cases h0 : sa.look pk pc = 0
            · rw [if_pos h0, if_pos h0, hlk.2 h0, hn1]; rfl
            · rw [if_neg h0, if_neg h0]
          subst hmg
          exact ⟨x, _, cc, by rw [hq, hE0], IsB.own ho rfl, fun j hj => (ho.lt j hj.2).1, hb2⟩)
        have HGA := Lib.hid (show ∀ wx, Below wr.heap.size wr wx → Calls Tryz.prog 22 #[.pointer (some ⟨ga, 0, none⟩), .int .u64 (pk : Int), .int .u32 (pc : Int)] wx (fun e w' => ∃ (mx : Option Addr) (mL mc : Nat), e = .returned (.tuple #[Nd.nval gn (.slice mx mL mc), E0]) ∧ IsB w' (.slice mx mL mc) gn.data ∧ (∀ j, liesB (.slice mx mL mc) gn.data j → wx.heap.size ≤ j) ∧ Below wx.heap.size wx w') from fun wx hb => by
          refine (get_v pk pc ga pa ka Sa da sa wx ((HT13.out.ra.below HW.out).below hb)).mono ?_
          rintro e w' ⟨m, x, cc, rfl, ho, hb2, hm⟩
          have hmg : m = gn := by
            rw [hm, ← hgn]
            by_cases h0 : sa.look pk pc = 0
            · rw [if_pos h0, if_pos h0, hn1]; rfl
            · rw [if_neg h0, if_neg h0]
          subst hmg
          exact ⟨x, _, cc, by rw [hq, hE0], IsB.own ho rfl, fun j hj => (ho.lt j hj.2).1, hb2⟩)
        have HSA := Lib.hid (fun va vb wx (ha : IsB wx va gn.data) (hb : IsB wx vb gn.data) => show Calls Tryz.prog 15 #[Nd.nval gn va, Nd.nval gn vb] wx (fun e w' => e = .returned (.bool true) ∧ Below wx.heap.size wx w') by
          have := Nd.refsame_any gn gn va vb wx ha hb HGD.out
          rw [sameN_self] at this
          exact this)
        have HCD := Lib.hid (fun wx => show Calls Tryz.prog 13 #[E0] wx (fun e w' => e = .returned (.int .i64 (q : Int)) ∧ wx = w') by
          rw [← HE.out]; exact code_any q wx HQ17.out)
        have HS0 := Lib.hid (show ∀ wx, Below wr.heap.size wr wx → (fun wx => wx.cell? ⟨B, 5, none⟩ = some (.slice lx I lc) ∧ wx.cell? ⟨b, o, none⟩ = some (.int .u64 (pk : Int)) ∧ wx.cell? ⟨b, o + 3, none⟩ = some (.int .u32 (pc : Int))) wx from fun wx hb => by
          have hk := Kept.of_below (S := fun _ => False) hb (Nat.le_refl _)
          exact ⟨hk.cell b5 (fun h => h), hk.cell c0 (fun h => h), hk.cell c3 (fun h => h)⟩)
        have e1 : IntKind.i64.wrap ((i : Int) + 1) = (i : Int) + 1 := IntWalk.i64_in _ (by omega)
        clear hpp hn1 hn4 hlk hq hgn hE0 c1 c2 c4
        go_upto_region 22 with fail
        clear b5 c0 c3
        have HS8 := HS0
        have HQ0 := Lib.hid ((Below.refl wr.heap.size wr).drew)
        go_cut [23, 24] from 150 to 166 (fun x23 x24 wx => ∃ (X : Nat) (mx : Option Addr) (mL mc : Nat), x23 = .pointer (some ⟨X, 0, none⟩) ∧ E0 = x24 ∧ wr.heap.size ≤ X ∧ Hid (Below wr.heap.size wr wx) ∧ Hid (Blk wx X #[.int .u64 (gn.key : Int), .int .u32 (gn.cookie : Int), .bool gn.gone, .slice mx mL mc] 48) ∧ Hid (IsB wx (.slice mx mL mc) gn.data))
        case first =>
          refine AnyE.start (S := (fun wx => wx.cell? ⟨B, 5, none⟩ = some (.slice lx I lc) ∧ wx.cell? ⟨b, o, none⟩ = some (.int .u64 (pk : Int)) ∧ wx.cell? ⟨b, o + 3, none⟩ = some (.int .u32 (pc : Int)))) 19 (by kernel_rfl) (HS8.out _ HQ0.out) (fun hHeld => ?_)
          obtain ⟨q0, hq0⟩ : ∃ q0, wr.drew = q0 := ⟨_, rfl⟩
          rw [hq0] at HQ0 hHeld
          rw [hq0]
          clear hq0
          refine AnyE.take (i := 0) (v := ?_) rfl (by kernel_rfl) (by kernel_rfl) (by kernel_rfl) (by kernel_rfl) (fun _ _ _ h => h) (Or.inl ⟨by rfl, ?_⟩) (by assumption) ?_
          rotate_left 1
          · intro w hSw
            (try dsimp only at hSw)
            go_simp
            all_goals (with_reducible rfl)
          try simp only [Act.put, List.getElem_toArray, List.getElem_cons_zero, List.getElem_cons_succ, List.setIfInBounds_toArray, List.set_cons_zero, List.set_cons_succ]
          refine AnyE.take (i := 1) (v := ?_) rfl (by kernel_rfl) (by kernel_rfl) (by kernel_rfl) (by kernel_rfl) (fun _ _ _ h => h) (Or.inl ⟨by rfl, ?_⟩) (by assumption) ?_
          rotate_left 1
          · intro w hSw
            (try dsimp only at hSw)
            go_simp
            all_goals (with_reducible rfl)
          try simp only [Act.put, List.getElem_toArray, List.getElem_cons_zero, List.getElem_cons_succ, List.setIfInBounds_toArray, List.set_cons_zero, List.set_cons_succ]
          refine AnyE.take (i := 2) (v := ?_) rfl (by kernel_rfl) (by kernel_rfl) (by kernel_rfl) (by kernel_rfl) (fun _ _ _ h => h) (Or.inl ⟨by rfl, ?_⟩) (by assumption) ?_
          rotate_left 1
          · intro w hSw
            (try dsimp only at hSw)
            go_simp
            all_goals (with_reducible rfl)
          try simp only [Act.put, List.getElem_toArray, List.getElem_cons_zero, List.getElem_cons_succ, List.setIfInBounds_toArray, List.set_cons_zero, List.set_cons_succ]
          refine AnyE.take (i := 3) (v := ?_) rfl (by kernel_rfl) (by kernel_rfl) (by kernel_rfl) (by kernel_rfl) (fun _ _ _ h => h) (Or.inl ⟨by rfl, ?_⟩) (by assumption) ?_
          rotate_left 1
          · intro w hSw
            (try dsimp only at hSw)
            go_simp
            all_goals (with_reducible rfl)
          try simp only [Act.put, List.getElem_toArray, List.getElem_cons_zero, List.getElem_cons_succ, List.setIfInBounds_toArray, List.set_cons_zero, List.set_cons_succ]
          refine AnyE.take (i := 4) (v := ?_) rfl (by kernel_rfl) (by kernel_rfl) (by kernel_rfl) (by kernel_rfl) (fun _ _ _ h => h) (Or.inl ⟨by rfl, ?_⟩) (by assumption) ?_
          rotate_left 1
          · intro w hSw
            (try dsimp only at hSw)
            go_simp
            all_goals (with_reducible rfl)
          try simp only [Act.put, List.getElem_toArray, List.getElem_cons_zero, List.getElem_cons_succ, List.setIfInBounds_toArray, List.set_cons_zero, List.set_cons_succ]
          refine AnyE.take (i := 5) (v := ?_) rfl (by kernel_rfl) (by kernel_rfl) (by kernel_rfl) (by kernel_rfl) (fun _ _ _ h => h) (Or.inl ⟨by rfl, ?_⟩) (by assumption) ?_
          rotate_left 1
          · intro w hSw
            (try dsimp only at hSw)
            go_simp
            all_goals (with_reducible rfl)
          try simp only [Act.put, List.getElem_toArray, List.getElem_cons_zero, List.getElem_cons_succ, List.setIfInBounds_toArray, List.set_cons_zero, List.set_cons_succ]
          refine AnyE.take (i := 6) (v := ?_) rfl (by kernel_rfl) (by kernel_rfl) (by kernel_rfl) (by kernel_rfl) (fun _ _ _ h => h) (Or.inl ⟨by rfl, ?_⟩) (by assumption) ?_
          rotate_left 1
          · intro w hSw
            (try dsimp only at hSw)
            go_simp
            all_goals (with_reducible rfl)
          try simp only [Act.put, List.getElem_toArray, List.getElem_cons_zero, List.getElem_cons_succ, List.setIfInBounds_toArray, List.set_cons_zero, List.set_cons_succ]
          refine AnyE.take (i := 7) (v := ?_) rfl (by kernel_rfl) (by kernel_rfl) (by kernel_rfl) (by kernel_rfl) (fun _ _ _ h => h) (Or.inl ⟨by rfl, ?_⟩) (by assumption) ?_
          rotate_left 1
          · intro w hSw
            (try dsimp only at hSw)
            go_simp
            all_goals (with_reducible rfl)
          try simp only [Act.put, List.getElem_toArray, List.getElem_cons_zero, List.getElem_cons_succ, List.setIfInBounds_toArray, List.set_cons_zero, List.set_cons_succ]
          refine AnyE.take (i := 8) (v := ?_) rfl (by kernel_rfl) (by kernel_rfl) (by kernel_rfl) (by kernel_rfl) (fun _ _ _ h => h) (Or.inl ⟨by rfl, ?_⟩) (by assumption) ?_
          rotate_left 1
          · intro w hSw
            (try dsimp only at hSw)
            go_simp
            all_goals (with_reducible rfl)
          try simp only [Act.put, List.getElem_toArray, List.getElem_cons_zero, List.getElem_cons_succ, List.setIfInBounds_toArray, List.set_cons_zero, List.set_cons_succ]
          refine AnyE.take (i := 9) (v := ?_) rfl (by kernel_rfl) (by kernel_rfl) (by kernel_rfl) (by kernel_rfl) (fun _ _ _ h => h) (Or.inl ⟨by rfl, ?_⟩) (by assumption) ?_
          rotate_left 1
          · intro w hSw
            (try dsimp only at hSw)
            go_simp
            all_goals (with_reducible rfl)
          try simp only [Act.put, List.getElem_toArray, List.getElem_cons_zero, List.getElem_cons_succ, List.setIfInBounds_toArray, List.set_cons_zero, List.set_cons_succ]
          refine AnyE.take (i := 10) (v := ?_) rfl (by kernel_rfl) (by kernel_rfl) (by kernel_rfl) (by kernel_rfl) (fun _ _ _ h => h) (Or.inl ⟨by rfl, ?_⟩) (by assumption) ?_
          rotate_left 1
          · intro w hSw
            (try dsimp only at hSw)
            go_simp
            all_goals (with_reducible rfl)
          try simp only [Act.put, List.getElem_toArray, List.getElem_cons_zero, List.getElem_cons_succ, List.setIfInBounds_toArray, List.set_cons_zero, List.set_cons_succ]
          refine AnyE.take (i := 11) (v := ?_) rfl (by kernel_rfl) (by kernel_rfl) (by kernel_rfl) (by kernel_rfl) (fun _ _ _ h => h) (Or.inl ⟨by rfl, ?_⟩) (by assumption) ?_
          rotate_left 1
          · intro w hSw
            (try dsimp only at hSw)
            go_simp
            all_goals (with_reducible rfl)
          try simp only [Act.put, List.getElem_toArray, List.getElem_cons_zero, List.getElem_cons_succ, List.setIfInBounds_toArray, List.set_cons_zero, List.set_cons_succ]
          refine AnyE.take (i := 12) (v := ?_) rfl (by kernel_rfl) (by kernel_rfl) (by kernel_rfl) (by kernel_rfl) (fun _ _ _ h => h) (Or.inl ⟨by rfl, ?_⟩) (by assumption) ?_
          rotate_left 1
          · intro w hSw
            (try dsimp only at hSw)
            go_simp
            all_goals (with_reducible rfl)
          try simp only [Act.put, List.getElem_toArray, List.getElem_cons_zero, List.getElem_cons_succ, List.setIfInBounds_toArray, List.set_cons_zero, List.set_cons_succ]
          refine AnyE.next (rs := [13, 17]) (by kernel_rfl) (by simp) ?_
          refine AllE.cons rfl (fun K hK => ?_) ?_
          · go_simp
            refine (HGB.out _ HQ0.out).mono ?_
            rintro e q1 ⟨mx, mL, mc, rfl, hib, _, hb2⟩
            have HIB := Lib.hid hib
            have HQ1 := Lib.hid (HQ0.out.trans (hb2.mono HQ0.out.size))
            refine hK.out _ _ (HS8.out _ HQ1.out) (fun hHeld => ?_)
            clear hK K hib hb2
            try simp only [Act.put, List.getElem_toArray, List.getElem_cons_zero, List.getElem_cons_succ, List.setIfInBounds_toArray, List.set_cons_zero, List.set_cons_succ]
            refine AnyE.take (i := 14) (v := ?_) rfl (by kernel_rfl) (by kernel_rfl) (by kernel_rfl) (by kernel_rfl) (fun _ _ _ h => h) (Or.inl ⟨by rfl, ?_⟩) (by assumption) ?_
            rotate_left 1
            · intro w hSw
              (try dsimp only at hSw)
              go_simp
              all_goals (with_reducible rfl)
            try simp only [Act.put, List.getElem_toArray, List.getElem_cons_zero, List.getElem_cons_succ, List.setIfInBounds_toArray, List.set_cons_zero, List.set_cons_succ]
            refine AnyE.take (i := 15) (v := ?_) rfl (by kernel_rfl) (by kernel_rfl) (by kernel_rfl) (by kernel_rfl) (fun _ _ _ h => h) (Or.inl ⟨by rfl, ?_⟩) (by assumption) ?_
            rotate_left 1
            · intro w hSw
              (try dsimp only at hSw)
              go_simp
              all_goals (with_reducible rfl)
            try simp only [Act.put, List.getElem_toArray, List.getElem_cons_zero, List.getElem_cons_succ, List.setIfInBounds_toArray, List.set_cons_zero, List.set_cons_succ]
            refine AnyE.take (i := 16) (v := ?_) rfl (by kernel_rfl) (by kernel_rfl) (by kernel_rfl) (by kernel_rfl) (fun _ _ _ h => h) (Or.inl ⟨by rfl, ?_⟩) (by assumption) ?_
            rotate_left 1
            · intro w hSw
              (try dsimp only at hSw)
              go_simp
              all_goals (with_reducible rfl)
            try simp only [Act.put, List.getElem_toArray, List.getElem_cons_zero, List.getElem_cons_succ, List.setIfInBounds_toArray, List.set_cons_zero, List.set_cons_succ]
            refine AnyE.next (rs := [17]) (by kernel_rfl) (by simp) ?_
            refine AllE.cons rfl (fun K hK => ?_) AllE.nil
            go_simp
            refine hK.out _ _ (HS8.out _ (HQ1.out.alloc HQ1.out.size (.cells #[.int .u64 0, .int .u32 0, .bool false, .slice none 0 0] 48))) (fun hHeld => ?_)
            have HQ2 := Lib.hid (HQ1.out.alloc HQ1.out.size (.cells #[.int .u64 0, .int .u32 0, .bool false, .slice none 0 0] 48))
            have HXN := Lib.hid (Blk.new q1 #[.int .u64 0, .int .u32 0, .bool false, .slice none 0 0] 48)
            have GX := Lib.hid HQ1.out.size
            have HIC := Lib.hid (HIB.out.mono (below_alloc q1 (.cells #[.int .u64 0, .int .u32 0, .bool false, .slice none 0 0] 48)) (Nat.le_refl _))
            have NX := Lib.hid (show ∀ j, liesB (.slice mx mL mc) gn.data j → j = q1.heap.size → False from fun j hj e => by have := HIB.out.lies_lt hj; omega)
            obtain ⟨q2, hq2⟩ : ∃ q2, q1.alloc (.cells #[.int .u64 0, .int .u32 0, .bool false, .slice none 0 0] 48) = q2 := ⟨_, rfl⟩
            rw [hq2] at HQ2 HXN hHeld HIC
            rw [hq2]
            clear hK K hq2
            try simp only [Act.put, List.getElem_toArray, List.getElem_cons_zero, List.getElem_cons_succ, List.setIfInBounds_toArray, List.set_cons_zero, List.set_cons_succ]
            have z0 := HXN.out.cell 0 rfl
            have z1 := HXN.out.cell 1 rfl
            have z2 := HXN.out.cell 2 rfl
            have z3 := HXN.out.cell 3 rfl
            have zf := fun j => HXN.out.free j
            have XB := Lib.hid (blk_set4 HXN.out (.int .u64 (gn.key : Int)) (.int .u32 (gn.cookie : Int)) (.bool gn.gone) (.slice mx mL mc))
            have XW := Lib.hid (below_set4 (g := q1.heap.size) (u0 := .int .u64 (gn.key : Int)) (u1 := .int .u32 (gn.cookie : Int)) (u2 := .bool gn.gone) (u3 := .slice mx mL mc) HQ2.out GX.out)
            have XI := Lib.hid (HIC.out.kept (kept_set4 _ q1.heap.size (.int .u64 (gn.key : Int)) (.int .u32 (gn.cookie : Int)) (.bool gn.gone) (.slice mx mL mc)) (fun j hj e => NX.out j hj e))
            unfold set4 at XB XW XI
            refine AnyE.next (rs := [18]) (by kernel_rfl) (by simp) ?_
            refine AllE.cons rfl (fun K hK => ?_) AllE.nil
            go_simp
            refine hK.out _ _ (HS8.out _ XW.out) (fun hHeld => ?_)
            clear hK K
            try simp only [Act.put, List.getElem_toArray, List.getElem_cons_zero, List.getElem_cons_succ, List.setIfInBounds_toArray, List.set_cons_zero, List.set_cons_succ]
            clear z0 z1 z2 z3 zf
            refine AnyE.next (rs := [19]) (by kernel_rfl) (by simp) ?_
            refine AllE.last rfl (fun K hK => ?_)
            go_simp
            refine hK.out _ _ ?_
            clear hK K
            try simp only [Act.put, List.getElem_toArray, List.getElem_cons_zero, List.getElem_cons_succ, List.setIfInBounds_toArray, List.set_cons_zero, List.set_cons_succ]
            refine AnyE.done (by kernel_rfl) ?_ _
            go_wp2_with fail
            go_meet
            exact ⟨q1.heap.size, mx, mL, mc, by first | exact rfl | exact trivial, by first | exact rfl | exact trivial, GX.out, XW, XB, XI⟩
          refine AllE.cons rfl (fun K hK => ?_) AllE.nil
          go_simp
          refine hK.out _ _ (HS8.out _ (HQ0.out.alloc HQ0.out.size (.cells #[.int .u64 0, .int .u32 0, .bool false, .slice none 0 0] 48))) (fun hHeld => ?_)
          have HQ1 := Lib.hid (HQ0.out.alloc HQ0.out.size (.cells #[.int .u64 0, .int .u32 0, .bool false, .slice none 0 0] 48))
          have HXN := Lib.hid (Blk.new q0 #[.int .u64 0, .int .u32 0, .bool false, .slice none 0 0] 48)
          have GX := Lib.hid HQ0.out.size
          obtain ⟨q1, hnw⟩ : ∃ nw, q0.alloc (.cells #[.int .u64 0, .int .u32 0, .bool false, .slice none 0 0] 48) = nw := ⟨_, rfl⟩
          rw [hnw] at HQ1 HXN hHeld
          rw [hnw]
          clear hK K hnw
          try simp only [Act.put, List.getElem_toArray, List.getElem_cons_zero, List.getElem_cons_succ, List.setIfInBounds_toArray, List.set_cons_zero, List.set_cons_succ]
          refine AnyE.next (rs := [13]) (by kernel_rfl) (by simp) ?_
          refine AllE.cons rfl (fun K hK => ?_) AllE.nil
          go_simp
          refine (HGB.out _ HQ1.out).mono ?_
          rintro e q2 ⟨mx, mL, mc, rfl, hib, hfr, hb2⟩
          have HIB := Lib.hid hib
          have HQ2 := Lib.hid (HQ1.out.trans (hb2.mono HQ1.out.size))
          have HXM := Lib.hid (HXN.out.below hb2 HXN.out.lt)
          have NX := Lib.hid (show ∀ j, liesB (.slice mx mL mc) gn.data j → j = q0.heap.size → False from fun j hj e => by have := hfr j hj; have := HXN.out.lt; omega)
          refine hK.out _ _ (HS8.out _ HQ2.out) (fun hHeld => ?_)
          clear hK K hib hb2 hfr
          try simp only [Act.put, List.getElem_toArray, List.getElem_cons_zero, List.getElem_cons_succ, List.setIfInBounds_toArray, List.set_cons_zero, List.set_cons_succ]
          refine AnyE.take (i := 14) (v := ?_) rfl (by kernel_rfl) (by kernel_rfl) (by kernel_rfl) (by kernel_rfl) (fun _ _ _ h => h) (Or.inl ⟨by rfl, ?_⟩) (by assumption) ?_
          rotate_left 1
          · intro w hSw
            (try dsimp only at hSw)
            go_simp
            all_goals (with_reducible rfl)
          try simp only [Act.put, List.getElem_toArray, List.getElem_cons_zero, List.getElem_cons_succ, List.setIfInBounds_toArray, List.set_cons_zero, List.set_cons_succ]
          refine AnyE.take (i := 15) (v := ?_) rfl (by kernel_rfl) (by kernel_rfl) (by kernel_rfl) (by kernel_rfl) (fun _ _ _ h => h) (Or.inl ⟨by rfl, ?_⟩) (by assumption) ?_
          rotate_left 1
          · intro w hSw
            (try dsimp only at hSw)
            go_simp
            all_goals (with_reducible rfl)
          try simp only [Act.put, List.getElem_toArray, List.getElem_cons_zero, List.getElem_cons_succ, List.setIfInBounds_toArray, List.set_cons_zero, List.set_cons_succ]
          refine AnyE.take (i := 16) (v := ?_) rfl (by kernel_rfl) (by kernel_rfl) (by kernel_rfl) (by kernel_rfl) (fun _ _ _ h => h) (Or.inl ⟨by rfl, ?_⟩) (by assumption) ?_
          rotate_left 1
          · intro w hSw
            (try dsimp only at hSw)
            go_simp
            all_goals (with_reducible rfl)
          try simp only [Act.put, List.getElem_toArray, List.getElem_cons_zero, List.getElem_cons_succ, List.setIfInBounds_toArray, List.set_cons_zero, List.set_cons_succ]
          have z0 := HXM.out.cell 0 rfl
          have z1 := HXM.out.cell 1 rfl
          have z2 := HXM.out.cell 2 rfl
          have z3 := HXM.out.cell 3 rfl
          have zf := fun j => HXM.out.free j
          have XB := Lib.hid (blk_set4 HXM.out (.int .u64 (gn.key : Int)) (.int .u32 (gn.cookie : Int)) (.bool gn.gone) (.slice mx mL mc))
          have XW := Lib.hid (below_set4 (g := q0.heap.size) (u0 := .int .u64 (gn.key : Int)) (u1 := .int .u32 (gn.cookie : Int)) (u2 := .bool gn.gone) (u3 := .slice mx mL mc) HQ2.out GX.out)
          have XI := Lib.hid (HIB.out.kept (kept_set4 _ q0.heap.size (.int .u64 (gn.key : Int)) (.int .u32 (gn.cookie : Int)) (.bool gn.gone) (.slice mx mL mc)) (fun j hj e => NX.out j hj e))
          unfold set4 at XB XW XI
          refine AnyE.next (rs := [18]) (by kernel_rfl) (by simp) ?_
          refine AllE.cons rfl (fun K hK => ?_) AllE.nil
          go_simp
          refine hK.out _ _ (HS8.out _ XW.out) (fun hHeld => ?_)
          clear hK K
          try simp only [Act.put, List.getElem_toArray, List.getElem_cons_zero, List.getElem_cons_succ, List.setIfInBounds_toArray, List.set_cons_zero, List.set_cons_succ]
          clear z0 z1 z2 z3 zf
          refine AnyE.next (rs := [19]) (by kernel_rfl) (by simp) ?_
          refine AllE.last rfl (fun K hK => ?_)
          go_simp
          refine hK.out _ _ ?_
          clear hK K
          try simp only [Act.put, List.getElem_toArray, List.getElem_cons_zero, List.getElem_cons_succ, List.setIfInBounds_toArray, List.set_cons_zero, List.set_cons_succ]
          refine AnyE.done (by kernel_rfl) ?_ _
          go_wp2_with fail
          go_meet
          exact ⟨q0.heap.size, mx, mL, mc, by first | exact rfl | exact trivial, by first | exact rfl | exact trivial, GX.out, XW, XB, XI⟩
        case rest =>
          obtain ⟨X1, mx1, mL1, mc1, rfl, hx24, hX1, HU, HX1, HI1⟩ := hcut
          subst hx24
          clear HQ0 HS8 HGB
          obtain ⟨wu, hwu⟩ : ∃ wu, wu = wc := ⟨_, rfl⟩
          subst hwu
          have HS8 := Lib.hid (show ∀ wx, Below wu.heap.size wu wx → (fun wx => wx.cell? ⟨B, 5, none⟩ = some (.slice lx I lc) ∧ wx.cell? ⟨b, o, none⟩ = some (.int .u64 (pk : Int)) ∧ wx.cell? ⟨b, o + 3, none⟩ = some (.int .u32 (pc : Int))) wx from fun wx hb => HS0.out wx (HU.out.trans (hb.mono HU.out.size)))
          have HGT := Lib.hid (fun wx (hb : Below wu.heap.size wu wx) => HGA.out wx (HU.out.trans (hb.mono HU.out.size)))
          have HQ0 := Lib.hid ((Below.refl wu.heap.size wu).drew)
          obtain ⟨b5, c0, c3⟩ := HS0.out wu HU.out
          go_upto_region 23 with fail
          clear b5 c0 c3
          go_cut [25, 26] from 167 to 183 (fun x25 x26 wx => ∃ (X : Nat) (mx : Option Addr) (mL mc : Nat), x25 = .pointer (some ⟨X, 0, none⟩) ∧ E0 = x26 ∧ wu.heap.size ≤ X ∧ Hid (Below wu.heap.size wu wx) ∧ Hid (Blk wx X #[.int .u64 (gn.key : Int), .int .u32 (gn.cookie : Int), .bool gn.gone, .slice mx mL mc] 48) ∧ Hid (IsB wx (.slice mx mL mc) gn.data))
          case first =>
            refine AnyE.start (S := (fun wx => wx.cell? ⟨B, 5, none⟩ = some (.slice lx I lc) ∧ wx.cell? ⟨b, o, none⟩ = some (.int .u64 (pk : Int)) ∧ wx.cell? ⟨b, o + 3, none⟩ = some (.int .u32 (pc : Int)))) 19 (by kernel_rfl) (HS8.out _ HQ0.out) (fun hHeld => ?_)
            obtain ⟨q0, hq0⟩ : ∃ q0, wu.drew = q0 := ⟨_, rfl⟩
            rw [hq0] at HQ0 hHeld
            rw [hq0]
            clear hq0
            refine AnyE.take (i := 0) (v := ?_) rfl (by kernel_rfl) (by kernel_rfl) (by kernel_rfl) (by kernel_rfl) (fun _ _ _ h => h) (Or.inl ⟨by rfl, ?_⟩) (by assumption) ?_
            rotate_left 1
            · intro w hSw
              (try dsimp only at hSw)
              go_simp
              all_goals (with_reducible rfl)
            try simp only [Act.put, List.getElem_toArray, List.getElem_cons_zero, List.getElem_cons_succ, List.setIfInBounds_toArray, List.set_cons_zero, List.set_cons_succ]
            refine AnyE.take (i := 1) (v := ?_) rfl (by kernel_rfl) (by kernel_rfl) (by kernel_rfl) (by kernel_rfl) (fun _ _ _ h => h) (Or.inl ⟨by rfl, ?_⟩) (by assumption) ?_
            rotate_left 1
            · intro w hSw
              (try dsimp only at hSw)
              go_simp
              all_goals (with_reducible rfl)
            try simp only [Act.put, List.getElem_toArray, List.getElem_cons_zero, List.getElem_cons_succ, List.setIfInBounds_toArray, List.set_cons_zero, List.set_cons_succ]
            refine AnyE.take (i := 2) (v := ?_) rfl (by kernel_rfl) (by kernel_rfl) (by kernel_rfl) (by kernel_rfl) (fun _ _ _ h => h) (Or.inl ⟨by rfl, ?_⟩) (by assumption) ?_
            rotate_left 1
            · intro w hSw
              (try dsimp only at hSw)
              go_simp
              all_goals (with_reducible rfl)
            try simp only [Act.put, List.getElem_toArray, List.getElem_cons_zero, List.getElem_cons_succ, List.setIfInBounds_toArray, List.set_cons_zero, List.set_cons_succ]
            refine AnyE.take (i := 3) (v := ?_) rfl (by kernel_rfl) (by kernel_rfl) (by kernel_rfl) (by kernel_rfl) (fun _ _ _ h => h) (Or.inl ⟨by rfl, ?_⟩) (by assumption) ?_
            rotate_left 1
            · intro w hSw
              (try dsimp only at hSw)
              go_simp
              all_goals (with_reducible rfl)
            try simp only [Act.put, List.getElem_toArray, List.getElem_cons_zero, List.getElem_cons_succ, List.setIfInBounds_toArray, List.set_cons_zero, List.set_cons_succ]
            refine AnyE.take (i := 4) (v := ?_) rfl (by kernel_rfl) (by kernel_rfl) (by kernel_rfl) (by kernel_rfl) (fun _ _ _ h => h) (Or.inl ⟨by rfl, ?_⟩) (by assumption) ?_
            rotate_left 1
            · intro w hSw
              (try dsimp only at hSw)
              go_simp
              all_goals (with_reducible rfl)
            try simp only [Act.put, List.getElem_toArray, List.getElem_cons_zero, List.getElem_cons_succ, List.setIfInBounds_toArray, List.set_cons_zero, List.set_cons_succ]
            refine AnyE.take (i := 5) (v := ?_) rfl (by kernel_rfl) (by kernel_rfl) (by kernel_rfl) (by kernel_rfl) (fun _ _ _ h => h) (Or.inl ⟨by rfl, ?_⟩) (by assumption) ?_
            rotate_left 1
            · intro w hSw
              (try dsimp only at hSw)
              go_simp
              all_goals (with_reducible rfl)
            try simp only [Act.put, List.getElem_toArray, List.getElem_cons_zero, List.getElem_cons_succ, List.setIfInBounds_toArray, List.set_cons_zero, List.set_cons_succ]
            refine AnyE.take (i := 6) (v := ?_) rfl (by kernel_rfl) (by kernel_rfl) (by kernel_rfl) (by kernel_rfl) (fun _ _ _ h => h) (Or.inl ⟨by rfl, ?_⟩) (by assumption) ?_
            rotate_left 1
            · intro w hSw
              (try dsimp only at hSw)
              go_simp
              all_goals (with_reducible rfl)
            try simp only [Act.put, List.getElem_toArray, List.getElem_cons_zero, List.getElem_cons_succ, List.setIfInBounds_toArray, List.set_cons_zero, List.set_cons_succ]
            refine AnyE.take (i := 7) (v := ?_) rfl (by kernel_rfl) (by kernel_rfl) (by kernel_rfl) (by kernel_rfl) (fun _ _ _ h => h) (Or.inl ⟨by rfl, ?_⟩) (by assumption) ?_
            rotate_left 1
            · intro w hSw
              (try dsimp only at hSw)
              go_simp
              all_goals (with_reducible rfl)
            try simp only [Act.put, List.getElem_toArray, List.getElem_cons_zero, List.getElem_cons_succ, List.setIfInBounds_toArray, List.set_cons_zero, List.set_cons_succ]
            refine AnyE.take (i := 8) (v := ?_) rfl (by kernel_rfl) (by kernel_rfl) (by kernel_rfl) (by kernel_rfl) (fun _ _ _ h => h) (Or.inl ⟨by rfl, ?_⟩) (by assumption) ?_
            rotate_left 1
            · intro w hSw
              (try dsimp only at hSw)
              go_simp
              all_goals (with_reducible rfl)
            try simp only [Act.put, List.getElem_toArray, List.getElem_cons_zero, List.getElem_cons_succ, List.setIfInBounds_toArray, List.set_cons_zero, List.set_cons_succ]
            refine AnyE.take (i := 9) (v := ?_) rfl (by kernel_rfl) (by kernel_rfl) (by kernel_rfl) (by kernel_rfl) (fun _ _ _ h => h) (Or.inl ⟨by rfl, ?_⟩) (by assumption) ?_
            rotate_left 1
            · intro w hSw
              (try dsimp only at hSw)
              go_simp
              all_goals (with_reducible rfl)
            try simp only [Act.put, List.getElem_toArray, List.getElem_cons_zero, List.getElem_cons_succ, List.setIfInBounds_toArray, List.set_cons_zero, List.set_cons_succ]
            refine AnyE.take (i := 10) (v := ?_) rfl (by kernel_rfl) (by kernel_rfl) (by kernel_rfl) (by kernel_rfl) (fun _ _ _ h => h) (Or.inl ⟨by rfl, ?_⟩) (by assumption) ?_
            rotate_left 1
            · intro w hSw
              (try dsimp only at hSw)
              go_simp
              all_goals (with_reducible rfl)
            try simp only [Act.put, List.getElem_toArray, List.getElem_cons_zero, List.getElem_cons_succ, List.setIfInBounds_toArray, List.set_cons_zero, List.set_cons_succ]
            refine AnyE.take (i := 11) (v := ?_) rfl (by kernel_rfl) (by kernel_rfl) (by kernel_rfl) (by kernel_rfl) (fun _ _ _ h => h) (Or.inl ⟨by rfl, ?_⟩) (by assumption) ?_
            rotate_left 1
            · intro w hSw
              (try dsimp only at hSw)
              go_simp
              all_goals (with_reducible rfl)
            try simp only [Act.put, List.getElem_toArray, List.getElem_cons_zero, List.getElem_cons_succ, List.setIfInBounds_toArray, List.set_cons_zero, List.set_cons_succ]
            refine AnyE.take (i := 12) (v := ?_) rfl (by kernel_rfl) (by kernel_rfl) (by kernel_rfl) (by kernel_rfl) (fun _ _ _ h => h) (Or.inl ⟨by rfl, ?_⟩) (by assumption) ?_
            rotate_left 1
            · intro w hSw
              (try dsimp only at hSw)
              go_simp
              all_goals (with_reducible rfl)
            try simp only [Act.put, List.getElem_toArray, List.getElem_cons_zero, List.getElem_cons_succ, List.setIfInBounds_toArray, List.set_cons_zero, List.set_cons_succ]
            refine AnyE.next (rs := [13, 17]) (by kernel_rfl) (by simp) ?_
            refine AllE.cons rfl (fun K hK => ?_) ?_
            · go_simp
              refine (HGT.out _ HQ0.out).mono ?_
              rintro e q1 ⟨mx, mL, mc, rfl, hib, _, hb2⟩
              have HIB := Lib.hid hib
              have HQ1 := Lib.hid (HQ0.out.trans (hb2.mono HQ0.out.size))
              refine hK.out _ _ (HS8.out _ HQ1.out) (fun hHeld => ?_)
              clear hK K hib hb2
              try simp only [Act.put, List.getElem_toArray, List.getElem_cons_zero, List.getElem_cons_succ, List.setIfInBounds_toArray, List.set_cons_zero, List.set_cons_succ]
              refine AnyE.take (i := 14) (v := ?_) rfl (by kernel_rfl) (by kernel_rfl) (by kernel_rfl) (by kernel_rfl) (fun _ _ _ h => h) (Or.inl ⟨by rfl, ?_⟩) (by assumption) ?_
              rotate_left 1
              · intro w hSw
                (try dsimp only at hSw)
                go_simp
                all_goals (with_reducible rfl)
              try simp only [Act.put, List.getElem_toArray, List.getElem_cons_zero, List.getElem_cons_succ, List.setIfInBounds_toArray, List.set_cons_zero, List.set_cons_succ]
              refine AnyE.take (i := 15) (v := ?_) rfl (by kernel_rfl) (by kernel_rfl) (by kernel_rfl) (by kernel_rfl) (fun _ _ _ h => h) (Or.inl ⟨by rfl, ?_⟩) (by assumption) ?_
              rotate_left 1
              · intro w hSw
                (try dsimp only at hSw)
                go_simp
                all_goals (with_reducible rfl)
              try simp only [Act.put, List.getElem_toArray, List.getElem_cons_zero, List.getElem_cons_succ, List.setIfInBounds_toArray, List.set_cons_zero, List.set_cons_succ]
              refine AnyE.take (i := 16) (v := ?_) rfl (by kernel_rfl) (by kernel_rfl) (by kernel_rfl) (by kernel_rfl) (fun _ _ _ h => h) (Or.inl ⟨by rfl, ?_⟩) (by assumption) ?_
              rotate_left 1
              · intro w hSw
                (try dsimp only at hSw)
                go_simp
                all_goals (with_reducible rfl)
              try simp only [Act.put, List.getElem_toArray, List.getElem_cons_zero, List.getElem_cons_succ, List.setIfInBounds_toArray, List.set_cons_zero, List.set_cons_succ]
              refine AnyE.next (rs := [17]) (by kernel_rfl) (by simp) ?_
              refine AllE.cons rfl (fun K hK => ?_) AllE.nil
              go_simp
              refine hK.out _ _ (HS8.out _ (HQ1.out.alloc HQ1.out.size (.cells #[.int .u64 0, .int .u32 0, .bool false, .slice none 0 0] 48))) (fun hHeld => ?_)
              have HQ2 := Lib.hid (HQ1.out.alloc HQ1.out.size (.cells #[.int .u64 0, .int .u32 0, .bool false, .slice none 0 0] 48))
              have HXN := Lib.hid (Blk.new q1 #[.int .u64 0, .int .u32 0, .bool false, .slice none 0 0] 48)
              have GX := Lib.hid HQ1.out.size
              have HIC := Lib.hid (HIB.out.mono (below_alloc q1 (.cells #[.int .u64 0, .int .u32 0, .bool false, .slice none 0 0] 48)) (Nat.le_refl _))
              have NX := Lib.hid (show ∀ j, liesB (.slice mx mL mc) gn.data j → j = q1.heap.size → False from fun j hj e => by have := HIB.out.lies_lt hj; omega)
              obtain ⟨q2, hq2⟩ : ∃ q2, q1.alloc (.cells #[.int .u64 0, .int .u32 0, .bool false, .slice none 0 0] 48) = q2 := ⟨_, rfl⟩
              rw [hq2] at HQ2 HXN hHeld HIC
              rw [hq2]
              clear hK K hq2
              try simp only [Act.put, List.getElem_toArray, List.getElem_cons_zero, List.getElem_cons_succ, List.setIfInBounds_toArray, List.set_cons_zero, List.set_cons_succ]
              have z0 := HXN.out.cell 0 rfl
              have z1 := HXN.out.cell 1 rfl
              have z2 := HXN.out.cell 2 rfl
              have z3 := HXN.out.cell 3 rfl
              have zf := fun j => HXN.out.free j
              have XB := Lib.hid (blk_set4 HXN.out (.int .u64 (gn.key : Int)) (.int .u32 (gn.cookie : Int)) (.bool gn.gone) (.slice mx mL mc))
              have XW := Lib.hid (below_set4 (g := q1.heap.size) (u0 := .int .u64 (gn.key : Int)) (u1 := .int .u32 (gn.cookie : Int)) (u2 := .bool gn.gone) (u3 := .slice mx mL mc) HQ2.out GX.out)
              have XI := Lib.hid (HIC.out.kept (kept_set4 _ q1.heap.size (.int .u64 (gn.key : Int)) (.int .u32 (gn.cookie : Int)) (.bool gn.gone) (.slice mx mL mc)) (fun j hj e => NX.out j hj e))
              unfold set4 at XB XW XI
              refine AnyE.next (rs := [18]) (by kernel_rfl) (by simp) ?_
              refine AllE.cons rfl (fun K hK => ?_) AllE.nil
              go_simp
              refine hK.out _ _ (HS8.out _ XW.out) (fun hHeld => ?_)
              clear hK K
              try simp only [Act.put, List.getElem_toArray, List.getElem_cons_zero, List.getElem_cons_succ, List.setIfInBounds_toArray, List.set_cons_zero, List.set_cons_succ]
              clear z0 z1 z2 z3 zf
              refine AnyE.next (rs := [19]) (by kernel_rfl) (by simp) ?_
              refine AllE.last rfl (fun K hK => ?_)
              go_simp
              refine hK.out _ _ ?_
              clear hK K
              try simp only [Act.put, List.getElem_toArray, List.getElem_cons_zero, List.getElem_cons_succ, List.setIfInBounds_toArray, List.set_cons_zero, List.set_cons_succ]
              refine AnyE.done (by kernel_rfl) ?_ _
              go_wp2_with fail
              go_meet
              exact ⟨q1.heap.size, mx, mL, mc, by first | exact rfl | exact trivial, by first | exact rfl | exact trivial, GX.out, XW, XB, XI⟩
            refine AllE.cons rfl (fun K hK => ?_) AllE.nil
            go_simp
            refine hK.out _ _ (HS8.out _ (HQ0.out.alloc HQ0.out.size (.cells #[.int .u64 0, .int .u32 0, .bool false, .slice none 0 0] 48))) (fun hHeld => ?_)
            have HQ1 := Lib.hid (HQ0.out.alloc HQ0.out.size (.cells #[.int .u64 0, .int .u32 0, .bool false, .slice none 0 0] 48))
            have HXN := Lib.hid (Blk.new q0 #[.int .u64 0, .int .u32 0, .bool false, .slice none 0 0] 48)
            have GX := Lib.hid HQ0.out.size
            obtain ⟨q1, hnw⟩ : ∃ nw, q0.alloc (.cells #[.int .u64 0, .int .u32 0, .bool false, .slice none 0 0] 48) = nw := ⟨_, rfl⟩
            rw [hnw] at HQ1 HXN hHeld
            rw [hnw]
            clear hK K hnw
            try simp only [Act.put, List.getElem_toArray, List.getElem_cons_zero, List.getElem_cons_succ, List.setIfInBounds_toArray, List.set_cons_zero, List.set_cons_succ]
            refine AnyE.next (rs := [13]) (by kernel_rfl) (by simp) ?_
            refine AllE.cons rfl (fun K hK => ?_) AllE.nil
            go_simp
            refine (HGT.out _ HQ1.out).mono ?_
            rintro e q2 ⟨mx, mL, mc, rfl, hib, hfr, hb2⟩
            have HIB := Lib.hid hib
            have HQ2 := Lib.hid (HQ1.out.trans (hb2.mono HQ1.out.size))
            have HXM := Lib.hid (HXN.out.below hb2 HXN.out.lt)
            have NX := Lib.hid (show ∀ j, liesB (.slice mx mL mc) gn.data j → j = q0.heap.size → False from fun j hj e => by have := hfr j hj; have := HXN.out.lt; omega)
            refine hK.out _ _ (HS8.out _ HQ2.out) (fun hHeld => ?_)
            clear hK K hib hb2 hfr
            try simp only [Act.put, List.getElem_toArray, List.getElem_cons_zero, List.getElem_cons_succ, List.setIfInBounds_toArray, List.set_cons_zero, List.set_cons_succ]
            refine AnyE.take (i := 14) (v := ?_) rfl (by kernel_rfl) (by kernel_rfl) (by kernel_rfl) (by kernel_rfl) (fun _ _ _ h => h) (Or.inl ⟨by rfl, ?_⟩) (by assumption) ?_
            rotate_left 1
            · intro w hSw
              (try dsimp only at hSw)
              go_simp
              all_goals (with_reducible rfl)
            try simp only [Act.put, List.getElem_toArray, List.getElem_cons_zero, List.getElem_cons_succ, List.setIfInBounds_toArray, List.set_cons_zero, List.set_cons_succ]
            refine AnyE.take (i := 15) (v := ?_) rfl (by kernel_rfl) (by kernel_rfl) (by kernel_rfl) (by kernel_rfl) (fun _ _ _ h => h) (Or.inl ⟨by rfl, ?_⟩) (by assumption) ?_
            rotate_left 1
            · intro w hSw
              (try dsimp only at hSw)
              go_simp
              all_goals (with_reducible rfl)
            try simp only [Act.put, List.getElem_toArray, List.getElem_cons_zero, List.getElem_cons_succ, List.setIfInBounds_toArray, List.set_cons_zero, List.set_cons_succ]
            refine AnyE.take (i := 16) (v := ?_) rfl (by kernel_rfl) (by kernel_rfl) (by kernel_rfl) (by kernel_rfl) (fun _ _ _ h => h) (Or.inl ⟨by rfl, ?_⟩) (by assumption) ?_
            rotate_left 1
            · intro w hSw
              (try dsimp only at hSw)
              go_simp
              all_goals (with_reducible rfl)
            try simp only [Act.put, List.getElem_toArray, List.getElem_cons_zero, List.getElem_cons_succ, List.setIfInBounds_toArray, List.set_cons_zero, List.set_cons_succ]
            have z0 := HXM.out.cell 0 rfl
            have z1 := HXM.out.cell 1 rfl
            have z2 := HXM.out.cell 2 rfl
            have z3 := HXM.out.cell 3 rfl
            have zf := fun j => HXM.out.free j
            have XB := Lib.hid (blk_set4 HXM.out (.int .u64 (gn.key : Int)) (.int .u32 (gn.cookie : Int)) (.bool gn.gone) (.slice mx mL mc))
            have XW := Lib.hid (below_set4 (g := q0.heap.size) (u0 := .int .u64 (gn.key : Int)) (u1 := .int .u32 (gn.cookie : Int)) (u2 := .bool gn.gone) (u3 := .slice mx mL mc) HQ2.out GX.out)
            have XI := Lib.hid (HIB.out.kept (kept_set4 _ q0.heap.size (.int .u64 (gn.key : Int)) (.int .u32 (gn.cookie : Int)) (.bool gn.gone) (.slice mx mL mc)) (fun j hj e => NX.out j hj e))
            unfold set4 at XB XW XI
            refine AnyE.next (rs := [18]) (by kernel_rfl) (by simp) ?_
            refine AllE.cons rfl (fun K hK => ?_) AllE.nil
            go_simp
            refine hK.out _ _ (HS8.out _ XW.out) (fun hHeld => ?_)
            clear hK K
            try simp only [Act.put, List.getElem_toArray, List.getElem_cons_zero, List.getElem_cons_succ, List.setIfInBounds_toArray, List.set_cons_zero, List.set_cons_succ]
            clear z0 z1 z2 z3 zf
            refine AnyE.next (rs := [19]) (by kernel_rfl) (by simp) ?_
            refine AllE.last rfl (fun K hK => ?_)
            go_simp
            refine hK.out _ _ ?_
            clear hK K
            try simp only [Act.put, List.getElem_toArray, List.getElem_cons_zero, List.getElem_cons_succ, List.setIfInBounds_toArray, List.set_cons_zero, List.set_cons_succ]
            refine AnyE.done (by kernel_rfl) ?_ _
            go_wp2_with fail
            go_meet
            exact ⟨q0.heap.size, mx, mL, mc, by first | exact rfl | exact trivial, by first | exact rfl | exact trivial, GX.out, XW, XB, XI⟩
          case rest =>
            obtain ⟨X2, mx2, mL2, mc2, rfl, hx26, hX2, HU2, HX2, HI2⟩ := hcut
            subst hx26
            obtain ⟨wv, hwv⟩ : ∃ wv, wv = wc := ⟨_, rfl⟩
            subst hwv
            have HX1v := Lib.hid (HX1.out.below HU2.out HX1.out.lt)
            have HI1v := Lib.hid (HI1.out.mono HU2.out (Nat.le_refl _))
            have HWv := Lib.hid ((HW.out.trans (HU.out.mono HW.out.size)).trans (HU2.out.mono (Nat.le_trans HW.out.size HU.out.size)))
            clear HS8 HGT HQ0 HS0 HGA HU HU2 HX1 HI1
            go_wp2_with fail
            refine (HCD.out _).mono ?_
            rintro e w14 ⟨rfl, rfl⟩
            go_wp2_with fail
            refine (HCD.out _).mono ?_
            rintro e w14 ⟨rfl, rfl⟩
            have x0 := HX1v.out.cell 0 rfl
            have x1 := HX1v.out.cell 1 rfl
            have x2 := HX1v.out.cell 2 rfl
            have x3 := HX1v.out.cell 3 rfl
            have y0 := HX2.out.cell 0 rfl
            have y1 := HX2.out.cell 1 rfl
            have y2 := HX2.out.cell 2 rfl
            have y3 := HX2.out.cell 3 rfl
            have hqq : ((q : Int) == (q : Int)) = true := by simp
            go_wp2_with fail
            refine (HSA.out _ _ _ HI1v.out HI2.out).mono ?_
            rintro e w15 ⟨rfl, hb15⟩
            have HW15 := Lib.hid (HWv.out.trans (hb15.mono HWv.out.size))
            clear hb15 x0 x1 x2 x3 y0 y1 y2 y3
            go_wp2
            go_roundw
            case rel => exact ⟨i + 1, by omega, by simp, HW15⟩
            case measure => simp [intOf] <;> omega
      · obtain rfl : I = i := by omega
        have HT14 := Lib.hid (HT13.out.below HW.out)
        have b5 := HT14.out.box.cell 5 rfl
        clear HT13 HW
        go_wp2_with fail
        refine (sall_nil _ _).mono ?_
        rintro e w14 ⟨rfl, hb14⟩
        have HB14 := Lib.hid (HT14.out.bel.trans (hb14.mono HT14.out.bel.size))
        clear hb14 b5
        go_wp2_with fail
        refine (slay_nil _ _).mono ?_
        rintro e w15 ⟨rfl, hb15⟩
        have HB15 := Lib.hid (HB14.out.trans (hb15.mono HB14.out.size))
        clear hb15
        go_wp2_with fail
        refine (sbeh_nil ga _).mono ?_
        rintro e w16 ⟨rfl, hb16⟩
        have HB16 := Lib.hid (HB15.out.trans (hb16.mono HB15.out.size))
        clear hb16
        go_wp2_with fail
        refine (take_nil 0 1 _).mono ?_
        rintro e w17 ⟨rfl, hb17⟩
        have HB17 := Lib.hid (fun o => (HB16.out.trans (hb17.mono HB16.out.size)).alloc (Nat.le_trans HB16.out.size hb17.size) o)
        clear hb17
        go_wp2_with fail
        refine (code_code 15 _ (by decide) (by decide)).mono ?_
        rintro e w18 ⟨rfl, rfl⟩
        go_wp2_with fail
        refine (code_code 15 _ (by decide) (by decide)).mono ?_
        rintro e w18 ⟨rfl, rfl⟩
        go_wp2_with fail
        refine (code_code 15 _ (by decide) (by decide)).mono ?_
        rintro e w18 ⟨rfl, rfl⟩
        go_wp2_with fail
        refine (code_code 15 _ (by decide) (by decide)).mono ?_
        rintro e w18 ⟨rfl, rfl⟩
        go_wp2
        go_ret
        exact ⟨rfl, HB17.out _⟩

end Go.Proofs.YtoblbipkkdiddaaGreatDoor
end
namespace Go.Proofs.YtoblbipkkdiddaaGreatDoor.shipAll
open Go.ChangeShapes Go.WideShapes Go.ChangeAt Go.RowKit
open Go.ChangeMaps (open_string shut_string)
open Go.Cor
set_option linter.unusedVariables false

theorem own : ownKnob Tryz.prog.godebug = none := by kernel_rfl
theorem laidOut : laidOutB Tryz.prog = true := by kernel_rfl
def lay (cs : Array Value) : Obj → Obj
  | .cells _ t frozen => .cells cs t frozen
  | o => o
/-- A world that meets the condition. -/
noncomputable def laidWorld (os : Os) : World :=
  { World.holding Tryz.prog os ⟨#[], #[], []⟩ with heap := ((((World.holding Tryz.prog os ⟨#[], #[], []⟩).heap).modify 2 (lay #[.int .u8 0, .int .u8 1, .int .u8 28, .int .u8 2, .int .u8 29, .int .u8 14, .int .u8 24, .int .u8 3, .int .u8 30, .int .u8 22, .int .u8 20, .int .u8 15, .int .u8 25, .int .u8 17, .int .u8 4, .int .u8 8, .int .u8 31, .int .u8 27, .int .u8 13, .int .u8 23, .int .u8 21, .int .u8 19, .int .u8 16, .int .u8 7, .int .u8 26, .int .u8 12, .int .u8 18, .int .u8 6, .int .u8 11, .int .u8 5, .int .u8 10, .int .u8 9])).modify 3 (lay #[.int .u8 0, .int .u8 1, .int .u8 56, .int .u8 2, .int .u8 57, .int .u8 49, .int .u8 28, .int .u8 3, .int .u8 61, .int .u8 58, .int .u8 42, .int .u8 50, .int .u8 38, .int .u8 29, .int .u8 17, .int .u8 4, .int .u8 62, .int .u8 47, .int .u8 59, .int .u8 36, .int .u8 45, .int .u8 43, .int .u8 51, .int .u8 22, .int .u8 53, .int .u8 39, .int .u8 33, .int .u8 30, .int .u8 24, .int .u8 18, .int .u8 12, .int .u8 5, .int .u8 63, .int .u8 55, .int .u8 48, .int .u8 27, .int .u8 60, .int .u8 41, .int .u8 37, .int .u8 16, .int .u8 46, .int .u8 35, .int .u8 44, .int .u8 21, .int .u8 52, .int .u8 32, .int .u8 23, .int .u8 11, .int .u8 54, .int .u8 26, .int .u8 40, .int .u8 15, .int .u8 34, .int .u8 20, .int .u8 31, .int .u8 10, .int .u8 25, .int .u8 14, .int .u8 19, .int .u8 9, .int .u8 13, .int .u8 8, .int .u8 7, .int .u8 6])).modify 1 (lay #[.int .u64 1, .int .u64 10, .int .u64 100, .int .u64 1000, .int .u64 10000, .int .u64 100000, .int .u64 1000000, .int .u64 10000000, .int .u64 100000000, .int .u64 1000000000, .int .u64 10000000000, .int .u64 100000000000, .int .u64 1000000000000, .int .u64 10000000000000, .int .u64 100000000000000, .int .u64 1000000000000000, .int .u64 10000000000000000, .int .u64 100000000000000000, .int .u64 1000000000000000000, .int .u64 10000000000000000000]) }
theorem laid_met (os : Os) : laidMet Tryz.prog Rows.shipAllRow.laid ((laidWorld os).forCall (fun _ _ => 0) ⟨#[], #[.slice none 0 0, .int .u8 0], []⟩).memory :=
  laidMet_of_run' 8 (by kernel_rfl) (by kernel_rfl)
theorem reads (os : Os) {H : Type} (enc : TypeId × Value → H) : ∃ places, DataW.whole enc Tryz.prog ((laidWorld os).forCall (fun _ _ => 0) ⟨#[], #[.slice none 0 0, .int .u8 0], []⟩).memory Tryz.f5.params.toList Rows.shipAllSpec.vars false (#[.slice none 0 0, .int .u8 0] : Array Value).toList 8 = some ([.nil, .lit (.int .u8 0)], [], places) :=
  ⟨[], by kernel_rfl⟩

set_option maxRecDepth 100000 in
theorem lifted (os : Os) (started : os.Started) (H : Type) (enc : TypeId × Value → H) (F : Stop.Interp) :
    ReturnsInHanded {} Tryz.checked os 5 .any ((OpenSpec.ofChange Rows.shipAllSpec).preRow enc Tryz.prog Tryz.f5 Rows.shipAllRow.domain false Rows.shipAllRow.laid) (((OpenSpec.ofChange Rows.shipAllSpec).at F).post enc Tryz.prog Tryz.f5 false true false false) := by
  obtain ⟨places, hx⟩ := reads os enc
  refine returnsInHanded_of_row (C := Tryz.checked) (s := OpenSpec.ofChange Rows.shipAllSpec) own started (by kernel_rfl) Tryz.func5
    (witness_row_at (enc := enc) (C := Tryz.checked) false (laidWorld os) #[.slice none 0 0, .int .u8 0] rfl (by kernel_rfl) (by kernel_rfl) (by kernel_rfl)
      (OpenSpec.preRow_of_cond 8 hx (by kernel_rfl) (fun k hk => by cases hk) (by kernel_rfl) (laid_met os))) ?_
  intro W base args ds gs before hval0 hW _ _ _ hL _ _
  have hval : ∀ (j : Nat) t v, Tryz.f5.params[j]? = some t → args[j]? = some v → Value.okWide Tryz.prog W .any base t v := hval0
  have hW' := hW
  obtain ⟨p, q, hA0, hV, rfl, hfz, hnd⟩ := hW
  have hA : DataW.TrodAll enc Tryz.prog W 0 (fun _ => true) true Tryz.f5.params.toList args.toList ds p := hA0
  rw [Tryz.params5] at hA hval
  obtain ⟨v0, vs0, d0, ds0, p0, q0, hargs, rfl, rfl, h0, r0⟩ := trodAll_cons hA
  obtain ⟨v1, vs1, d1, ds1, p1, q1, rfl, rfl, rfl, h1, r1⟩ := trodAll_cons r0
  obtain ⟨rfl, rfl, rfl⟩ := trodAll_nil r1
  obtain rfl : args = #[v0, v1] := by cases args; simp_all
  obtain ⟨rfl, rfl⟩ := trodVars_none hV
  obtain ⟨a0, len0, cap0, rfl⟩ := okWide_slice Tryz.underlying22 (hval 0 22 v0 rfl rfl)
  have k0 := h0
  have lt0 : ∀ x ∈ p0, x.block < W.heap.size := by obtain ⟨m, hm⟩ := k0; exact DataW.trod_lt m _ _ _ hm
  obtain ⟨l0, hI0, hF0⟩ : ∃ l : List A9v, IsA W (.slice a0 len0 cap0) l ∧ ∀ x ∈ l, x.1.n.fits := by obtain ⟨fuel, hf⟩ := h0; exact acts9_of_trod (by simpa [Value.cells] using hf)
  obtain ⟨a1, rfl, rfl, rfl, w1⟩ := open_int Tryz.underlying5 (hval 1 5 v1 rfl rfl) h1
  clear hA0 hval0
  have hw := wf_u8 w1
  obtain ⟨k1, rfl⟩ := Int.eq_ofNat_of_zero_le hw.1
  refine (shipAll_all _ l0 k1 W hI0 hF0 (by omega)).mono fun e W' ⟨he, bel⟩ => ?_
  subst he
  exact ⟨_, rfl, _, _, _, [], _, [], hW', trodAll_mk1 (shut_bool Tryz.underlying4 _), (trodAll_cons_mk (Below.trod laidOut (by kernel_rfl) (of_decide_eq_true (by kernel_rfl)) k0 bel lt0) (trodAll_cons_mk (shut_int Tryz.underlying5 w1) trodAll_mk0)), rfl, bel.frame _, fun h => by cases h⟩

theorem over : Rows.ShipAllSaid :=
  OpenClaim.holds_of_cond 5 Tryz.f5 rfl rfl rfl rfl rfl rfl rfl ⟨rfl, rfl, rfl, rfl, rfl⟩ rfl rfl rfl rfl rfl (by kernel_rfl) Tryz.func5 (by kernel_rfl)
    (of_decide_eq_true (by kernel_rfl)) (by unfold Func.isWrapper; first | (rw [if_pos (by decide +kernel)]; kernel_rfl) | (rw [if_neg (by decide +kernel)]; exact ⟨rfl, rfl⟩))
    (fun os started H enc _ F => by rw [OpenClaim.pre_eq_preRow]; exact lifted os started H enc F)

theorem noStand : (Tryz.f5.params.toList.all fun t => !Tryz.prog.wantsStandIn t) = true := by kernel_rfl

set_option maxRecDepth 100000 in
theorem proved : Rows.ShipAllCardSaid :=
  Claim7.holds_tied_plain_at .later [] _ _ _ _ over (fun _ h => by cases h) (by kernel_rfl) (fun _ h => by cases h) shipAll_row_tie rfl ⟨rfl, rfl⟩ (by kernel_rfl) rfl
    (fun f fn hf hfn => by
      obtain rfl : f = 5 := Option.some.inj ((show Tryz.prog.funcNamed "corncrib/corncriblaw13.ShipAll" = some 5 by kernel_rfl).symm.trans hf) |>.symm
      obtain rfl : fn = Tryz.f5 := (Option.some.inj (Tryz.func5.symm.trans hfn)).symm
      refine ⟨by kernel_rfl, fun j t ht => ?_⟩
      have hm : t ∈ Tryz.f5.params.toList := Array.mem_toList_iff.2 (Array.mem_of_getElem? ht)
      have h := List.all_eq_true.1 noStand t hm
      show Tryz.prog.wantsStandIn t = false
      cases hw : Tryz.prog.wantsStandIn t with
      | false => rfl
      | true => rw [hw] at h; cases h)
    (by kernel_rfl)
#print axioms proved
end Go.Proofs.YtoblbipkkdiddaaGreatDoor.shipAll
