/- The statement 'ShipBoth' holds: for every input the law's function returns true, and leaves its arguments as they were. Condition: the row's listed package variables (tables of numbers) hold at the call's start what the program's text lays in them; the card ties that to the text. -/
import Derived.Test.YtoblbipkkdiddaaGreatDoorM1
import Derived.Test.YtoblbipkkdiddaaGreatDoorM2
import Derived.Test.YtoblbipkkdiddaaGreatDoorM3
import Derived.Test.YtoblbipkkdiddaaGreatDoorM4
import Derived.Test.YtoblbipkkdiddaaGreatDoorM5
import Derived.Test.YtoblbipkkdiddaaGreatDoorM6
import Derived.Test.YtoblbipkkdiddaaGreatDoorM7
import Derived.Test.YtoblbipkkdiddaaGreatDoorM8
import Derived.Test.YtoblbipkkdiddaaGreatDoorM9
import Derived.Test.YtoblbipkkdiddaaGreatDoorM10
import Derived.Test.YtoblbipkkdiddaaGreatDoorM11
import Derived.Test.YtoblbipkkdiddaaGreatDoorM12
import Derived.Test.YtoblbipkkdiddaaGreatDoorM13
import Derived.Test.YtoblbipkkdiddaaGreatDoorM14
import Derived.Test.YtoblbipkkdiddaaGreatDoorM15
import Derived.Test.YtoblbipkkdiddaaGreatDoorM16
import Derived.Test.YtoblbipkkdiddaaGreatDoorM17
import Derived.Test.YtoblbipkkdiddaaGreatDoorCards
import Derived.Test.YtoblbipkkdiddaaGreatDoorTie
import Derived.WalkKit
import Derived.ProofKit
import Derived.OpenShut
import Derived.ShutString
import Derived.ChangeOld
import Derived.Below
import Derived.SevenTiedAt
import Derived.Deep.DeepHandedRow
import Derived.Lib.LaidTab
set_option linter.unusedVariables false
set_option linter.unusedSimpArgs false

section
namespace Go.Proofs.YtoblbipkkdiddaaGreatDoor
open Go.RowKit Go.Cor

/-- A needle whose cookie and data its key says. -/
structure Shp (m : Ndl) : Prop where
  ck : m.cookie = m.key % 3
  gn : m.gone = true → m.data = []
  nt : m.gone = false → m.data = [UInt8.ofNat m.key]
theorem Shp.len {m : Ndl} (h : Shp m) : m.data.length ≤ 1 ∧ (m.gone = true → m.data.length = 0) := by
  cases hg : m.gone with
  | true => rw [h.gn hg]; simp
  | false => rw [h.nt hg]; simp
theorem Shp.chk {m : Ndl} (h : Shp m) : ncheck m = 0 := by
  unfold ncheck
  rw [if_neg (by have := h.len.1; omega), if_neg (by rintro ⟨h1, h2⟩; have := h.len.2 h1; omega)]
theorem Shp.same {m o : Ndl} (h : Shp m) (h2 : Shp o) (hk : o.key = m.key) : o.cookie = m.cookie ∧ (o.gone = false → m.gone = false → o = m) := by
  refine ⟨by rw [h.ck, h2.ck, hk], fun g1 g2 => ?_⟩
  have e1 := h.nt g2
  have e2 := h2.nt g1
  have e3 := h.ck
  have e4 := h2.ck
  obtain ⟨k, c, g, d⟩ := m
  obtain ⟨k', c', g', d'⟩ := o
  simp only at hk g1 g2 e1 e2 e3 e4
  subst hk g1 g2
  rw [e1, e2, e3, e4]
theorem agree_shp {a b : Vst} (ha : ∀ m ∈ a.ns, Shp m) (hb : ∀ m ∈ b.ns, Shp m) : Agree a b := fun k n o hn ho =>
  (ha n (newest_mem hn).1).same (hb o (newest_mem ho).1) ((newest_mem ho).2.trans (newest_mem hn).2.symm)
/-- A volume behind some needles of that shape. -/
structure Shd (s : Vst) (i : Nat) : Prop where
  all : ∀ m ∈ s.ns, Shp m
  most : s.most = 1048576
  size : s.size ≤ 16 + 64 * i
  len : s.ns.length ≤ i
theorem Shd.mono {s : Vst} {i j : Nat} (h : Shd s i) (hj : i ≤ j) : Shd s j := ⟨h.all, h.most, by have := h.size; omega, Nat.le_trans h.len hj⟩
theorem Shp.nlen {m : Ndl} (h : Shp m) : nlen m ≤ 64 := by
  have := h.len.1
  unfold Go.Cor.nlen padn
  omega
theorem Shd.lay {s : Vst} {i : Nat} {n : Ndl} (h : Shd s i) (hn : Shp n) (hi : i ≤ 100) : Shd (s.lay n).1 (i + 1) := by
  have h0 := hn.nlen
  have hs := h.size
  obtain ⟨_, _, h3, _, h5, h6, h7⟩ := lay_join (s := s) (n := n) ⟨hn.chk, fun o ho => hn.same (h.all o (newest_mem ho).1) (newest_mem ho).2⟩ (by rw [h.most]; omega)
  refine ⟨fun m hm => (h7 m hm).elim (h.all m) (fun e => e ▸ hn), by rw [h6.most, h.most], by omega, by have := h.len; omega⟩
theorem Shd.tots {s : Vst} {i : Nat} (h : Shd s i) : tot s.tops ≤ 64 * i ∧ s.idx.length ≤ i := by
  have h1 := s.idx_len
  have h2 := h.len
  have h3 : tot s.tops ≤ 64 * s.tops.length := tot_le fun n hn => (h.all n (newest_mem (Vst.tops_mem hn)).1).nlen
  rw [s.tops_len] at h3
  have h4 : 64 * s.idx.length ≤ 64 * i := Nat.mul_le_mul_left _ (by omega)
  omega
/-- All of one laid on the other one. -/
theorem Shd.all_on {a b : Vst} {i j : Nat} (ha : Shd a i) (hb : Shd b j) (hij : i + j ≤ 200) :
    (b.lays a.tops).2 = (a.idx.length, 0) ∧ (∀ k, newest (b.lays a.tops).1.ns k = joinN (newest a.ns k) (newest b.ns k)) ∧ Shd (b.lays a.tops).1 (i + j) := by
  have h1 := ha.tots
  have h2 := hb.size
  obtain ⟨g1, g2, g3, g4, g5, g6⟩ := all_laid (agree_shp ha.all hb.all) (fun n hn => (ha.all n hn).chk) (by rw [hb.most]; omega)
  refine ⟨g1, g2, fun m hm => (g6 m hm).elim (hb.all m) (ha.all m), by rw [g4.most, hb.most], by omega, by have := hb.len; omega⟩

end Go.Proofs.YtoblbipkkdiddaaGreatDoor
end

section
namespace Go.Proofs.YtoblbipkkdiddaaGreatDoor
open Go.RowKit Go.Cor

theorem Tryz.sizeBo : (Tryz.prog.info? 4).map (·.size) = some 1 := by kernel_rfl
theorem isB_one {w : World} {Y k : Nat} {T : TypeId} (h : Blk w Y #[.int .u8 ((k : Int) % 256)] T) : IsB w (.slice (some ⟨Y, 0, none⟩) 1 1) [UInt8.ofNat k] := by
  refine ⟨some ⟨Y, 0, none⟩, 1, rfl, Nat.le_refl _, by decide, (fun h => by cases h), .inr ⟨Y, 0, rfl, fun i hi => ?_⟩⟩
  have hi0 : i = 0 := by simp only [List.length_cons, List.length_nil] at hi; omega
  subst hi0
  have h0 := h.cell 0 (v := .int .u8 ((k : Int) % 256)) rfl
  rw [Nat.add_zero, h0]
  show some (Value.int .u8 ((k : Int) % 256)) = some (.int .u8 (((UInt8.ofNat k).toNat : Nat) : Int))
  have e : (UInt8.ofNat k).toNat = k % 256 := UInt8.toNat_ofNat'
  rw [e]
  rfl
theorem alike_gones {a b : Vst} (h : Go.Cor.Alike a b) : Q.goneN a.idx = Q.goneN b.idx := h.countP
/-- Two volumes, apart. -/
structure Bo (w0 w : World) (ga pa : Nat) (Sa : Nat → Prop) (da : Dsk) (ka : Nat) (sa : Vst) (gb pb : Nat) (Sb : Nat → Prop) (db : Dsk) (kb : Nat) (sb : Vst) : Prop where
  ra : Vready w ga pa Sa da ka sa
  rb : Vready w gb pb Sb db kb sb
  dis : ∀ b, Sa b → Sb b → False
  la : ∀ b, Sa b → w0.heap.size ≤ b
  lb : ∀ b, Sb b → w0.heap.size ≤ b
  bel : Below w0.heap.size w0 w
theorem Bo.swap {w0 w : World} {ga pa : Nat} {Sa : Nat → Prop} {da : Dsk} {ka : Nat} {sa : Vst} {gb pb : Nat} {Sb : Nat → Prop} {db : Dsk} {kb : Nat} {sb : Vst} (h : Bo w0 w ga pa Sa da ka sa gb pb Sb db kb sb) : Bo w0 w gb pb Sb db kb sb ga pa Sa da ka sa :=
  ⟨h.rb, h.ra, fun b x y => h.dis b y x, h.lb, h.la, h.bel⟩
theorem Bo.below {w0 w w' : World} {ga pa : Nat} {Sa : Nat → Prop} {da : Dsk} {ka : Nat} {sa : Vst} {gb pb : Nat} {Sb : Nat → Prop} {db : Dsk} {kb : Nat} {sb : Vst} (h : Bo w0 w ga pa Sa da ka sa gb pb Sb db kb sb) (hb : Below w.heap.size w w') : Bo w0 w' ga pa Sa da ka sa gb pb Sb db kb sb :=
  ⟨h.ra.below hb, h.rb.below hb, h.dis, h.la, h.lb, h.bel.trans (hb.mono h.bel.size)⟩
theorem Bo.laid {w0 w w' : World} {ga pa : Nat} {Sa S' : Nat → Prop} {da d' : Dsk} {ka k' : Nat} {sa s' : Vst} {gb pb : Nat} {Sb : Nat → Prop} {db : Dsk} {kb : Nat} {sb : Vst} (h : Bo w0 w ga pa Sa da ka sa gb pb Sb db kb sb) (hv : VolR w w' ga pa Sa S' da d' sa k' s') : Bo w0 w' ga pa S' d' k' s' gb pb Sb db kb sb :=
  ⟨hv.r, h.rb.kept hv.kept (fun b x y => h.dis b y x), fun b x y => (hv.low b x).elim (fun e => h.dis b e y) (fun e => by have := h.rb.vl.lt b y; omega), fun b x => (hv.low b x).elim (h.la b) (fun e => Nat.le_trans h.bel.size e), h.lb,
    h.bel.trans (hv.kept.below h.bel.size (fun j hj e => by have := h.la j e; omega))⟩
/-- What is so of one of them behind i needles. -/
structure Bq (d : Dsk) (k : Nat) (s : Vst) (i : Nat) : Prop where
  cap : d.cap = 1048576
  used : d.used = 24 + s.size
  few : k ≤ 16 + 4 * i
  sh : Shd s i
theorem Bq.mono {d : Dsk} {k : Nat} {s : Vst} {i j : Nat} (h : Bq d k s i) (hj : i ≤ j) : Bq d k s j := ⟨h.cap, h.used, by have := h.few; omega, h.sh.mono hj⟩
theorem Bq.made {V : Nat} {d : Dsk} {k : Nat} {s : Vst} {acs : List A9} (h : MadeF V 1048576 d k ([] : List A9v).length s acs) : Bq d k s 0 := by
  have h1 := h.ns
  have h2 := h.few
  have h3 := h.size
  simp only [List.length_nil] at h1 h2 h3
  have h4 : s.ns = [] := List.eq_nil_of_length_eq_zero (by omega)
  exact ⟨h.cap, h.used, by omega, ⟨(fun m hm => by rw [h4] at hm; cases hm), h.most, by omega, by omega⟩⟩
theorem Bq.room {d : Dsk} {k : Nat} {s : Vst} {i : Nat} (h : Bq d k s i) {n : Ndl} (hn : Shp n) (hi : i ≤ 100) : Room' s d n := by
  have h1 := h.cap
  have h2 := h.used
  have h3 := h.sh.size
  have h4 := h.sh.len
  have h5 := hn.nlen
  exact ⟨by omega, fun _ => by omega⟩
theorem Bq.lay {d d' : Dsk} {k : Nat} {s : Vst} {i : Nat} {w w' : World} {g p : Nat} {S S' : Nat → Prop} (h : Bq d k s i) {n : Ndl} (hn : Shp n) (hi : i ≤ 100) (hv : VolR w w' g p S S' d d' s (k + 4) (s.lay n).1) : Bq d' (k + 4) (s.lay n).1 (i + 1) :=
  ⟨by rw [hv.cap, h.cap], by have := hv.used; have := h.used; omega, by have := h.few; omega, h.sh.lay hn hi⟩
/-- One needle laid on the first of them. -/
theorem lay_bo (n : Ndl) (v : Value) {w0 w : World} {ga pa : Nat} {Sa : Nat → Prop} {da : Dsk} {ka : Nat} {sa : Vst} {gb pb : Nat} {Sb : Nat → Prop} {db : Dsk} {kb : Nat} {sb : Vst} {i : Nat} (h : Bo w0 w ga pa Sa da ka sa gb pb Sb db kb sb) (hq : Bq da ka sa i) (hi : i ≤ 60) (hn : Shp n) (hnf : n.fits) (hv : IsB w v n.data) (hvS : ∀ b, liesB v n.data b → ¬ Sa b) :
    Calls Tryz.prog 23 #[.pointer (some ⟨ga, 0, none⟩), Nd.nval n v] w fun e w' => (∃ x, e = .returned x) ∧ ∃ S' d' k' s', Bo w0 w' ga pa S' d' k' s' gb pb Sb db kb sb ∧ Bq d' k' s' (i + 1) := by
  refine (lay_v n v ga pa ka Sa da sa w h.ra hv hvS hnf (hq.room hn (by omega))).mono ?_
  rintro e w' ⟨rfl, hT⟩
  obtain ⟨S', d', hv⟩ := hT.ready (by have := hq.few; omega) h.ra.names
  exact ⟨⟨_, rfl⟩, S', d', _, _, h.laid hv, hq.lay hn (by omega) hv⟩

set_option maxRecDepth 100000 in
set_option maxHeartbeats 4000000 in
theorem shipBoth_all (v bv : Value) (ps : List (Ndl × Value)) (bs : List Bool) (w : World) (h : IsN w v ps) (hb : IsX w 1 bv bs.length (row bcl bs)) (hf : ∀ x ∈ ps, x.1.fits) :
    Calls Tryz.prog 7 #[v, bv] w fun e w' => e = .returned (.bool true) ∧ Below w.heap.size w w' := by
  have HA := Lib.hid (alive13 w)
  have hlen := fun W => len_X (P := Tryz.prog) h.1 28 3 _ Tryz.underlying28 W
  have hlenb := fun W => len_X (P := Tryz.prog) hb 72 3 _ Tryz.underlying72 W
  obtain ⟨AN, hAN⟩ : ∃ AN, ps.length = AN := ⟨_, rfl⟩
  obtain ⟨BN, hBN⟩ : ∃ BN, bs.length = BN := ⟨_, rfl⟩
  rw [hAN] at hlen
  rw [hBN] at hlenb
  have HH := Lib.hid h
  have HBB := Lib.hid hb
  have HF := Lib.hid hf
  have HAN := Lib.hid hAN
  have HBN := Lib.hid hBN
  clear h hb hf hAN hBN
  by_cases hfar : 30 < AN ∨ BN < AN
  · by_cases h30 : 30 < AN
    · have g1 : decide ((30 : Int) < (AN : Int)) = true := decide_eq_true (by omega)
      have g2 : (30 : Int) < (AN : Int) := by omega
      go_enter Tryz.func7, Tryz.ntmps7
      go_wp2_with fail
      refine HA.out.mono ?_
      rintro e w1 ⟨rfl, hb⟩
      have HB := Lib.hid hb
      clear hb
      go_wp2
      go_ret
      exact ⟨rfl, HB.out⟩
    · have hBA : BN < AN := by omega
      have g1 : decide ((30 : Int) < (AN : Int)) = false := decide_eq_false (by omega)
      have g2 : ¬ (30 : Int) < (AN : Int) := by omega
      have g3 : decide ((BN : Int) < (AN : Int)) = true := decide_eq_true (by omega)
      go_enter Tryz.func7, Tryz.ntmps7
      go_wp2_with fail
      refine HA.out.mono ?_
      rintro e w1 ⟨rfl, hb⟩
      have HB := Lib.hid hb
      clear hb
      go_wp2
      go_ret
      exact ⟨rfl, HB.out⟩
  · have h30 : ¬ 30 < AN := by omega
    have hBA : ¬ BN < AN := by omega
    clear hfar
    have g1 : decide ((30 : Int) < (AN : Int)) = false := decide_eq_false (by omega)
    have g2 : ¬ (30 : Int) < (AN : Int) := by omega
    have g3 : decide ((BN : Int) < (AN : Int)) = false := decide_eq_false (by omega)
    have g4 : ¬ (BN : Int) < (AN : Int) := by omega
    have HM := Lib.hid (fun wx => made_any 1 1048576 (by decide) (by decide) (by decide) (by decide) (.slice none 0 0) [] wx ⟨IsX.nil _ _, fun x hx => by cases hx⟩ (by decide) (fun x hx => by cases hx) (fun x hx => by cases hx))
    have HM2 := Lib.hid (fun wx => made_any 2 1048576 (by decide) (by decide) (by decide) (by decide) (.slice none 0 0) [] wx ⟨IsX.nil _ _, fun x hx => by cases hx⟩ (by decide) (fun x hx => by cases hx) (fun x hx => by cases hx))
    go_enter Tryz.func7, Tryz.ntmps7
    go_wp2_with fail
    refine HA.out.mono ?_
    rintro e w1 ⟨rfl, hb⟩
    have HB1 := Lib.hid hb
    clear hb g1 g2 g3 g4
    go_wp2_with fail
    refine (HM.out _).mono ?_
    rintro e w2 ⟨ga, pa, Sa, da, ka, sa, lv, dv, ps1, rfl, hr, hdoc, hb, hS, hm⟩
    obtain ⟨lx, lc, rfl, _, _⟩ := IsX.slice hdoc.l
    obtain ⟨dx, dc, rfl, _, _⟩ := IsX.slice hdoc.d.1
    obtain ⟨I, hI⟩ : ∃ I, sa.idx.length = I := ⟨_, rfl⟩
    obtain ⟨N, hN⟩ : ∃ N, ps1.length = N := ⟨_, rfl⟩
    rw [hI, hN]
    have HR := Lib.hid (hr.below (below_alloc w2 (.cells #[.int .i64 (sa.num : Int), .int .i64 (sa.most : Int), .int .i64 (sa.epoch : Int), .int .i64 (sa.size : Int), .bool sa.shut, .slice lx I lc, .slice dx N dc] 30)))
    have HB2 := Lib.hid ((HB1.out.trans (hb.mono HB1.out.size)).alloc (HB1.out.trans (hb.mono HB1.out.size)).size (.cells #[.int .i64 (sa.num : Int), .int .i64 (sa.most : Int), .int .i64 (sa.epoch : Int), .int .i64 (sa.size : Int), .bool sa.shut, .slice lx I lc, .slice dx N dc] 30))
    have HS := Lib.hid (show ∀ b, Sa b → w.heap.size ≤ b from fun b h1 => Nat.le_trans HB1.out.size (hS b h1))
    have HQA := Lib.hid (Bq.made hm)
    clear hr hdoc hb hS hm hI hN HM
    go_upto_region 6 with fail
    obtain ⟨w3, hw3⟩ : ∃ w3, w2.alloc (.cells #[.int .i64 (sa.num : Int), .int .i64 (sa.most : Int), .int .i64 (sa.epoch : Int), .int .i64 (sa.size : Int), .bool sa.shut, .slice lx I lc, .slice dx N dc] 30) = w3 := ⟨_, rfl⟩
    obtain ⟨B, hBq⟩ : ∃ B, w2.heap.size = B := ⟨_, rfl⟩
    rw [hw3] at HR HB2
    rw [hw3]
    try rw [hBq]
    clear hw3 hBq
    go_wp2_with fail
    refine (HM2.out _).mono ?_
    rintro e w4 ⟨gb, pb, Sb, db, kb, sb, lv2, dv2, ps2, rfl, hr2, hdoc2, hb4, hS2, hm2⟩
    obtain ⟨lx2, lc2, rfl, _, _⟩ := IsX.slice hdoc2.l
    obtain ⟨dx2, dc2, rfl, _, _⟩ := IsX.slice hdoc2.d.1
    obtain ⟨I2, hI2⟩ : ∃ I, sb.idx.length = I := ⟨_, rfl⟩
    obtain ⟨N2, hN2⟩ : ∃ N, ps2.length = N := ⟨_, rfl⟩
    rw [hI2, hN2]
    have HQB := Lib.hid (Bq.made hm2)
    have HBO := Lib.hid ((show Bo w w4 ga pa Sa da ka sa gb pb Sb db kb sb from ⟨HR.out.below hb4, hr2, fun b x y => by have := HR.out.vl.lt b x; have := hS2 b y; omega, HS.out, fun b y => Nat.le_trans HB2.out.size (hS2 b y), HB2.out.trans (hb4.mono HB2.out.size)⟩).below (below_alloc w4 (.cells #[.int .i64 (sb.num : Int), .int .i64 (sb.most : Int), .int .i64 (sb.epoch : Int), .int .i64 (sb.size : Int), .bool sb.shut, .slice lx2 I2 lc2, .slice dx2 N2 dc2] 30)))
    clear hr2 hdoc2 hb4 hS2 hm2 hI2 hN2 HM2 HR HB2 HS HB1
    go_upto_region 7 with fail
    obtain ⟨w5, hw5⟩ : ∃ w5, w4.alloc (.cells #[.int .i64 (sb.num : Int), .int .i64 (sb.most : Int), .int .i64 (sb.epoch : Int), .int .i64 (sb.size : Int), .bool sb.shut, .slice lx2 I2 lc2, .slice dx2 N2 dc2] 30) = w5 := ⟨_, rfl⟩
    obtain ⟨B2, hBq2⟩ : ∃ B, w4.heap.size = B := ⟨_, rfl⟩
    rw [hw5] at HBO
    rw [hw5]
    try rw [hBq2]
    clear hw5 hBq2
    have HLP := Lib.hid (show ∃ Sa da ka sa Sb db kb sb, Bo w w5 ga pa Sa da ka sa gb pb Sb db kb sb ∧ Bq da ka sa 0 ∧ Bq db kb sb 0 from ⟨Sa, da, ka, sa, Sb, db, kb, sb, HBO.out, HQA.out, HQB.out⟩)
    clear HBO HQA HQB
    go_wp2_with fail
    go_loopw [11] (fun c wr => ∃ i : Nat, i ≤ AN ∧ c = .int .i64 (i : Int) ∧ Hid (∃ Sa da ka sa Sb db kb sb, Bo w wr ga pa Sa da ka sa gb pb Sb db kb sb ∧ Bq da ka sa i ∧ Bq db kb sb i)) (fun c _ => (AN - intOf c).toNat)
    case atStart => exact ⟨0, Nat.zero_le _, rfl, HLP⟩
    case round =>
      obtain ⟨i, hiA, rfl, HO⟩ := hrel
      by_cases hi : i < AN
      · obtain ⟨wo, hwo⟩ : ∃ wo, wo = wr := ⟨_, rfl⟩
        subst hwo
        obtain ⟨Sa, da, ka, sa, Sb, db, kb, sb, hBo, hqa, hqb⟩ := HO.out
        have hi1 : i < ps.length := by rw [HAN.out]; exact hi
        have hi2 : i < bs.length := by rw [HBN.out]; omega
        obtain ⟨⟨n, u⟩, hpi⟩ : ∃ q, ps[i]? = some q := ⟨_, List.getElem?_eq_getElem hi1⟩
        obtain ⟨bb, hbi⟩ : ∃ q, bs[i]? = some q := ⟨_, List.getElem?_eq_getElem hi2⟩
        obtain ⟨b1, o1, hx1, a0, a1, a2, a3, ha⟩ := ndl_at (HH.out.mono hBo.bel (Nat.le_refl _)) 28 47 Tryz.underlying28 Tryz.sizeNdR hpi
        obtain ⟨b2, o2, hx2, _, hcell⟩ := indexAt_X (IsX.mono HBB.out hBo.bel (Nat.le_refl _)) 72 4 Tryz.underlying72 Tryz.sizeBo i hi2
        have d0 := hcell 0 (by decide)
        rw [row_get bcl_len hbi 0 (by decide)] at d0
        have HBo := Lib.hid hBo
        have HQa := Lib.hid hqa
        have HQb := Lib.hid hqb
        have HFN := Lib.hid (HF.out _ (List.mem_of_getElem? hpi))
        obtain ⟨nk, nc, ng, nd⟩ := n
        dsimp only at a0 a1 a2 a3 ha HFN
        have HD0 := Lib.hid d0
        obtain ⟨ux, uc, hu, _⟩ := ha
        obtain ⟨UL, hUL⟩ : ∃ UL, nd.length = UL := ⟨_, rfl⟩
        rw [hUL] at hu
        subst hu
        clear hUL
        clear hBo hqa hqb hpi hbi hcell HO
        go_upto_region 11 with fail
        obtain ⟨w7, hw7⟩ : ∃ w7, wo.alloc (.cells #[.int .u64 (nk : Int), .int .u32 (nc : Int), .bool ng, .slice ux UL uc] 48) = w7 := ⟨_, rfl⟩
        obtain ⟨X, hXq⟩ : ∃ X, wo.heap.size = X := ⟨_, rfl⟩
        have hX7 := Blk.new wo #[.int .u64 (nk : Int), .int .u32 (nc : Int), .bool ng, .slice ux UL uc] 48
        have hb7 := below_alloc wo (.cells #[.int .u64 (nk : Int), .int .u32 (nc : Int), .bool ng, .slice ux UL uc] 48)
        have D7 : (wo.alloc (.cells #[.int .u64 (nk : Int), .int .u32 (nc : Int), .bool ng, .slice ux UL uc] 48)).cell? ⟨b2, o2, none⟩ = some (.bool bb) := (Kept.of_below (S := fun _ => False) hb7 (Nat.le_refl _)).cell d0 (fun h => h)
        rw [hw7] at hX7 hb7 D7
        rw [hXq] at hX7
        rw [hw7]
        try rw [hXq]
        clear a0 a1 a2 a3 d0
        have x0 := hX7.cell 0 (v := .int .u64 (nk : Int)) rfl
        have x1 := hX7.cell 1 (v := .int .u32 (nc : Int)) rfl
        have xf := fun q => hX7.free q
        have hX8 := show Blk (w7.setCell ⟨X, 1, none⟩ (.int .u32 ((nk : Int) % 3))) X #[.int .u64 (nk : Int), .int .u32 ((nk : Int) % 3), .bool ng, .slice ux UL uc] 48 from hX7.set 1 _
        have hXo : wo.heap.size ≤ X := Nat.le_of_eq hXq
        have hb8 := hb7.setCell (p := ⟨X, 1, none⟩) hXo (.int .u32 ((nk : Int) % 3))
        go_upto_region 12 with fail
        obtain ⟨w8, hw8⟩ : ∃ w8, w7.setCell ⟨X, 1, none⟩ (.int .u32 ((nk : Int) % 3)) = w8 := ⟨_, rfl⟩
        rw [hw8] at hX8 hb8
        rw [hw8]
        clear hw8 x0 x1 xf hX7 hb7 hw7 D7
        have x0 := hX8.cell 0 (v := .int .u64 (nk : Int)) rfl
        have hX9 := hX8.alloc (.cells #[.int .u8 ((nk : Int) % 256)] 5)
        have y3 := hX9.cell 3 (v := .slice ux UL uc) rfl
        have yf := fun q => hX9.free q
        have hX10 := show Blk ((w8.alloc (.cells #[.int .u8 ((nk : Int) % 256)] 5)).setCell ⟨X, 3, none⟩ (.slice (some ⟨w8.heap.size, 0, none⟩) 1 1)) X #[.int .u64 (nk : Int), .int .u32 ((nk : Int) % 3), .bool ng, .slice (some ⟨w8.heap.size, 0, none⟩) 1 1] 48 from hX9.set 3 _
        have hb9 := hb8.alloc hb8.size (.cells #[.int .u8 ((nk : Int) % 256)] 5)
        have hb10 := hb9.setCell (p := ⟨X, 3, none⟩) hXo (.slice (some ⟨w8.heap.size, 0, none⟩) 1 1)
        have hY := (Blk.new w8 #[.int .u8 ((nk : Int) % 256)] 5).other (a := ⟨X, 3, none⟩) (by have := hX8.lt; show X ≠ w8.heap.size; omega) (.slice (some ⟨w8.heap.size, 0, none⟩) 1 1)
        have hsz8 := hb8.size
        go_upto_region 13 with fail
        obtain ⟨wA, hwA⟩ : ∃ wA, (w8.alloc (.cells #[.int .u8 ((nk : Int) % 256)] 5)).setCell ⟨X, 3, none⟩ (.slice (some ⟨w8.heap.size, 0, none⟩) 1 1) = wA := ⟨_, rfl⟩
        obtain ⟨Y, hYq⟩ : ∃ Y, w8.heap.size = Y := ⟨_, rfl⟩
        rw [hYq] at hwA hX10 hb10 hY hsz8
        rw [hwA] at hX10 hb10 hY
        rw [hYq, hwA]
        clear hwA x0 y3 yf hX8 hX9 hb8 hb9 hYq
        obtain ⟨CK, hCK⟩ : ∃ CK, nk % 3 = CK := ⟨_, rfl⟩
        have hCK' : (nk : Int) % 3 = (CK : Int) := by omega
        have HCK := Lib.hid hCK.symm
        rw [hCK'] at hX10
        clear hCK hCK'
        cases ng with
        | true =>
          have y3 := hX10.cell 3 (v := .slice (some ⟨Y, 0, none⟩) 1 1) rfl
          have y2 := hX10.cell 2 (v := .bool true) rfl
          have yf := fun q => hX10.free q
          have hXC := show Blk (wA.setCell ⟨X, 3, none⟩ (.slice none 0 0)) X #[.int .u64 (nk : Int), .int .u32 (CK : Int), .bool true, .slice none 0 0] 48 from hX10.set 3 _
          have hbC := hb10.setCell (p := ⟨X, 3, none⟩) hXo (.slice none 0 0)
          go_upto_region 15 with fail
          obtain ⟨wC, hwC⟩ : ∃ wC, wA.setCell ⟨X, 3, none⟩ (.slice none 0 0) = wC := ⟨_, rfl⟩
          rw [hwC] at hXC hbC
          rw [hwC]
          clear hwC y3 y2 yf hX10 hb10
          have HSP := Lib.hid (show Shp ⟨nk, CK, true, []⟩ from ⟨HCK.out, fun _ => rfl, (fun h => by cases h)⟩)
          have HIV := Lib.hid (show IsB wC (.slice none 0 0) [] ∧ ∀ b, liesB (.slice none 0 0) [] b → wo.heap.size ≤ b from ⟨IsB.nil wC, fun b hb => absurd rfl hb.1⟩)
          have c0 := hXC.cell 0 (v := .int .u64 (nk : Int)) rfl
          have c1 := hXC.cell 1 (v := .int .u32 (CK : Int)) rfl
          have c2 := hXC.cell 2 (v := .bool true) rfl
          have c3 := hXC.cell 3 (v := .slice none 0 0) rfl
          have dC : (wC).cell? ⟨b2, o2, none⟩ = some (.bool bb) := (Kept.of_below (S := fun _ => False) hbC (Nat.le_refl _)).cell HD0.out (fun h => h)
          have HBC := Lib.hid (HBo.out.below hbC)
          have HNF := Lib.hid (show (⟨nk, CK, true, []⟩ : Ndl).fits from ⟨HFN.out.1, by have := HCK.out; show CK < 4294967296; omega⟩)
          have HLA := Lib.hid (fun b (h1 : liesB (.slice none 0 0) ([]) b) (h2 : Sa b) => show False by have := HIV.out.2 b h1; have := HBo.out.ra.vl.lt b h2; omega)
          have HLB := Lib.hid (fun b (h1 : liesB (.slice none 0 0) ([]) b) (h2 : Sb b) => show False by have := HIV.out.2 b h1; have := HBo.out.rb.vl.lt b h2; omega)
          have hi60 : i ≤ 60 := by omega
          have e9 : IntKind.i64.wrap ((i : Int) + 1) = (i : Int) + 1 := IntWalk.i64_in _ (by omega)
          clear hXC hbC
          cases bb with
          | true =>
            go_wp2_with fail
            refine (lay_bo ⟨nk, CK, true, []⟩ _ HBC.out HQa.out hi60 HSP.out HNF.out HIV.out.1 (fun b h1 h2 => HLA.out b h1 h2)).mono ?_
            rintro e wz ⟨⟨xz, rfl⟩, S', d', k', s', hB2, hQ2⟩
            have HO2 := Lib.hid (show ∃ Sa da ka sa Sb db kb sb, Bo w wz ga pa Sa da ka sa gb pb Sb db kb sb ∧ Bq da ka sa (i + 1) ∧ Bq db kb sb (i + 1) from ⟨S', d', k', s', Sb, db, kb, sb, hB2, hQ2, HQb.out.mono (Nat.le_succ i)⟩)
            clear hB2 hQ2
            go_wp2_with fail
            go_roundw
            case rel => exact ⟨i + 1, by omega, by simp, HO2⟩
            case measure => simp only [intOf]; omega
          | false =>
            go_wp2_with fail
            refine (lay_bo ⟨nk, CK, true, []⟩ _ HBC.out.swap HQb.out hi60 HSP.out HNF.out HIV.out.1 (fun b h1 h2 => HLB.out b h1 h2)).mono ?_
            rintro e wz ⟨⟨xz, rfl⟩, S', d', k', s', hB2, hQ2⟩
            have HO2 := Lib.hid (show ∃ Sa da ka sa Sb db kb sb, Bo w wz ga pa Sa da ka sa gb pb Sb db kb sb ∧ Bq da ka sa (i + 1) ∧ Bq db kb sb (i + 1) from ⟨Sa, da, ka, sa, S', d', k', s', hB2.swap, HQa.out.mono (Nat.le_succ i), hQ2⟩)
            clear hB2 hQ2
            go_wp2_with fail
            go_roundw
            case rel => exact ⟨i + 1, by omega, by simp, HO2⟩
            case measure => simp only [intOf]; omega
        | false =>
          have y2 := hX10.cell 2 (v := .bool false) rfl
          go_upto_region 15 with fail
          obtain ⟨wC, hwC⟩ : ∃ wC, wA = wC := ⟨_, rfl⟩
          subst hwC
          have hXC := hX10
          have hbC := hb10
          clear y2 hX10 hb10
          have HSP := Lib.hid (show Shp ⟨nk, CK, false, [UInt8.ofNat nk]⟩ from ⟨HCK.out, (fun h => by cases h), fun _ => rfl⟩)
          have HIV := Lib.hid (show IsB wA (.slice (some ⟨Y, 0, none⟩) 1 1) [UInt8.ofNat nk] ∧ ∀ b, liesB (.slice (some ⟨Y, 0, none⟩) 1 1) [UInt8.ofNat nk] b → wo.heap.size ≤ b from ⟨isB_one hY, fun b hb => by have := hb.2; simp only [Value.ownBlock, Option.some.injEq] at this; omega⟩)
          have c0 := hXC.cell 0 (v := .int .u64 (nk : Int)) rfl
          have c1 := hXC.cell 1 (v := .int .u32 (CK : Int)) rfl
          have c2 := hXC.cell 2 (v := .bool false) rfl
          have c3 := hXC.cell 3 (v := .slice (some ⟨Y, 0, none⟩) 1 1) rfl
          have dC : (wA).cell? ⟨b2, o2, none⟩ = some (.bool bb) := (Kept.of_below (S := fun _ => False) hbC (Nat.le_refl _)).cell HD0.out (fun h => h)
          have HBC := Lib.hid (HBo.out.below hbC)
          have HNF := Lib.hid (show (⟨nk, CK, false, [UInt8.ofNat nk]⟩ : Ndl).fits from ⟨HFN.out.1, by have := HCK.out; show CK < 4294967296; omega⟩)
          have HLA := Lib.hid (fun b (h1 : liesB (.slice (some ⟨Y, 0, none⟩) 1 1) ([UInt8.ofNat nk]) b) (h2 : Sa b) => show False by have := HIV.out.2 b h1; have := HBo.out.ra.vl.lt b h2; omega)
          have HLB := Lib.hid (fun b (h1 : liesB (.slice (some ⟨Y, 0, none⟩) 1 1) ([UInt8.ofNat nk]) b) (h2 : Sb b) => show False by have := HIV.out.2 b h1; have := HBo.out.rb.vl.lt b h2; omega)
          have hi60 : i ≤ 60 := by omega
          have e9 : IntKind.i64.wrap ((i : Int) + 1) = (i : Int) + 1 := IntWalk.i64_in _ (by omega)
          clear hXC hbC
          cases bb with
          | true =>
            go_wp2_with fail
            refine (lay_bo ⟨nk, CK, false, [UInt8.ofNat nk]⟩ _ HBC.out HQa.out hi60 HSP.out HNF.out HIV.out.1 (fun b h1 h2 => HLA.out b h1 h2)).mono ?_
            rintro e wz ⟨⟨xz, rfl⟩, S', d', k', s', hB2, hQ2⟩
            have HO2 := Lib.hid (show ∃ Sa da ka sa Sb db kb sb, Bo w wz ga pa Sa da ka sa gb pb Sb db kb sb ∧ Bq da ka sa (i + 1) ∧ Bq db kb sb (i + 1) from ⟨S', d', k', s', Sb, db, kb, sb, hB2, hQ2, HQb.out.mono (Nat.le_succ i)⟩)
            clear hB2 hQ2
            go_wp2_with fail
            go_roundw
            case rel => exact ⟨i + 1, by omega, by simp, HO2⟩
            case measure => simp only [intOf]; omega
          | false =>
            go_wp2_with fail
            refine (lay_bo ⟨nk, CK, false, [UInt8.ofNat nk]⟩ _ HBC.out.swap HQb.out hi60 HSP.out HNF.out HIV.out.1 (fun b h1 h2 => HLB.out b h1 h2)).mono ?_
            rintro e wz ⟨⟨xz, rfl⟩, S', d', k', s', hB2, hQ2⟩
            have HO2 := Lib.hid (show ∃ Sa da ka sa Sb db kb sb, Bo w wz ga pa Sa da ka sa gb pb Sb db kb sb ∧ Bq da ka sa (i + 1) ∧ Bq db kb sb (i + 1) from ⟨Sa, da, ka, sa, S', d', k', s', hB2.swap, HQa.out.mono (Nat.le_succ i), hQ2⟩)
            clear hB2 hQ2
            go_wp2_with fail
            go_roundw
            case rel => exact ⟨i + 1, by omega, by simp, HO2⟩
            case measure => simp only [intOf]; omega
      · obtain ⟨wo, hwo⟩ : ∃ wo, wo = wr := ⟨_, rfl⟩
        subst hwo
        obtain rfl : i = AN := by omega
        obtain ⟨Sa, da, ka, sa, Sb, db, kb, sb, hBo, hqa, hqb⟩ := HO.out
        have HB5 := Lib.hid hBo
        have HQa := Lib.hid hqa
        have HQb := Lib.hid hqb
        have HIa := Lib.hid (show sa.idx.length ≤ i ∧ tot sa.tops ≤ 64 * i from ⟨hqa.sh.tots.2, hqa.sh.tots.1⟩)
        have HL1 := Lib.hid (hqa.sh.all_on hqb.sh (by omega))
        clear hBo hqa hqb HO
        -- All(a, b)
        go_wp2_with fail
        refine (sall_v ga pa ka gb pb kb Sa Sb da db sa sb wo HB5.out.ra HB5.out.rb (fun b h1 h2 => HB5.out.dis b h1 h2) (by have := HIa.out.1; omega) (by have := HIa.out.1; have := HQb.out.sh.len; omega) (by have := HIa.out.2; have := HQb.out.cap; have := HQb.out.used; have := HQb.out.sh.size; omega) (by have := HQb.out.few; omega)).mono ?_
        rintro e w6 ⟨rfl, S1, d1, hv1⟩
        rw [HL1.out.1]
        simp only
        rw [cerr_0]
        obtain ⟨sc, hsc⟩ : ∃ sc, (sb.lays sa.tops).1 = sc := ⟨_, rfl⟩
        rw [hsc] at hv1 HL1
        have HB6 := Lib.hid (HB5.out.swap.laid hv1)
        have HQc := Lib.hid (show d1.cap = 1048576 ∧ d1.used = 24 + sc.size by have := hv1.cap; have := hv1.used; have := HQb.out.cap; have := HQb.out.used; omega)
        have HJ1 := Lib.hid HL1.out.2.1
        have HSc := Lib.hid HL1.out.2.2
        have HL2 := Lib.hid (HL1.out.2.2.all_on HQa.out.sh (by omega))
        have HIc := Lib.hid (show sc.idx.length ≤ i + i ∧ tot sc.tops ≤ 64 * (i + i) from ⟨HSc.out.tots.2, HSc.out.tots.1⟩)
        clear hv1 hsc HB5 HL1
        -- All(b, a)
        go_wp2_with fail
        refine (sall_v gb pb (kb + 256) ga pa ka S1 Sa d1 da sc sa w6 HB6.out.ra HB6.out.rb (fun b h1 h2 => HB6.out.dis b h1 h2) (by have := HIc.out.1; omega) (by have := HIc.out.1; have := HQa.out.sh.len; omega) (by have := HIc.out.2; have := HQa.out.cap; have := HQa.out.used; have := HQa.out.sh.size; omega) (by have := HQa.out.few; omega)).mono ?_
        rintro e w7 ⟨rfl, S2, d2, hv2⟩
        rw [HL2.out.1]
        simp only
        rw [cerr_0]
        obtain ⟨se, hse⟩ : ∃ se, (sa.lays sc.tops).1 = se := ⟨_, rfl⟩
        rw [hse] at hv2 HL2
        have HB7 := Lib.hid (HB6.out.swap.laid hv2)
        have HJ2 := Lib.hid HL2.out.2.1
        have HAK := Lib.hid (both_alike HJ1.out HL2.out.2.1)
        clear hv2 hse HB6 HL2
        -- Behind(a, b)
        go_wp2_with fail
        refine (sbeh_v ga pa (ka + 256) gb pb (kb + 256) S2 S1 d2 d1 se sc w7 HB7.out.ra HB7.out.rb).mono ?_
        rintro e w8 ⟨x8, c8, rfl, hb8⟩
        rw [behind_none HAK.out.2]
        have HB8 := Lib.hid (HB7.out.below hb8)
        clear hb8 HB7
        go_wp2_with fail
        refine (sbeh_v gb pb (kb + 256) ga pa (ka + 256) S1 S2 d1 d2 sc se w8 HB8.out.rb HB8.out.ra).mono ?_
        rintro e w9 ⟨x9, c9, rfl, hb9⟩
        rw [behind_all HJ2.out]
        have HB9 := Lib.hid (HB8.out.below hb9)
        clear hb9 HB8
        have HIA := Lib.hid (fun wx (hb : Below w9.heap.size w9 wx) => info_v ga pa (ka + 256) S2 d2 se wx (HB9.out.ra.below hb))
        have HIB := Lib.hid (fun wx (hb : Below w9.heap.size w9 wx) => info_v gb pb (kb + 256) S1 d1 sc wx (HB9.out.rb.below hb))
        have hle : (se.idx.length : Int) = (sc.idx.length : Int) := by rw [HAK.out.1.len]
        have hge : (Q.goneN se.idx : Int) = (Q.goneN sc.idx : Int) := by rw [alike_gones HAK.out.1]
        unfold infoV at HIA HIB
        rw [hle, hge] at HIA
        obtain ⟨IL, hIL⟩ : ∃ IL : Int, (sc.idx.length : Int) - (Q.goneN sc.idx : Int) = IL := ⟨_, rfl⟩
        obtain ⟨IG, hIG⟩ : ∃ IG : Int, (Q.goneN sc.idx : Int) = IG := ⟨_, rfl⟩
        rw [hIL, hIG] at HIA HIB
        clear hle hge hIL hIG
        go_wp2_with fail
        refine (HIA.out w9 (Below.refl _ _)).mono ?_
        rintro e wB ⟨rfl, hbB⟩
        have HBB9 := Lib.hid hbB
        clear hbB
        go_wp2_with fail
        refine (HIB.out wB HBB9.out).mono ?_
        rintro e wC ⟨rfl, hbC⟩
        have HBC9 := Lib.hid (HBB9.out.trans (hbC.mono HBB9.out.size))
        clear hbC HBB9 HIA HIB
        have hE1 := (Blk.new wC #[.int .i64 (se.num : Int), .int .i64 (se.gen : Int), .int .i64 (se.epoch : Int), .int .i64 (se.size : Int), .int .i64 IL, .int .i64 IG, .bool se.shut] 62).alloc (.cells #[.int .i64 (sc.num : Int), .int .i64 (sc.gen : Int), .int .i64 (sc.epoch : Int), .int .i64 (sc.size : Int), .int .i64 IL, .int .i64 IG, .bool sc.shut] 62)
        have hE2 := Blk.new (wC.alloc (.cells #[.int .i64 (se.num : Int), .int .i64 (se.gen : Int), .int .i64 (se.epoch : Int), .int .i64 (se.size : Int), .int .i64 IL, .int .i64 IG, .bool se.shut] 62)) #[.int .i64 (sc.num : Int), .int .i64 (sc.gen : Int), .int .i64 (sc.epoch : Int), .int .i64 (sc.size : Int), .int .i64 IL, .int .i64 IG, .bool sc.shut] 62
        have HBE := Lib.hid ((HBC9.out.alloc HBC9.out.size (.cells #[.int .i64 (se.num : Int), .int .i64 (se.gen : Int), .int .i64 (se.epoch : Int), .int .i64 (se.size : Int), .int .i64 IL, .int .i64 IG, .bool se.shut] 62)).alloc (HBC9.out.alloc HBC9.out.size (.cells #[.int .i64 (se.num : Int), .int .i64 (se.gen : Int), .int .i64 (se.epoch : Int), .int .i64 (se.size : Int), .int .i64 IL, .int .i64 IG, .bool se.shut] 62)).size (.cells #[.int .i64 (sc.num : Int), .int .i64 (sc.gen : Int), .int .i64 (sc.epoch : Int), .int .i64 (sc.size : Int), .int .i64 IL, .int .i64 IG, .bool sc.shut] 62))
        have hsz : (wC.alloc (.cells #[.int .i64 (se.num : Int), .int .i64 (se.gen : Int), .int .i64 (se.epoch : Int), .int .i64 (se.size : Int), .int .i64 IL, .int .i64 IG, .bool se.shut] 62)).heap.size = wC.heap.size + 1 := by simp
        rw [hsz] at hE2
        clear hsz
        go_wp2_with fail
        obtain ⟨wE, hwE⟩ : ∃ wE, (wC.alloc (.cells #[.int .i64 (se.num : Int), .int .i64 (se.gen : Int), .int .i64 (se.epoch : Int), .int .i64 (se.size : Int), .int .i64 IL, .int .i64 IG, .bool se.shut] 62)).alloc (.cells #[.int .i64 (sc.num : Int), .int .i64 (sc.gen : Int), .int .i64 (sc.epoch : Int), .int .i64 (sc.size : Int), .int .i64 IL, .int .i64 IG, .bool sc.shut] 62) = wE := ⟨_, rfl⟩
        rw [hwE] at hE1 hE2 HBE
        rw [hwE]
        obtain ⟨X1, hX1⟩ : ∃ X1, wC.heap.size = X1 := ⟨_, rfl⟩
        rw [hX1] at hE1 hE2
        try rw [hX1]
        have HBF := Lib.hid (HB9.out.bel.trans (HBE.out.mono HB9.out.bel.size))
        clear hwE hX1 HBE HBC9 HB9
        have z4 := hE1.cell 4 (v := .int .i64 IL) rfl
        have z5 := hE1.cell 5 (v := .int .i64 IG) rfl
        have y4 := hE2.cell 4 (v := .int .i64 IL) rfl
        have y5 := hE2.cell 5 (v := .int .i64 IG) rfl
        refine (code_nil _).mono ?_
        rintro e w12 ⟨rfl, rfl⟩
        go_wp2_with fail
        refine (code_nil _).mono ?_
        rintro e w12 ⟨rfl, rfl⟩
        go_wp2_with fail
        refine (code_nil _).mono ?_
        rintro e w12 ⟨rfl, rfl⟩
        go_wp2_with fail
        refine (code_nil _).mono ?_
        rintro e w12 ⟨rfl, rfl⟩
        go_wp2_with fail
        go_ret
        exact ⟨rfl, HBF.out⟩

end Go.Proofs.YtoblbipkkdiddaaGreatDoor
end
namespace Go.Proofs.YtoblbipkkdiddaaGreatDoor.shipBoth
open Go.ChangeShapes Go.WideShapes Go.ChangeAt Go.RowKit
open Go.ChangeMaps (open_string shut_string)
open Go.Cor
set_option linter.unusedVariables false

theorem own : ownKnob Tryz.prog.godebug = none := by kernel_rfl
theorem laidOut : laidOutB Tryz.prog = true := by kernel_rfl
def lay (cs : Array Value) : Obj → Obj
  | .cells _ t frozen => .cells cs t frozen
  | o => o
/-- A world that meets the condition. -/
noncomputable def laidWorld (os : Os) : World :=
  { World.holding Tryz.prog os ⟨#[], #[], []⟩ with heap := ((((World.holding Tryz.prog os ⟨#[], #[], []⟩).heap).modify 2 (lay #[.int .u8 0, .int .u8 1, .int .u8 28, .int .u8 2, .int .u8 29, .int .u8 14, .int .u8 24, .int .u8 3, .int .u8 30, .int .u8 22, .int .u8 20, .int .u8 15, .int .u8 25, .int .u8 17, .int .u8 4, .int .u8 8, .int .u8 31, .int .u8 27, .int .u8 13, .int .u8 23, .int .u8 21, .int .u8 19, .int .u8 16, .int .u8 7, .int .u8 26, .int .u8 12, .int .u8 18, .int .u8 6, .int .u8 11, .int .u8 5, .int .u8 10, .int .u8 9])).modify 3 (lay #[.int .u8 0, .int .u8 1, .int .u8 56, .int .u8 2, .int .u8 57, .int .u8 49, .int .u8 28, .int .u8 3, .int .u8 61, .int .u8 58, .int .u8 42, .int .u8 50, .int .u8 38, .int .u8 29, .int .u8 17, .int .u8 4, .int .u8 62, .int .u8 47, .int .u8 59, .int .u8 36, .int .u8 45, .int .u8 43, .int .u8 51, .int .u8 22, .int .u8 53, .int .u8 39, .int .u8 33, .int .u8 30, .int .u8 24, .int .u8 18, .int .u8 12, .int .u8 5, .int .u8 63, .int .u8 55, .int .u8 48, .int .u8 27, .int .u8 60, .int .u8 41, .int .u8 37, .int .u8 16, .int .u8 46, .int .u8 35, .int .u8 44, .int .u8 21, .int .u8 52, .int .u8 32, .int .u8 23, .int .u8 11, .int .u8 54, .int .u8 26, .int .u8 40, .int .u8 15, .int .u8 34, .int .u8 20, .int .u8 31, .int .u8 10, .int .u8 25, .int .u8 14, .int .u8 19, .int .u8 9, .int .u8 13, .int .u8 8, .int .u8 7, .int .u8 6])).modify 1 (lay #[.int .u64 1, .int .u64 10, .int .u64 100, .int .u64 1000, .int .u64 10000, .int .u64 100000, .int .u64 1000000, .int .u64 10000000, .int .u64 100000000, .int .u64 1000000000, .int .u64 10000000000, .int .u64 100000000000, .int .u64 1000000000000, .int .u64 10000000000000, .int .u64 100000000000000, .int .u64 1000000000000000, .int .u64 10000000000000000, .int .u64 100000000000000000, .int .u64 1000000000000000000, .int .u64 10000000000000000000]) }
theorem laid_met (os : Os) : laidMet Tryz.prog Rows.shipBothRow.laid ((laidWorld os).forCall (fun _ _ => 0) ⟨#[], #[.slice none 0 0, .slice none 0 0], []⟩).memory :=
  laidMet_of_run' 8 (by kernel_rfl) (by kernel_rfl)
theorem reads (os : Os) {H : Type} (enc : TypeId × Value → H) : ∃ places, DataW.whole enc Tryz.prog ((laidWorld os).forCall (fun _ _ => 0) ⟨#[], #[.slice none 0 0, .slice none 0 0], []⟩).memory Tryz.f7.params.toList Rows.shipBothSpec.vars false (#[.slice none 0 0, .slice none 0 0] : Array Value).toList 8 = some ([.nil, .nil], [], places) :=
  ⟨[], by kernel_rfl⟩

set_option maxRecDepth 100000 in
theorem lifted (os : Os) (started : os.Started) (H : Type) (enc : TypeId × Value → H) (F : Stop.Interp) :
    ReturnsInHanded {} Tryz.checked os 7 .any ((OpenSpec.ofChange Rows.shipBothSpec).preRow enc Tryz.prog Tryz.f7 Rows.shipBothRow.domain false Rows.shipBothRow.laid) (((OpenSpec.ofChange Rows.shipBothSpec).at F).post enc Tryz.prog Tryz.f7 false true false false) := by
  obtain ⟨places, hx⟩ := reads os enc
  refine returnsInHanded_of_row (C := Tryz.checked) (s := OpenSpec.ofChange Rows.shipBothSpec) own started (by kernel_rfl) Tryz.func7
    (witness_row_at (enc := enc) (C := Tryz.checked) false (laidWorld os) #[.slice none 0 0, .slice none 0 0] rfl (by kernel_rfl) (by kernel_rfl) (by kernel_rfl)
      (OpenSpec.preRow_of_cond 8 hx (by kernel_rfl) (fun k hk => by cases hk) (by kernel_rfl) (laid_met os))) ?_
  intro W base args ds gs before hval0 hW _ _ _ hL _ _
  have hval : ∀ (j : Nat) t v, Tryz.f7.params[j]? = some t → args[j]? = some v → Value.okWide Tryz.prog W .any base t v := hval0
  have hW' := hW
  obtain ⟨p, q, hA0, hV, rfl, hfz, hnd⟩ := hW
  have hA : DataW.TrodAll enc Tryz.prog W 0 (fun _ => true) true Tryz.f7.params.toList args.toList ds p := hA0
  rw [Tryz.params7] at hA hval
  obtain ⟨v0, vs0, d0, ds0, p0, q0, hargs, rfl, rfl, h0, r0⟩ := trodAll_cons hA
  obtain ⟨v1, vs1, d1, ds1, p1, q1, rfl, rfl, rfl, h1, r1⟩ := trodAll_cons r0
  obtain ⟨rfl, rfl, rfl⟩ := trodAll_nil r1
  obtain rfl : args = #[v0, v1] := by cases args; simp_all
  obtain ⟨rfl, rfl⟩ := trodVars_none hV
  obtain ⟨a0, len0, cap0, rfl⟩ := okWide_slice Tryz.underlying28 (hval 0 28 v0 rfl rfl)
  have k0 := h0
  have lt0 : ∀ x ∈ p0, x.block < W.heap.size := by obtain ⟨m, hm⟩ := k0; exact DataW.trod_lt m _ _ _ hm
  obtain ⟨l0, hN0, hF0⟩ : ∃ l : List (Ndl × Value), IsN W (.slice a0 len0 cap0) l ∧ ∀ x ∈ l, x.1.fits := by obtain ⟨fuel, hf⟩ := h0; exact ndls_of_trod (by simpa [Value.cells] using hf)
  obtain ⟨a1, len1, cap1, rfl⟩ := okWide_slice Tryz.underlying72 (hval 1 72 v1 rfl rfl)
  have k1 := h1
  have lt1 : ∀ x ∈ p1, x.block < W.heap.size := by obtain ⟨m, hm⟩ := k1; exact DataW.trod_lt m _ _ _ hm
  obtain ⟨l1, hL1⟩ : ∃ l : List Bool, IsX W 1 (.slice a1 len1 cap1) l.length (row bcl l) := by obtain ⟨fuel, hf⟩ := h1; exact bools_of_trod (by simpa [Value.cells] using hf)
  clear hA0 hval0
  refine (shipBoth_all _ _ l0 l1 W hN0 hL1 hF0).mono fun e W' ⟨he, bel⟩ => ?_
  subst he
  exact ⟨_, rfl, _, _, _, [], _, [], hW', trodAll_mk1 (shut_bool Tryz.underlying4 _), (trodAll_cons_mk (Below.trod laidOut (by kernel_rfl) (of_decide_eq_true (by kernel_rfl)) k0 bel lt0) (trodAll_cons_mk (Below.trod laidOut (by kernel_rfl) (of_decide_eq_true (by kernel_rfl)) k1 bel lt1) trodAll_mk0)), rfl, bel.frame _, fun h => by cases h⟩

theorem over : Rows.ShipBothSaid :=
  OpenClaim.holds_of_cond 7 Tryz.f7 rfl rfl rfl rfl rfl rfl rfl ⟨rfl, rfl, rfl, rfl, rfl⟩ rfl rfl rfl rfl rfl (by kernel_rfl) Tryz.func7 (by kernel_rfl)
    (of_decide_eq_true (by kernel_rfl)) (by unfold Func.isWrapper; first | (rw [if_pos (by decide +kernel)]; kernel_rfl) | (rw [if_neg (by decide +kernel)]; exact ⟨rfl, rfl⟩))
    (fun os started H enc _ F => by rw [OpenClaim.pre_eq_preRow]; exact lifted os started H enc F)

theorem noStand : (Tryz.f7.params.toList.all fun t => !Tryz.prog.wantsStandIn t) = true := by kernel_rfl

set_option maxRecDepth 100000 in
theorem proved : Rows.ShipBothCardSaid :=
  Claim7.holds_tied_plain_at .later [] _ _ _ _ over (fun _ h => by cases h) (by kernel_rfl) (fun _ h => by cases h) shipBoth_row_tie rfl ⟨rfl, rfl⟩ (by kernel_rfl) rfl
    (fun f fn hf hfn => by
      obtain rfl : f = 7 := Option.some.inj ((show Tryz.prog.funcNamed "corncrib/corncriblaw13.ShipBoth" = some 7 by kernel_rfl).symm.trans hf) |>.symm
      obtain rfl : fn = Tryz.f7 := (Option.some.inj (Tryz.func7.symm.trans hfn)).symm
      refine ⟨by kernel_rfl, fun j t ht => ?_⟩
      have hm : t ∈ Tryz.f7.params.toList := Array.mem_toList_iff.2 (Array.mem_of_getElem? ht)
      have h := List.all_eq_true.1 noStand t hm
      show Tryz.prog.wantsStandIn t = false
      cases hw : Tryz.prog.wantsStandIn t with
      | false => rfl
      | true => rw [hw] at h; cases h)
    (by kernel_rfl)
#print axioms proved
end Go.Proofs.YtoblbipkkdiddaaGreatDoor.shipBoth
