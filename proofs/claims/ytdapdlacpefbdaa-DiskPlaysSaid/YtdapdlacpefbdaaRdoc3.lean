/- The document's disk: names by a deed: by contract. -/
import Derived.Test.YtdapdlacpefbdaaRdoc2
import Derived.Deep.QuietTactic
import Derived.BigQuiet
import Derived.StillTailTactics
import Derived.Deep.RegionHeld3
import Derived.Deep.Cut
import Derived.Outline
namespace Go.Proofs.Ytdapdlacpefbdaa
open Go.RowKit Go.Cor

/-- A deed of the document's as cells. -/
def kOf (x : Dd) : Int := if x.dst = noName then 2 else if x.src = noName then 0 else 1
def rdd (x : Dd) : List Value := [.int .i64 (kOf x), .string x.src, .string x.dst, .int .i64 (x.file : Int)]
theorem rdd_len (x : Dd) : (rdd x).length = 4 := rfl
theorem rdd_one (x : Dd) : ∀ v ∈ rdd x, v.oneCell' = true := by
  intro v hv
  simp only [rdd, List.mem_cons, List.not_mem_nil, or_false] at hv
  rcases hv with rfl | rfl | rfl | rfl <;> rfl
theorem keep3 {w w' : World} {B g : Nat} {a b c : Value} (hb : Below B w w') (hg : g < B) (h : w.cell? ⟨g, 1, none⟩ = some a ∧ w.cell? ⟨g, 2, none⟩ = some b ∧ w.cell? ⟨g, 3, none⟩ = some c) :
    w'.cell? ⟨g, 1, none⟩ = some a ∧ w'.cell? ⟨g, 2, none⟩ = some b ∧ w'.cell? ⟨g, 3, none⟩ = some c :=
  ⟨(hb.cell (p := ⟨g, 1, none⟩) hg).trans h.1, (hb.cell (p := ⟨g, 2, none⟩) hg).trans h.2.1, (hb.cell (p := ⟨g, 3, none⟩) hg).trans h.2.2⟩

set_option maxRecDepth 100000 in
set_option maxHeartbeats 4000000 in
theorem rturn_any (v : Value) (l : Tbl) (x : Dd) (w : World) (hv : IsN w v l) (hl : l.length ≤ 1000000) (hx : x.src = noName → x.dst ≠ noName) (hn : ∀ e ∈ l, e.1 ≠ noName) :
    Calls Try.prog 48 #[v, .agg #[.int .i64 (kOf x), .string x.src, .string x.dst, .int .i64 (x.file : Int)]] w fun e w' => ∃ v', e = .returned v' ∧ w'.ownsRow w.heap.size 52 2 v' (turnT l x).length (row ren (turnT l x)) ∧ Below w.heap.size w w' := by
  have hba := bel_alloc w (.cells #[.int .i64 (kOf x), .string x.src, .string x.dst, .int .i64 (x.file : Int)] 110)
  have HV := Lib.hid (hv.mono hba (Nat.le_refl _))
  have HB := Lib.hid hba
  clear hv hba
  by_cases hd : x.dst = noName
  · have hk : kOf x = 2 := if_pos hd
    have ht : turnT l x = wout l x.src := if_pos hd
    rw [hk] at HV HB ⊢
    rw [ht]
    clear hk ht hd hx
    go_enter Try.func48, Try.ntmps48
    go_wp2_with fail
    refine (rwithout_any v l x.src _ HV.out (by omega)).mono ?_
    rintro e w1 ⟨v1, rfl, hown, hb⟩
    have HO := Lib.hid (ownsRow_base hown HB.out.size)
    have HB1 := Lib.hid (HB.out.trans (hb.mono HB.out.size))
    clear hown hb
    go_wp2
    go_ret
    exact ⟨_, rfl, HO.out, HB1.out⟩
  · have ht : turnT l x = wth (wout l x.src) x.dst x.file := if_neg hd
    rw [ht]
    by_cases hs : x.src = noName
    · have hk : kOf x = 0 := (if_neg hd).trans (if_pos hs)
      have hw : wout l x.src = l := wout_none (tfind_none.2 (fun e he => by rw [hs]; exact hn e he))
      rw [hk] at HV HB ⊢
      rw [hw]
      clear hk ht hw hs hd hx
      go_enter Try.func48, Try.ntmps48
      go_wp2_with fail
      refine (rwith_any v l x.dst x.file _ HV.out (by omega)).mono ?_
      rintro e w1 ⟨v1, rfl, hown, hb⟩
      have HO := Lib.hid (ownsRow_base hown HB.out.size)
      have HB1 := Lib.hid (HB.out.trans (hb.mono HB.out.size))
      clear hown hb
      go_wp2
      go_ret
      exact ⟨_, rfl, HO.out, HB1.out⟩
    · have hk : kOf x = 1 := (if_neg hd).trans (if_neg hs)
      rw [hk] at HV HB ⊢
      have hbl := Blk.new w #[.int .i64 1, .string x.src, .string x.dst, .int .i64 (x.file : Int)] 110
      have K0 : (w.alloc (.cells #[.int .i64 1, .string x.src, .string x.dst, .int .i64 (x.file : Int)] 110)).drew.cell? ⟨w.heap.size, 1, none⟩ = some (.string x.src) ∧ (w.alloc (.cells #[.int .i64 1, .string x.src, .string x.dst, .int .i64 (x.file : Int)] 110)).drew.cell? ⟨w.heap.size, 2, none⟩ = some (.string x.dst) ∧ (w.alloc (.cells #[.int .i64 1, .string x.src, .string x.dst, .int .i64 (x.file : Int)] 110)).drew.cell? ⟨w.heap.size, 3, none⟩ = some (.int .i64 (x.file : Int)) := ⟨hbl.cell 1 rfl, hbl.cell 2 rfl, hbl.cell 3 rfl⟩
      have HL := Lib.hid (show (wout l x.src).length ≤ 1048576 from by have := wout_length l x.src; omega)
      clear hk ht hbl hs hd hx
      go_enter Try.func48, Try.ntmps48
      go_upto_region 5 with fail
      go_region_held3 (fun wx => wx.cell? ⟨w.heap.size, 1, none⟩ = some (.string x.src) ∧ wx.cell? ⟨w.heap.size, 2, none⟩ = some (.string x.dst) ∧ wx.cell? ⟨w.heap.size, 3, none⟩ = some (.int .i64 (x.file : Int))) (first | exact K0 | exact Ka | exact Kb) (first
        | (go_at_call 60; (with_reducible refine (rwithout_any v l x.src _ (HV.out.mono (Below.refl _ _).drew (Nat.le_refl _)) (by omega)).mono ?_); rintro e wa ⟨v1, rfl, hown, hb1⟩; have HI1 := Lib.hid (IsX.own hown); have Ka := keep3 hb1 (by simp) K0)
        | (go_at_call 59; (with_reducible refine (rwith_any v1 (wout l x.src) x.dst x.file _ HI1.out HL.out).mono ?_); rintro e wb ⟨v2, rfl, hown2, hb2⟩; have Kb := keep3 hb2 (Nat.lt_of_lt_of_le (by simp) hb1.size) Ka))
      go_wp2
      go_ret
      refine ⟨_, rfl, ownsRow_base hown2 ?_, ?_⟩
      · exact Nat.le_trans HB.out.size hb1.size
      · exact HB.out.trans (((Below.refl _ _).drew.trans (hb1.trans (hb2.mono hb1.size))).mono HB.out.size)

end Go.Proofs.Ytdapdlacpefbdaa
