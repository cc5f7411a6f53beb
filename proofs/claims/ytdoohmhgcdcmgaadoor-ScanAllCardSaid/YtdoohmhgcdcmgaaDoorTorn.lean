/- Package scan: is an error torn; and where it says that it is: by contracts. -/
import Derived.Test.YtdoohmhgcdcmgaaDoorAs
import Derived.Recover
import Derived.Laws.Pointers
namespace Go.Proofs.YtdoohmhgcdcmgaaDoor
open Go.RowKit Go.Extern.Stop Go.Stop Go.Extern

/-- The deferred closure of a frame that returns: recover finds nothing. -/
theorem torn_idle (w : World) :
    CallsD Tryd.prog 16 #[] .returning w fun e u' w' => e = .returned (.tuple #[]) ∧ u' = .returning ∧ w' = w := by
  refine callsD_of_wpS Tryd.func16 rfl fun c₀ cs hu => ?_
  apply wpS_region
  simp [wpOpsS, go_sem, recoverD, hu, Tryd.ntmps16, bodyPostS, results, Tryd.results16]
  cases c₀
  simp_all

/-- Is a code one of those that tell bytes that aren't right? -/
def spoiltK (k : Int) : Bool := k == 3 || k == 4 || k == 5

theorem is_code (a b : Int) (w : World) :
    Calls Tryd.prog 15 #[.iface 50 (.int .i64 a), .iface 50 (.int .i64 b)] w fun e w' => e = .returned (.bool (a == b)) ∧ w = w' := by
  by_cases h : a = b
  · subst h
    rw [show (a == a) = true by simp]
    exact is_same a w
  · rw [show (a == b) = false by simpa using h]
    exact is_other a b w h

theorem spoilt_code (k : Int) (w : World) :
    Calls Tryd.prog 18 #[.iface 50 (.int .i64 k)] w fun e w' => e = .returned (.bool (spoiltK k)) ∧ w = w' := by
  unfold spoiltK
  cases h3 : (k == 3) with
  | true =>
    go_enter Tryd.func18, Tryd.ntmps18
    go_wp2_with (go_at_call 15; refine (is_code _ _ _).mono ?_; rintro e w' ⟨rfl, rfl⟩; rw [h3])
    go_ret
    exact ⟨rfl, rfl⟩
  | false =>
    cases h4 : (k == 4) with
    | true =>
      go_enter Tryd.func18, Tryd.ntmps18
      go_wp2_with (go_at_call 15; refine (is_code _ _ _).mono ?_; rintro e w' ⟨rfl, rfl⟩; first | rw [h3] | rw [h4])
      go_ret
      exact ⟨rfl, rfl⟩
    | false =>
      cases h5 : (k == 5) with
      | true =>
        go_enter Tryd.func18, Tryd.ntmps18
        go_wp2_with (go_at_call 15; refine (is_code _ _ _).mono ?_; rintro e w' ⟨rfl, rfl⟩; first | rw [h3] | rw [h4] | rw [h5])
        go_ret
        exact ⟨rfl, rfl⟩
      | false =>
        go_enter Tryd.func18, Tryd.ntmps18
        go_wp2_with (go_at_call 15; refine (is_code _ _ _).mono ?_; rintro e w' ⟨rfl, rfl⟩; first | rw [h3] | rw [h4] | rw [h5])
        go_ret
        exact ⟨rfl, rfl⟩

theorem torn_nil (w : World) :
    Calls Tryd.prog 9 #[.nilIface] w fun e w' => e = .returned (.bool false) ∧ Below w.heap.size w w' := by
  go_enter_defers Tryd.func9, Tryd.ntmps9
  go_wp2_with (go_at_call 17; refine (as_nil _ _).mono ?_; rintro e w' ⟨rfl, rfl⟩)
  refine leaves_cons (f := 16) (args := #[]) (by simp) (by simp [go_sem]) ?_
  refine (torn_idle _).mono ?_
  rintro e u' w'' ⟨rfl, rfl, rfl⟩
  simp [Leaves, settle, results, Tryd.results9, go_sem]
  exact (Below.refl _ _).alloc (Nat.le_refl _) _

theorem laidE_lt {w : World} (h : laidE w) : 0 < w.heap.size := by
  rcases Nat.eq_zero_or_pos w.heap.size with h0 | h1
  · simp [laidE, World.cell?, h0] at h
  · exact h1
theorem laidE_mono {w w' : World} {B : Nat} (h : laidE w) (hb : Below B w w') (hB : 0 < B) : laidE w' := (hb.cell (p := ⟨0, 0, none⟩) hB).trans h

/-- The world behind a target: three boxes of reflectlite's. -/
theorem three_below (w : World) (a b c : Obj) : Below w.heap.size w (((w.alloc a).alloc b).alloc c) :=
  (((Below.refl _ _).alloc (Nat.le_refl _) _).alloc (by simp) _).alloc (by simp; omega) _

set_option maxHeartbeats 1000000 in
theorem torn_code (k : Int) (w : World) (hg : laidE w) :
    Calls Tryd.prog 9 #[.iface 50 (.int .i64 k)] w fun e w' => e = .returned (.bool false) ∧ Below w.heap.size w w' := by
  have hgA : laidE (w.alloc (.cells #[.pointer none] 53)) := laidE_mono hg ((Below.refl _ _).alloc (Nat.le_refl _) _) (laidE_lt hg)
  have htA : (w.alloc (.cells #[.pointer none] 53)).cell? ⟨w.heap.size, 0, none⟩ = some (.pointer none) := by simp
  go_enter_defers Tryd.func9, Tryd.ntmps9
  go_wp2_with (go_at_call 17; refine (as_miss k _ _ _ hgA htA).mono ?_; rintro e w' ⟨rfl, rfl⟩)
  refine leaves_cons (f := 16) (args := #[]) (by simp) (by simp [go_sem]) ?_
  refine (torn_idle _).mono ?_
  rintro e u' w'' ⟨rfl, rfl, rfl⟩
  simp [Leaves, settle, results, Tryd.results9, go_sem]
  exact ((Below.refl w.heap.size w).alloc (Nat.le_refl _) _).trans ((three_below (w.alloc (.cells #[.pointer none] 53)) _ _ _).mono (by simp))

/-- What lies behind errors.As that struck: the target, the rest as it was. -/
theorem hit_facts (w : World) (e : Addr) (a b c d : Obj) (T : TypeId) :
    Below w.heap.size w (((((w.alloc (.cells #[.pointer none] T)).alloc a).alloc b).alloc c |>.alloc d).setCell ⟨w.heap.size, 0, none⟩ (.pointer (some e))) ∧
    ((((((w.alloc (.cells #[.pointer none] T)).alloc a).alloc b).alloc c).alloc d).setCell ⟨w.heap.size, 0, none⟩ (.pointer (some e))).cell? ⟨w.heap.size, 0, none⟩ = some (.pointer (some e)) := by
  constructor
  · exact (((((((Below.refl w.heap.size w).alloc (Nat.le_refl _) _).alloc (by simp) _).alloc (by simp; omega) _).alloc (by simp; omega) _).alloc (by simp; omega) _)).setCell (Nat.le_refl _) _
  · have : (((((w.alloc (.cells #[.pointer none] T)).alloc a).alloc b).alloc c).alloc d).cell? ⟨w.heap.size, 0, none⟩ = some (.pointer none) := by
      rw [World.cell?_alloc_lt _ _ ⟨w.heap.size, 0, none⟩ (by simp; omega), World.cell?_alloc_lt _ _ ⟨w.heap.size, 0, none⟩ (by simp; omega), World.cell?_alloc_lt _ _ ⟨w.heap.size, 0, none⟩ (by simp; omega), World.cell?_alloc_lt _ _ ⟨w.heap.size, 0, none⟩ (by simp)]
      simp
    go_simp

set_option maxHeartbeats 1000000 in
theorem torn_at (a : Nat) (k : Int) (w : World) (hg : laidE w) (hc : w.cell? ⟨a, 2, none⟩ = some (.iface 50 (.int .i64 k))) :
    Calls Tryd.prog 9 #[.iface 53 (.pointer (some ⟨a, 0, none⟩))] w fun e w' => e = .returned (.bool (spoiltK k)) ∧ Below w.heap.size w w' := by
  have hgA : laidE (w.alloc (.cells #[.pointer none] 53)) := laidE_mono hg ((Below.refl _ _).alloc (Nat.le_refl _) _) (laidE_lt hg)
  have htA : (w.alloc (.cells #[.pointer none] 53)).cell? ⟨w.heap.size, 0, none⟩ = some (.pointer none) := by simp
  have hfA : (w.alloc (.cells #[.pointer none] 53)).frozen? ⟨w.heap.size, 0, none⟩ = false := by simp
  have hal : a < w.heap.size := by
    rcases Nat.lt_or_ge a w.heap.size with h | h
    · exact h
    · simp [World.cell?, Array.getElem?_eq_none h] at hc
  go_enter_defers Tryd.func9, Tryd.ntmps9
  go_wp2_with fail
  refine (as_hit ⟨a, 0, none⟩ _ _ _ hgA htA hfA).mono ?_
  rintro e w1 ⟨rfl, hw1⟩
  obtain ⟨hb, ht⟩ := hit_facts w ⟨a, 0, none⟩ (.cells #[.pointer (some ⟨w.heap.size, 0, none⟩)] 58) (.cells #[.pointer (some ⟨1, 58, none⟩), .pointer (some ⟨(w.alloc (.cells #[.pointer none] 53)).heap.size, 0, none⟩), .int .u64 150] 73) (.cells #[.pointer (some ⟨1, 58, none⟩), .pointer (some ⟨(w.alloc (.cells #[.pointer none] 53)).heap.size, 0, none⟩), .int .u64 150] 73) (.cells #[.pointer (some ⟨a, 0, none⟩)] 53) 53
  rw [← hw1] at hb ht
  have hc1 := (hb.cell (p := ⟨a, 2, none⟩) hal).trans hc
  clear hw1
  go_wp2_with (go_at_call 18; refine (spoilt_code k _).mono ?_; rintro e w' ⟨rfl, rfl⟩)
  all_goals
    refine leaves_cons (f := 16) (args := #[]) (by simp) (by simp [go_sem]) ?_
    refine (torn_idle _).mono ?_
    rintro e u' w'' ⟨rfl, rfl, rfl⟩
    simp [Leaves, settle, results, Tryd.results9, go_sem]
    exact hb

end Go.Proofs.YtdoohmhgcdcmgaaDoor
