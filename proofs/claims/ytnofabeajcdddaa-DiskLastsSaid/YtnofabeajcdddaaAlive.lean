/- The laws' Do of no disk; the chapter's example; DiskNil: by contracts. -/
import Derived.Test.YtnofabeajcdddaaPk
import Derived.Test.YtnofabeajcdddaaRef01
namespace Go.Proofs.Ytnofabeajcdddaa
open Go.RowKit Go.Cor

def an : ByteArray := ⟨#[97]⟩
def bn : ByteArray := ⟨#[98]⟩
/-- An act as a value. -/
abbrev actV (k : Int) (n t : ByteArray) (bv' : Value) (z x : Int) (names : Int) (pv : Value) : Value := .agg #[.int .i64 k, .string n, .string t, bv', .int .i64 z, .int .i64 x, .int .i64 names, pv]
def DoNil (w : World) (e : Ending) (w' : World) : Prop := e = .returned (.tuple #[.slice none 0 0, .int .i64 0, .int .i64 15]) ∧ Below w.heap.size w w'

set_option maxHeartbeats 1000000 in
theorem do_nil_0 (w : World) : Calls Try.prog 13 #[.pointer none, actV 0 an bn (.slice none 0 0) 0 0 0 (.slice none 0 0)] w (DoNil w) := by
  go_enter Try.func13, Try.ntmps13
  go_wp2_with fail
  refine (create_nil an _).mono ?_
  rintro e w1 ⟨rfl, rfl⟩
  go_wp2_with fail
  refine (code_code 15 _ (by decide) (by decide)).mono ?_
  rintro e w3 ⟨rfl, rfl⟩
  go_wp2
  exact bodyPost_ret (v := .tuple #[.slice none 0 0, .int .i64 0, .int .i64 15]) (by simp [results, Try.results13, go_sem]) rfl ⟨rfl, (Below.refl _ w).alloc (Nat.le_refl _) _⟩

set_option maxHeartbeats 1000000 in
theorem do_nil_1 (w : World) : Calls Try.prog 13 #[.pointer none, actV 1 an bn (.slice none 0 0) 0 0 0 (.slice none 0 0)] w (DoNil w) := by
  go_enter Try.func13, Try.ntmps13
  go_wp2_with fail
  refine (append_nil an _ _).mono ?_
  rintro e w1 ⟨rfl, rfl⟩
  go_wp2_with fail
  refine (code_code 15 _ (by decide) (by decide)).mono ?_
  rintro e w3 ⟨rfl, rfl⟩
  go_wp2
  exact bodyPost_ret (v := .tuple #[.slice none 0 0, .int .i64 0, .int .i64 15]) (by simp [results, Try.results13, go_sem]) rfl ⟨rfl, (Below.refl _ w).alloc (Nat.le_refl _) _⟩

set_option maxHeartbeats 1000000 in
theorem do_nil_2 (w : World) : Calls Try.prog 13 #[.pointer none, actV 2 an bn (.slice none 0 0) 0 0 0 (.slice none 0 0)] w (DoNil w) := by
  go_enter Try.func13, Try.ntmps13
  go_wp2_with fail
  refine (sync_nil an _).mono ?_
  rintro e w1 ⟨rfl, rfl⟩
  go_wp2_with fail
  refine (code_code 15 _ (by decide) (by decide)).mono ?_
  rintro e w3 ⟨rfl, rfl⟩
  go_wp2
  exact bodyPost_ret (v := .tuple #[.slice none 0 0, .int .i64 0, .int .i64 15]) (by simp [results, Try.results13, go_sem]) rfl ⟨rfl, (Below.refl _ w).alloc (Nat.le_refl _) _⟩

set_option maxHeartbeats 1000000 in
theorem do_nil_3 (w : World) : Calls Try.prog 13 #[.pointer none, actV 3 an bn (.slice none 0 0) 0 0 0 (.slice none 0 0)] w (DoNil w) := by
  go_enter Try.func13, Try.ntmps13
  go_wp2_with fail
  refine (syncNames_nil _).mono ?_
  rintro e w1 ⟨rfl, rfl⟩
  go_wp2_with fail
  refine (code_code 15 _ (by decide) (by decide)).mono ?_
  rintro e w3 ⟨rfl, rfl⟩
  go_wp2
  exact bodyPost_ret (v := .tuple #[.slice none 0 0, .int .i64 0, .int .i64 15]) (by simp [results, Try.results13, go_sem]) rfl ⟨rfl, (Below.refl _ w).alloc (Nat.le_refl _) _⟩

set_option maxHeartbeats 1000000 in
theorem do_nil_4 (w : World) : Calls Try.prog 13 #[.pointer none, actV 4 an bn (.slice none 0 0) 0 0 0 (.slice none 0 0)] w (DoNil w) := by
  go_enter Try.func13, Try.ntmps13
  go_wp2_with fail
  refine (rename_nil an bn _).mono ?_
  rintro e w1 ⟨rfl, rfl⟩
  go_wp2_with fail
  refine (code_code 15 _ (by decide) (by decide)).mono ?_
  rintro e w3 ⟨rfl, rfl⟩
  go_wp2
  exact bodyPost_ret (v := .tuple #[.slice none 0 0, .int .i64 0, .int .i64 15]) (by simp [results, Try.results13, go_sem]) rfl ⟨rfl, (Below.refl _ w).alloc (Nat.le_refl _) _⟩

set_option maxHeartbeats 1000000 in
theorem do_nil_5 (w : World) : Calls Try.prog 13 #[.pointer none, actV 5 an bn (.slice none 0 0) 0 0 0 (.slice none 0 0)] w (DoNil w) := by
  go_enter Try.func13, Try.ntmps13
  go_wp2_with fail
  refine (remove_nil an _).mono ?_
  rintro e w1 ⟨rfl, rfl⟩
  go_wp2_with fail
  refine (code_code 15 _ (by decide) (by decide)).mono ?_
  rintro e w3 ⟨rfl, rfl⟩
  go_wp2
  exact bodyPost_ret (v := .tuple #[.slice none 0 0, .int .i64 0, .int .i64 15]) (by simp [results, Try.results13, go_sem]) rfl ⟨rfl, (Below.refl _ w).alloc (Nat.le_refl _) _⟩

set_option maxHeartbeats 1000000 in
theorem do_nil_6 (w : World) : Calls Try.prog 13 #[.pointer none, actV 6 an bn (.slice none 0 0) 0 0 0 (.slice none 0 0)] w (DoNil w) := by
  go_enter Try.func13, Try.ntmps13
  go_wp2_with fail
  refine (cut_nil an 0 _).mono ?_
  rintro e w1 ⟨rfl, rfl⟩
  go_wp2_with fail
  refine (code_code 15 _ (by decide) (by decide)).mono ?_
  rintro e w3 ⟨rfl, rfl⟩
  go_wp2
  exact bodyPost_ret (v := .tuple #[.slice none 0 0, .int .i64 0, .int .i64 15]) (by simp [results, Try.results13, go_sem]) rfl ⟨rfl, (Below.refl _ w).alloc (Nat.le_refl _) _⟩

set_option maxHeartbeats 1000000 in
theorem do_nil_7 (w : World) : Calls Try.prog 13 #[.pointer none, actV 7 an bn (.slice none 0 0) 0 0 0 (.slice none 0 0)] w (DoNil w) := by
  go_enter Try.func13, Try.ntmps13
  go_wp2_with fail
  refine (arm_nil 0 _).mono ?_
  rintro e w1 ⟨rfl, rfl⟩
  go_wp2_with fail
  refine (code_code 15 _ (by decide) (by decide)).mono ?_
  rintro e w3 ⟨rfl, rfl⟩
  go_wp2
  exact bodyPost_ret (v := .tuple #[.slice none 0 0, .int .i64 0, .int .i64 15]) (by simp [results, Try.results13, go_sem]) rfl ⟨rfl, (Below.refl _ w).alloc (Nat.le_refl _) _⟩

set_option maxHeartbeats 1000000 in
theorem do_nil_8 (w : World) : Calls Try.prog 13 #[.pointer none, actV 8 an bn (.slice none 0 0) 0 0 0 (.slice none 0 0)] w (DoNil w) := by
  go_enter Try.func13, Try.ntmps13
  go_wp2_with fail
  refine (picks_any 0 (.slice none 0 0) [] _ (IsX.nil _ _) (by decide)).mono ?_
  rintro e w1 ⟨v', rfl, hown, hb⟩
  obtain ⟨x, c, rfl, _, _⟩ := ownsRow_slice hown
  have HB := Lib.hid hb
  clear hown hb
  go_wp2_with fail
  refine (crash_nil 0 _ _ ⟨x, _, c, rfl⟩).mono ?_
  rintro e w2 ⟨rfl, hb2⟩
  have HB2 := Lib.hid (((Below.refl _ w).alloc (Nat.le_refl _) _).trans ((HB.out.mono (by simp)).trans (hb2.mono (Nat.le_trans (by simp) HB.out.size))))
  clear hb2
  go_wp2_with fail
  refine (code_code 15 _ (by decide) (by decide)).mono ?_
  rintro e w3 ⟨rfl, rfl⟩
  go_wp2
  exact bodyPost_ret (v := .tuple #[.slice none 0 0, .int .i64 0, .int .i64 15]) (by simp [results, Try.results13, go_sem]) rfl ⟨rfl, HB2.out⟩

set_option maxHeartbeats 1000000 in
theorem do_nil_9 (w : World) : Calls Try.prog 13 #[.pointer none, actV 9 an bn (.slice none 0 0) 0 0 0 (.slice none 0 0)] w (DoNil w) := by
  go_enter Try.func13, Try.ntmps13
  go_wp2_with fail
  refine (spoil_nil an 0 0 _).mono ?_
  rintro e w1 ⟨rfl, rfl⟩
  go_wp2_with fail
  refine (code_code 15 _ (by decide) (by decide)).mono ?_
  rintro e w3 ⟨rfl, rfl⟩
  go_wp2
  exact bodyPost_ret (v := .tuple #[.slice none 0 0, .int .i64 0, .int .i64 15]) (by simp [results, Try.results13, go_sem]) rfl ⟨rfl, (Below.refl _ w).alloc (Nat.le_refl _) _⟩

set_option maxHeartbeats 1000000 in
theorem do_nil_10 (w : World) : Calls Try.prog 13 #[.pointer none, actV 10 an bn (.slice none 0 0) 0 0 0 (.slice none 0 0)] w (DoNil w) := by
  go_enter Try.func13, Try.ntmps13
  go_wp2_with fail
  refine (read_nil an 0 0 _).mono ?_
  rintro e w1 ⟨rfl, rfl⟩
  go_wp2_with fail
  refine (code_code 15 _ (by decide) (by decide)).mono ?_
  rintro e w3 ⟨rfl, rfl⟩
  go_wp2
  exact bodyPost_ret (v := .tuple #[.slice none 0 0, .int .i64 0, .int .i64 15]) (by simp [results, Try.results13, go_sem]) rfl ⟨rfl, (Below.refl _ w).alloc (Nat.le_refl _) _⟩

set_option maxHeartbeats 1000000 in
theorem do_nil_11 (w : World) : Calls Try.prog 13 #[.pointer none, actV 11 an bn (.slice none 0 0) 0 0 0 (.slice none 0 0)] w (DoNil w) := by
  go_enter Try.func13, Try.ntmps13
  go_wp2_with fail
  refine (size_nil an _).mono ?_
  rintro e w1 ⟨rfl, rfl⟩
  go_wp2_with fail
  refine (code_code 15 _ (by decide) (by decide)).mono ?_
  rintro e w3 ⟨rfl, rfl⟩
  go_wp2
  exact bodyPost_ret (v := .tuple #[.slice none 0 0, .int .i64 0, .int .i64 15]) (by simp [results, Try.results13, go_sem]) rfl ⟨rfl, (Below.refl _ w).alloc (Nat.le_refl _) _⟩

theorem do_nil (k : Nat) (hk : k < 12) (w : World) : Calls Try.prog 13 #[.pointer none, actV (k : Int) an bn (.slice none 0 0) 0 0 0 (.slice none 0 0)] w (DoNil w) := by
  match k, hk with
  | 0, _ => exact do_nil_0 w
  | 1, _ => exact do_nil_1 w
  | 2, _ => exact do_nil_2 w
  | 3, _ => exact do_nil_3 w
  | 4, _ => exact do_nil_4 w
  | 5, _ => exact do_nil_5 w
  | 6, _ => exact do_nil_6 w
  | 7, _ => exact do_nil_7 w
  | 8, _ => exact do_nil_8 w
  | 9, _ => exact do_nil_9 w
  | 10, _ => exact do_nil_10 w
  | 11, _ => exact do_nil_11 w

def A1 : Dsk := ((newD 100).create an).1
def A2 : Dsk := (A1.append an [1]).1
def A3 : Dsk := A2.crash 0 []
theorem a1 : ((newD 100).create an).2 = 0 := by kernel_rfl
theorem a2 : (A1.append an [1]).2 = 0 := by kernel_rfl
theorem a3 : (A3.sync an).2 = 6 := by kernel_rfl
theorem a4 : (A3.sync an).1.now.length = 0 := by kernel_rfl

set_option maxRecDepth 100000 in
set_option maxHeartbeats 4000000 in
theorem alive7_any (w : World) : Calls Try.prog 8 #[] w fun e w' => e = .returned (.bool true) ∧ Below w.heap.size w w' := by
  go_enter Try.func8, Try.ntmps8
  go_wp2_with fail
  refine (new_u 100 _ (by decide)).mono ?_
  rintro e w1 ⟨p, rfl, hD, hp, hb⟩
  have HD1 := Lib.hid hD
  have HB1 := Lib.hid hb
  clear hD hb
  go_wp2_with fail
  refine (create_u _ p _ _ _ an HD1.out (by decide) (by decide)).mono ?_
  rintro e w2 ⟨rfl, ht⟩
  obtain ⟨S2, hD, hS, hb⟩ := ht.ge (B := w.heap.size) HB1.out.size (fun b e => by rw [e]; exact hp)
  have HD2 := Lib.hid (show Dk w2 p S2 A1 2 from hD)
  have HS2 := Lib.hid hS
  have HB2 := Lib.hid (HB1.out.trans hb)
  rw [a1, cerr_0]
  clear ht hD hS hb
  have hI := IsB.lit w2 [1] 5 (by decide)
  have HI := Lib.hid hI
  have HD2a := Lib.hid (HD2.out.below ((Below.refl w2.heap.size w2).alloc (Nat.le_refl _) (.cells (bvs [1]).toArray 5)) (Nat.le_refl _))
  have HB2a := Lib.hid (HB2.out.alloc HB2.out.size (.cells (bvs [1]).toArray 5))
  clear hI
  go_wp2_with fail
  refine (append_u _ p _ _ _ an _ [1] HD2a.out (by decide) HI.out (by decide)).mono ?_
  rintro e w3 ⟨rfl, ht⟩
  obtain ⟨S3, hD, hS, hb⟩ := ht.ge (B := w.heap.size) HB2a.out.size HS2.out
  have HD3 := Lib.hid (show Dk w3 p S3 A2 4 from hD)
  have HS3 := Lib.hid hS
  have HB3 := Lib.hid (HB2a.out.trans hb)
  rw [a2, cerr_0]
  clear ht hD hS hb
  go_wp2_with fail
  refine (crash_u _ p _ _ _ 0 (.slice none 0 0) [] HD3.out (by decide) (IsX.nil _ _) (by decide) (fun b hb => absurd rfl hb.1)).mono ?_
  rintro e w4 ⟨rfl, ht⟩
  obtain ⟨S4, hD, hS, hb⟩ := ht.ge (B := w.heap.size) HB3.out.size HS3.out
  have HD4 := Lib.hid (show Dk w4 p S4 A3 6 from hD)
  have HS4 := Lib.hid hS
  have HB4 := Lib.hid (HB3.out.trans hb)
  clear ht hD hS hb
  go_wp2_with fail
  refine (sync_u _ p _ _ _ an HD4.out (by decide)).mono ?_
  rintro e w5 ⟨rfl, ht⟩
  obtain ⟨S5, hD, hS, hb⟩ := ht.ge (B := w.heap.size) HB4.out.size HS4.out
  have HD5 := Lib.hid hD
  have HB5 := Lib.hid (HB4.out.trans hb)
  rw [a3, cerr_pos (by decide)]
  clear ht hD hS hb
  iterate 4
    go_wp2_with fail
    refine (code_nil _).mono ?_
    rintro e w6 ⟨rfl, rfl⟩
  go_wp2_with fail
  refine (names_u _ p _ _ _ HD5.out).mono ?_
  rintro e w7 ⟨v', rfl, hown, hb⟩
  rw [a4] at hown
  have hlen := fun W => len_X (P := Try.prog) (IsX.own hown) 69 3 _ Try.underlying69 W
  have HB7 := Lib.hid (HB5.out.trans (hb.mono HB5.out.size))
  clear hown hb
  go_wp2_with fail
  refine (code_code 6 _ (by decide) (by decide)).mono ?_
  rintro e w8 ⟨rfl, rfl⟩
  go_wp2
  go_ret
  exact ⟨rfl, HB7.out⟩

end Go.Proofs.Ytnofabeajcdddaa
