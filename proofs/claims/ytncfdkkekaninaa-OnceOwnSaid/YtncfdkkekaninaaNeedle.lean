/- Package needle by contracts: its small functions. -/
import Derived.Test.YtncfdkkekaninaaNdl
import Derived.Test.YtncfdkkekaninaaRef02
import Derived.Laws.BytesArg
import Derived.Laws.BytesString
import Derived.Deep.RegionHeld3
set_option linter.unusedVariables false
set_option linter.unusedSimpArgs false
namespace Go.Proofs.Ytncfdkkekaninaa
open Go.RowKit Go.Cor

/-- A needle as a value, its data at v. -/
abbrev nval (n : Ndl) (v : Value) : Value := .agg #[.int .u64 (n.key : Int), .int .u32 (n.cookie : Int), .bool n.gone, v]
/-- A needle as it lies in memory of its own. -/
abbrev ncells (n : Ndl) (v : Value) (T : TypeId) : Obj := .cells #[.int .u64 (n.key : Int), .int .u32 (n.cookie : Int), .bool n.gone, v] T
/-- A code as an error, or none. -/
def cerr (k : Nat) : Value := if k = 0 then .nilIface else err (k : Int)
theorem cerr_0 : cerr 0 = .nilIface := rfl
theorem cerr_pos {k : Nat} (h : k ≠ 0) : cerr k = err (k : Int) := if_neg h

theorem pad_padn (n : Nat) : pad (n : Int) = ((padn n : Nat) : Int) := by
  rw [pad_pos (by omega)]
  unfold padn
  omega
/-- The size of so much data. -/
def nsize (d : Int) : Int := if d < 0 ∨ 4096 < d then 0 else 32 + d + pad d
theorem nsize_nat {d : Nat} (h : d ≤ 4096) : nsize (d : Int) = ((32 + d + padn d : Nat) : Int) := by
  unfold nsize
  rw [if_neg (by omega), pad_padn]
  omega

/-- Bytes as a string. -/
theorem conv_B {P : Program} {w : World} {v : Value} {l : List UInt8} (hv : IsB w v l) (src dst e : TypeId) (hs : P.underlying src = some (.slice e)) (he : P.underlying e = some (.int .u8)) (hd : P.underlying dst = some .string) :
    (convert src dst v).run P w = .ok (.string ⟨l.toArray⟩) w := by
  obtain ⟨a, cap, rfl, _, _, _, hcell⟩ := hv
  rcases hcell with h0 | ⟨b, off, rfl, hc⟩
  · obtain rfl : l = [] := List.eq_nil_of_length_eq_zero h0
    rw [run_convert_bytes_string w src dst e _ _ _ hs he hd]
    cases a <;> simp [Conv.bytesToString, loadCells]
    all_goals rfl
  · have h := run_convert_bytes_arg (P := P) w src e hs he b off l.length cap (l.map fun x => (x.toNat : Int)) (by simp) (fun i hi => by
      rw [hc i hi]
      simp [List.getD, List.getElem?_map, List.getElem?_eq_getElem hi]) dst hd
    rw [h]
    congr 2
    apply ByteArray.ext
    apply Array.toList_inj.1
    rw [strOfNums_data, List.map_map]
    show _ = l
    conv => rhs; rw [← List.map_id l]
    apply List.map_congr_left
    intro x _
    simp

theorem equal_any (v1 v2 : Value) (l m : List UInt8) (w : World) (h1 : IsB w v1 l) (h2 : IsB w v2 m) :
    Calls Try.prog 34 #[v1, v2] w fun e w' => e = .returned (.bool (sameB l m)) ∧ w = w' := by
  have c1 := conv_B (P := Try.prog) h1 32 9 5 Try.underlying32 Try.underlying5 Try.underlying9
  have c2 := conv_B (P := Try.prog) h2 32 9 5 Try.underlying32 Try.underlying5 Try.underlying9
  go_enter Try.func34, Try.ntmps34
  go_wp2
  go_ret
  exact ⟨ret_bool (by rw [Bool.eq_iff_iff]; simp [sameB]), rfl⟩

theorem check_any (n : Ndl) (v : Value) (w : World) (hv : IsB w v n.data) :
    Calls Try.prog 32 #[nval n v] w fun e w' => e = .returned (cerr (ncheck n)) ∧ Below w.heap.size w w' := by
  obtain ⟨k, c, g, l⟩ := n
  obtain ⟨d, hd⟩ : ∃ d : Nat, l.length = d := ⟨_, rfl⟩
  obtain ⟨x, cap, rfl, hlc, hcm⟩ := hv.at_len hd
  unfold maxLen at hcm
  have HR : Hid (ncheck ⟨k, c, g, l⟩ = if 4096 < d then 2 else if g = true ∧ 0 < d then 1 else 0) := by
    show ncheck ⟨k, c, g, l⟩ = _
    unfold ncheck
    rw [hd]
  clear hv hd
  by_cases h1 : 4096 < d
  · go_enter Try.func32, Try.ntmps32
    go_wp2
    go_ret
    exact ⟨by rw [HR.out, if_pos h1]; rfl, (Below.refl _ _).alloc (Nat.le_refl _) _⟩
  · cases g with
    | false =>
      go_enter Try.func32, Try.ntmps32
      go_wp2
      go_ret
      exact ⟨by rw [HR.out, if_neg h1]; rfl, (Below.refl _ _).alloc (Nat.le_refl _) _⟩
    | true =>
      by_cases h2 : 0 < d
      · go_enter Try.func32, Try.ntmps32
        go_wp2
        go_ret
        exact ⟨by rw [HR.out, if_neg h1, if_pos ⟨trivial, h2⟩]; rfl, (Below.refl _ _).alloc (Nat.le_refl _) _⟩
      · go_enter Try.func32, Try.ntmps32
        go_wp2
        go_ret
        exact ⟨by rw [HR.out, if_neg h1, if_neg (fun h => h2 h.2)]; rfl, (Below.refl _ _).alloc (Nat.le_refl _) _⟩

/-- A needle in a box of its own. -/
def Boxed (w : World) (g : Nat) (n : Ndl) (v : Value) : Prop :=
  w.cell? ⟨g, 0, none⟩ = some (.int .u64 (n.key : Int)) ∧ w.cell? ⟨g, 1, none⟩ = some (.int .u32 (n.cookie : Int)) ∧ w.cell? ⟨g, 2, none⟩ = some (.bool n.gone) ∧ w.cell? ⟨g, 3, none⟩ = some v
theorem Boxed.new (w : World) (n : Ndl) (v : Value) (T : TypeId) : Boxed (w.alloc (ncells n v T)) w.heap.size n v := by
  refine ⟨?_, ?_, ?_, ?_⟩ <;> go_simp
theorem Boxed.mono {w w' : World} {g B : Nat} {n : Ndl} {v : Value} (h : Boxed w g n v) (hb : Below B w w') (hg : g < B) : Boxed w' g n v :=
  ⟨(hb.cell hg).trans h.1, (hb.cell hg).trans h.2.1, (hb.cell hg).trans h.2.2.1, (hb.cell hg).trans h.2.2.2⟩

theorem sameN_key {a b : Ndl} (h : a.key ≠ b.key) : sameN a b = false := by unfold sameN; exact decide_eq_false fun e => h e.1
theorem sameN_cookie {a b : Ndl} (h : a.cookie ≠ b.cookie) : sameN a b = false := by unfold sameN; exact decide_eq_false fun e => h e.2.1
theorem sameN_gone {a b : Ndl} (h : a.gone ≠ b.gone) : sameN a b = false := by unfold sameN; exact decide_eq_false fun e => h e.2.2.1
theorem sameN_data {k c : Nat} {g : Bool} {l m : List UInt8} : sameN ⟨k, c, g, l⟩ ⟨k, c, g, m⟩ = sameB l m := by
  rw [Bool.eq_iff_iff]
  simp [sameN, sameB]

set_option maxHeartbeats 400000 in
theorem nsame_any (a b : Ndl) (va vb : Value) (w : World) (ha : IsB w va a.data) (hb : IsB w vb b.data) :
    Calls Try.prog 25 #[nval a va, nval b vb] w fun e w' => e = .returned (.bool (sameN a b)) ∧ Below w.heap.size w w' := by
  obtain ⟨k1, c1, g1, l⟩ := a
  obtain ⟨k2, c2, g2, m⟩ := b
  by_cases hk : k1 = k2
  · subst hk
    by_cases hc : c1 = c2
    · subst hc
      by_cases hg : g1 = g2
      · subst hg
        rw [sameN_data]
        have HA := Lib.hid ha
        have HB := Lib.hid hb
        clear ha hb
        go_enter Try.func25, Try.ntmps25
        go_wp2_with fail
        refine (equal_any _ _ l m _ ?_ ?_).mono ?_
        · exact (HA.out.mono ((Below.refl _ _).alloc (Nat.le_refl _) _) (Nat.le_refl _)).mono ((Below.refl _ _).alloc (Nat.le_refl _) _) (Nat.le_refl _)
        · exact (HB.out.mono ((Below.refl _ _).alloc (Nat.le_refl _) _) (Nat.le_refl _)).mono ((Below.refl _ _).alloc (Nat.le_refl _) _) (Nat.le_refl _)
        rintro e w' ⟨rfl, rfl⟩
        go_wp2
        go_ret
        exact ⟨rfl, ((Below.refl _ _).alloc (Nat.le_refl _) _).alloc (by simp) _⟩
      · rw [sameN_gone hg]
        have hgb : (g1 == g2) = false := by simpa using hg
        clear hg
        go_enter Try.func25, Try.ntmps25
        go_wp2
        go_ret
        exact ⟨rfl, ((Below.refl _ _).alloc (Nat.le_refl _) _).alloc (by simp) _⟩
    · rw [sameN_cookie hc]
      have hcb : ((c1 : Int) == (c2 : Int)) = false := by rw [beq_eq_false_iff_ne]; omega
      clear hc
      go_enter Try.func25, Try.ntmps25
      go_wp2
      go_ret
      exact ⟨rfl, ((Below.refl _ _).alloc (Nat.le_refl _) _).alloc (by simp) _⟩
  · rw [sameN_key hk]
    have hkb : ((k1 : Int) == (k2 : Int)) = false := by rw [beq_eq_false_iff_ne]; omega
    clear hk
    go_enter Try.func25, Try.ntmps25
    go_wp2
    go_ret
    exact ⟨rfl, ((Below.refl _ _).alloc (Nat.le_refl _) _).alloc (by simp) _⟩

end Go.Proofs.Ytncfdkkekaninaa
