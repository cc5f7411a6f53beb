/- The document's table (layer 16) by contracts: Find. -/
import Derived.Test.YtncfdkkekaninaaChecked
import Derived.Test.YtncfdkkekaninaaRn
import Derived.Test.YtncfdkkekaninaaMsg
import Derived.WalkKit
import Derived.ProofKit
import Derived.Lib.Hide
set_option linter.unusedVariables false
set_option linter.unusedSimpArgs false
namespace Go.Proofs.Ytncfdkkekaninaa
open Go.RowKit Go.Cor

/-- The first answer for a place and a number; -1 if there is none. -/
def hasP (p : Int) (q : Nat) (m : Msg) : Bool := m.to == p && m.id == q
def findP (p : Int) (q : Nat) : List Msg → Int
  | [] => -1
  | m :: l => if hasP p q m then 0 else if findP p q l < 0 then -1 else findP p q l + 1
theorem findP_none {p : Int} {q : Nat} : ∀ {l : List Msg}, (∀ m ∈ l, hasP p q m = false) → findP p q l = -1
  | [], _ => rfl
  | m :: l, h => by
    unfold findP
    rw [h m (List.mem_cons_self ..), findP_none (l := l) (fun x hx => h x (List.mem_cons_of_mem _ hx))]
    rfl
theorem findP_at {p : Int} {q : Nat} : ∀ {l : List Msg} {i : Nat} {m : Msg}, l[i]? = some m → (∀ x ∈ l.take i, hasP p q x = false) → hasP p q m = true → findP p q l = (i : Int)
  | [], i, m, hi, _, _ => by simp at hi
  | x :: l, 0, m, hi, _, hm => by
    simp at hi
    subst hi
    unfold findP
    rw [if_pos hm]
    rfl
  | x :: l, i + 1, m, hi, h, hm => by
    have hx := h x (by simp)
    have h1 := findP_at (p := p) (q := q) (l := l) (i := i) (m := m) (by simpa using hi) (fun y hy => h y (by rw [List.take_succ_cons]; exact List.mem_cons_of_mem _ hy)) hm
    unfold findP
    rw [if_neg (by rw [hx]; decide), h1, if_neg (by omega)]
    omega
set_option maxRecDepth 100000 in
set_option maxHeartbeats 4000000 in
theorem rfind16_any (xl : Option Addr) (ll cl : Nat) (l : List (Msg × Value)) (p : Int) (q : Nat) (w : World) (hll : l.length = ll) (hl : IsM w (.slice xl ll cl) l) (hm : ll ≤ 1099511627776) :
    Calls Try.prog 16 #[.slice xl ll cl, .int .i64 p, .int .u64 (q : Int)] w fun e w' => e = .returned (.int .i64 (findP p q (l.map (·.1)))) ∧ Below w.heap.size w w' := by
  have hX := hl.1
  rw [hll] at hX
  obtain ⟨R, hR⟩ : ∃ R, findP p q (l.map (·.1)) = R := ⟨_, rfl⟩
  rw [hR]
  have HR := Lib.hid hR
  have HL := Lib.hid hll
  have HX := Lib.hid hX
  clear hX hl hll hR
  go_enter Try.func16, Try.ntmps16
  go_wp2_with fail
  obtain ⟨w1, hw1⟩ : ∃ z, z = w := ⟨_, rfl⟩
  subst hw1
  go_loopw [7] (fun k wr => ∃ i : Nat, i ≤ ll ∧ k = .int .i64 i ∧ wr = w1 ∧ Hid (∀ x ∈ l.take i, hasP p q x.1 = false)) (fun k _ => ll - (intOf k).toNat)
  case atStart => exact ⟨0, Nat.zero_le _, rfl, rfl, Lib.hid (fun x hx => by simp at hx)⟩
  case round =>
    obtain ⟨i, hiN, rfl, rfl, HN⟩ := hrel
    by_cases hlt : i < ll
    · obtain ⟨bi, oi, hidx, _, hcell⟩ := indexAt_X HX.out 22 36 Try.underlying22 Try.sizeMsg i hlt
      obtain ⟨⟨m, v⟩, hxl⟩ : ∃ z, l[i]? = some z := ⟨_, List.getElem?_eq_getElem (by rw [HL.out]; exact hlt)⟩
      have c1 := (hcell 1 (by decide)).trans (row_get mcl_len hxl 1 (by decide))
      have c5 := (hcell 5 (by decide)).trans (row_get mcl_len hxl 5 (by decide))
      have e1 : wr.cell? ⟨bi, oi + 1, none⟩ = some (.int .i64 m.to) := c1
      have e5 : wr.cell? ⟨bi, oi + 5, none⟩ = some (.int .u64 (m.id : Int)) := c5
      have HXL := Lib.hid hxl
      clear hcell c1 c5 hxl
      by_cases hp : m.to = p
      · have kp : (m.to == p) = true := beq_iff_eq.2 hp
        have Hp := Lib.hid hp
        clear hp
        by_cases hq : m.id = q
        · have kq : ((m.id : Int) == (q : Int)) = true := beq_iff_eq.2 (by rw [hq])
          have Hq := Lib.hid hq
          clear hq
          have HE := Lib.hid (show R = (i : Int) from by
            rw [← HR.out]
            exact findP_at (m := m) (by rw [List.getElem?_map, HXL.out]; rfl) (fun x hx => by
              rw [← List.map_take] at hx
              obtain ⟨y, hy, rfl⟩ := List.mem_map.1 hx
              exact HN.out y hy) (by unfold hasP; rw [Hp.out, Hq.out]; simp))
          as_aux_lemma =>
            go_wp2
            go_ret
            exact ⟨by rw [HE.out]; rfl, Below.refl _ _⟩
        · have kq : ((m.id : Int) == (q : Int)) = false := beq_eq_false_iff_ne.2 (by omega)
          have Hq := Lib.hid hq
          clear hq
          have HN1 := Lib.hid (show ∀ x ∈ l.take (i + 1), hasP p q x.1 = false from fun x hx => by
            rw [List.take_add_one, HXL.out] at hx
            rcases List.mem_append.1 hx with h | h
            · exact HN.out x h
            · simp at h; rw [h]; unfold hasP; rw [beq_eq_false_iff_ne.2 Hq.out, Bool.and_false])
          as_aux_lemma =>
            go_wp2
            go_roundw
            case rel => exact ⟨i + 1, by omega, by go_num, by first | rfl | trivial, HN1⟩
            case measure => simp [intOf]; omega
      · have kp : (m.to == p) = false := beq_eq_false_iff_ne.2 hp
        have Hp := Lib.hid hp
        clear hp
        have HN1 := Lib.hid (show ∀ x ∈ l.take (i + 1), hasP p q x.1 = false from fun x hx => by
          rw [List.take_add_one, HXL.out] at hx
          rcases List.mem_append.1 hx with h | h
          · exact HN.out x h
          · simp at h; rw [h]; unfold hasP; rw [beq_eq_false_iff_ne.2 Hp.out, Bool.false_and])
        as_aux_lemma =>
          go_wp2
          go_roundw
          case rel => exact ⟨i + 1, by omega, by go_num, by first | rfl | trivial, HN1⟩
          case measure => simp [intOf]; omega
    · obtain rfl : i = ll := by omega
      have HE := Lib.hid (show R = -1 from by
        rw [← HR.out]
        exact findP_none (fun x hx => by
          obtain ⟨y, hy, rfl⟩ := List.mem_map.1 hx
          exact HN.out y (by rw [List.take_of_length_le (Nat.le_of_eq HL.out)]; exact hy)))
      as_aux_lemma =>
        go_wp2
        go_ret
        exact ⟨by rw [HE.out]; rfl, Below.refl _ _⟩

end Go.Proofs.Ytncfdkkekaninaa
