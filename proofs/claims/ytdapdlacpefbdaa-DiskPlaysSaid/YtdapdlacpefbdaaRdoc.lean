/- The document's disk: names, tables, by contracts. -/
import Derived.Test.YtdapdlacpefbdaaTab
namespace Go.Proofs.Ytdapdlacpefbdaa
open Go.RowKit Go.Cor

theorem Try.infoREnt : (Try.prog.info? 52).map (fun i => (i.zero, i.size, i.bytes)) = some (some (.agg #[.string ⟨#[]⟩, .int .i64 0]), 2, 24) := by kernel_rfl
theorem Try.sizeREnt : (Try.prog.info? 52).map (·.size) = some 2 := by kernel_rfl
/-- An entry of the document's as cells. -/
def ren (e : ByteArray × Nat) : List Value := [.string e.1, .int .i64 (e.2 : Int)]
theorem ren_len (e : ByteArray × Nat) : (ren e).length = 2 := rfl
theorem ren_one (e : ByteArray × Nat) : ∀ v ∈ ren e, v.oneCell' = true := by
  intro v hv
  simp only [ren, List.mem_cons, List.not_mem_nil, or_false] at hv
  rcases hv with rfl | rfl <;> rfl
abbrev IsN (w : World) (v : Value) (l : Tbl) : Prop := IsX w 2 v l.length (row ren l)
theorem indexAt_N {w : World} {v : Value} {l : Tbl} (hv : IsN w v l) {i : Nat} {e : ByteArray × Nat} (he : l[i]? = some e) :
    ∃ b o, (∀ W, (Instr.indexAt 31 v (.int .i64 (i : Int))).run Try.prog W = .ok (.pointer (some ⟨b, o, none⟩)) W) ∧ v.ownBlock = some b ∧ w.cell? ⟨b, o, none⟩ = some (.string e.1) ∧ w.cell? ⟨b, o + 1, none⟩ = some (.int .i64 (e.2 : Int)) := by
  have hi : i < l.length := (List.getElem?_eq_some_iff.1 he).1
  obtain ⟨b, o, h1, h2, h3⟩ := indexAt_X hv 31 _ Try.underlying31 Try.sizeREnt i hi
  refine ⟨b, o, h1, h2, ?_, ?_⟩
  · have := h3 0 (by decide)
    rw [row_get ren_len he 0 (by decide)] at this
    exact this
  · have := h3 1 (by decide)
    rw [row_get ren_len he 1 (by decide)] at this
    exact this
theorem str_ne {a b : ByteArray} (h : a ≠ b) : (a.toList == b.toList) = false := by
  rw [ByteArray.toList_eq, ByteArray.toList_eq, beq_eq_false_iff_ne]
  exact fun e => h (ByteArray.ext (Array.toList_inj.1 e))
theorem tfind_skip {l : Tbl} {n : ByteArray} {i : Nat} (h : ∀ j e, j < i → l[j]? = some e → e.1 ≠ n) : tfind l n = tfind (l.drop i) n := by
  induction i generalizing l with
  | zero => rfl
  | succ i ih =>
    cases l with
    | nil => rfl
    | cons x r =>
      rw [List.drop_succ_cons, ← ih (fun j e hj he => h (j + 1) e (by omega) (by simpa using he))]
      have := h 0 x (by omega) rfl
      simp [tfind, this]
/-- The file's number, or -1. -/
def fnum (o : Option Nat) : Int := match o with | some k => (k : Int) | none => -1

set_option maxHeartbeats 1000000 in
theorem rfind_any (v : Value) (l : Tbl) (n : ByteArray) (w : World) (hv : IsN w v l) (hl : l.length ≤ 1048576) :
    Calls Try.prog 30 #[v, .string n] w fun e w' => e = .returned (.int .i64 (fnum (tfind l n))) ∧ w = w' := by
  obtain ⟨N, hN⟩ : ∃ N, l.length = N := ⟨_, rfl⟩
  have hlen := fun W => len_X (P := Try.prog) hv 31 3 _ Try.underlying31 W
  rw [hN] at hlen hl
  obtain ⟨r, hr⟩ : ∃ r, tfind l n = r := ⟨_, rfl⟩
  rw [hr]
  have HV := Lib.hid hv
  have HN := Lib.hid hN
  have HR := Lib.hid hr
  clear hv hN hr
  go_enter Try.func30, Try.ntmps30
  go_wp2
  go_loop [5] (fun c => ∃ k : Nat, k ≤ N ∧ c = .int .i64 k ∧ Hid (∀ j e, j < k → l[j]? = some e → e.1 ≠ n)) (fun c => N - (intOf c).toNat)
  case atStart => exact ⟨0, Nat.zero_le _, rfl, Lib.hid (fun i a h => absurd h (Nat.not_lt_zero _))⟩
  case round =>
    obtain ⟨k, hk, rfl, hK⟩ := hrel
    by_cases hlt : k < N
    · obtain ⟨e, he⟩ : ∃ e, l[k]? = some e := ⟨_, List.getElem?_eq_getElem (by rw [HN.out]; omega)⟩
      obtain ⟨b, o, hidx, hob, c0, c1⟩ := indexAt_N HV.out he
      have HE := Lib.hid he
      clear he hob
      by_cases hen : e.1 = n
      · have hrr : r = some e.2 := by
          rw [← HR.out, tfind_skip hK.out, List.drop_eq_getElem_cons (by rw [HN.out]; omega), (List.getElem?_eq_some_iff.1 HE.out).2]
          simp [tfind, hen]
        subst hrr
        rw [hen] at c0
        go_wp2
        go_ret
        exact ⟨rfl, rfl⟩
      · have hen' := str_ne hen
        have HK := Lib.hid (show ∀ j e, j < k + 1 → l[j]? = some e → e.1 ≠ n from fun j e' hj hje => by
          by_cases h : j < k
          · exact hK.out j e' h hje
          · obtain rfl : j = k := by omega
            have := HE.out.symm.trans hje
            cases this
            exact hen)
        go_wp2
        go_round
        case rel => exact ⟨k + 1, by omega, by go_num, HK⟩
        case measure => simp [intOf]; omega
    · obtain rfl : k = N := by omega
      have hrr : r = none := by
        rw [← HR.out, tfind_skip hK.out, List.drop_of_length_le (by rw [HN.out]; exact Nat.le_refl _)]
        rfl
      subst hrr
      go_wp2
      go_ret
      exact ⟨rfl, rfl⟩

set_option maxHeartbeats 1000000 in
theorem rnamed_any (s : ByteArray) (w : World) (hs : s.size ≤ 9223372036854775807) :
    Calls Try.prog 49 #[.string s] w fun e w' => e = .returned (.bool (isNm s)) ∧ w = w' := by
  obtain ⟨r, hr⟩ : ∃ r, isNm s = r := ⟨_, rfl⟩
  rw [hr]
  have HR := Lib.hid hr
  have HA := Lib.hid (show isNm s = (decide (1 ≤ s.size ∧ s.size ≤ 32) && s.data.toList.all okB) from rfl)
  clear hr
  go_enter Try.func49, Try.ntmps49
  go_wp2
  go_loop [3] (fun c => ∃ k : Nat, k ≤ s.size ∧ c = .int .i64 k ∧ Hid ((s.data.toList.take k).all okB = true)) (fun c => s.size - (intOf c).toNat)
  case atStart => exact ⟨0, Nat.zero_le _, rfl, Lib.hid rfl⟩
  case round =>
    obtain ⟨k, hk, rfl, hK⟩ := hrel
    by_cases hlt : k < s.size
    · by_cases hok : 97 ≤ s[k].toNat ∧ s[k].toNat ≤ 122 ∨ 48 ≤ s[k].toNat ∧ s[k].toNat ≤ 57 ∨ s[k].toNat = 46
      · have HN := Lib.hid (show (s.data.toList.take (k + 1)).all okB = true from by rw [take_all s k hlt, hK.out, (okB_iff _).2 hok]; rfl)
        rcases hok with hok | hok | hok
        all_goals
          go_wp2
          go_round
          case rel => exact ⟨k + 1, by omega, by go_num, HN⟩
          case measure => simp [intOf]; omega
      · obtain rfl : r = false := by
          rw [← HR.out, HA.out, all_false hlt (by
            cases hq : okB s[k] with
            | false => rfl
            | true => exact absurd ((okB_iff _).1 hq) hok), Bool.and_false]
        have hne1 : ((s[k].toNat : Int) == 46) = false := by
          have : s[k].toNat ≠ 46 := fun e => hok (.inr (.inr e))
          simp
          omega
        refine byte_cases s[k].toNat _ hok (fun a => ?_) (fun a => ?_) (fun a b => ?_) (fun a => ?_)
        · clear hok
          have d0 : decide ((97 : Int) ≤ (s[k].toNat : Int)) = false := by simp; omega
          have d1 : decide ((48 : Int) ≤ (s[k].toNat : Int)) = false := by simp; omega
          clear a
          go_wp2
          go_ret
          exact ⟨rfl, rfl⟩
        · clear hok
          have d0 : decide ((97 : Int) ≤ (s[k].toNat : Int)) = false := by simp; omega
          have d1 : decide ((48 : Int) ≤ (s[k].toNat : Int)) = false := by simp; omega
          clear a
          go_wp2
          go_ret
          exact ⟨rfl, rfl⟩
        · clear hok
          have d0 : decide ((97 : Int) ≤ (s[k].toNat : Int)) = false := by simp; omega
          have d1 : decide ((48 : Int) ≤ (s[k].toNat : Int)) = true := by simp; omega
          have d2 : decide ((s[k].toNat : Int) ≤ 57) = false := by simp; omega
          clear a b
          go_wp2
          go_ret
          exact ⟨rfl, rfl⟩
        · clear hok
          have d0 : decide ((97 : Int) ≤ (s[k].toNat : Int)) = true := by simp; omega
          have d1 : decide ((s[k].toNat : Int) ≤ 122) = false := by simp; omega
          have d2 : decide ((48 : Int) ≤ (s[k].toNat : Int)) = true := by simp; omega
          have d3 : decide ((s[k].toNat : Int) ≤ 57) = false := by simp; omega
          clear a
          go_wp2
          go_ret
          exact ⟨rfl, rfl⟩
    · obtain rfl : k = s.size := by omega
      have hall : s.data.toList.all okB = true := by
        have := hK.out
        rwa [List.take_of_length_le (by simp)] at this
      obtain rfl : r = decide (1 ≤ s.size ∧ s.size ≤ 32) := by rw [← HR.out, HA.out, hall, Bool.and_true]
      by_cases h1 : 1 ≤ s.size
      · by_cases h2 : s.size ≤ 32
        · have h1' : (1 : Int) ≤ (s.size : Int) := by omega
          have h2' : (s.size : Int) ≤ 32 := by omega
          go_wp2
          go_ret
          exact ⟨by simp [h1, h2], rfl⟩
        · have h1' : (1 : Int) ≤ (s.size : Int) := by omega
          have h2' : ¬ (s.size : Int) ≤ 32 := by omega
          go_wp2
          go_ret
          exact ⟨by simp [h1, h2], rfl⟩
      · have h1' : ¬ (1 : Int) ≤ (s.size : Int) := by omega
        go_wp2
        go_ret
        exact ⟨by simp [h1], rfl⟩

end Go.Proofs.Ytdapdlacpefbdaa
