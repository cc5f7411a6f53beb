/- The laws' Far: by contract. -/
import Derived.Test.YtnofabeajcdddaaAct
import Derived.Lib.Hide
namespace Go.Proofs.Ytnofabeajcdddaa
open Go.RowKit Go.Cor

/-- No more than is looked at. -/
structure Ac.Near (a : Ac) : Prop where
  b : a.b.length ≤ 300
  name : a.name.size ≤ 60
  dst : a.dst.size ≤ 60
  pf : a.pf.length ≤ 100
  k0 : 0 ≤ a.kind
  k11 : a.kind ≤ 11
theorem Try.sizeActR : (Try.prog.info? 44).map (·.size) = some 8 := by kernel_rfl

set_option maxRecDepth 100000 in
set_option maxHeartbeats 4000000 in
theorem far_any (v : Value) (l : List Ac) (w : World) (hv : Acts w v l) :
    Calls Try.prog 9 #[v] w fun e w' => w = w' ∧ ((e = .returned (.bool true)) ∨ (e = .returned (.bool false) ∧ l.length ≤ 60 ∧ ∀ a ∈ l, a.Near)) := by
  obtain ⟨N, hN⟩ : ∃ N : Nat, l.length = N := ⟨_, rfl⟩
  have hlen := fun W => len_X (P := Try.prog) hv.is 22 3 _ Try.underlying22 W
  rw [hN] at hlen ⊢
  have HV := Lib.hid hv
  have HN := Lib.hid hN
  clear hv hN
  by_cases h60 : 60 < N
  · have h60' : (60 : Int) < (N : Int) := by omega
    go_enter Try.func9, Try.ntmps9
    go_wp2
    go_ret
    exact ⟨rfl, .inl rfl⟩
  have h60' : ¬ (60 : Int) < (N : Int) := by omega
  go_enter Try.func9, Try.ntmps9
  go_wp2
  go_loop [3] (fun c => ∃ k : Nat, k ≤ N ∧ c = .int .i64 k ∧ Hid (∀ i a, i < k → l[i]? = some a → a.Near)) (fun c => N - (intOf c).toNat)
  case atStart => exact ⟨0, Nat.zero_le _, rfl, Lib.hid (fun i a h => absurd h (Nat.not_lt_zero _))⟩
  case round =>
    obtain ⟨k, hk, rfl, hK⟩ := hrel
    by_cases hlt : k < N
    · obtain ⟨a, ha⟩ : ∃ a, l[k]? = some a := ⟨_, List.getElem?_eq_getElem (by rw [HN.out]; omega)⟩
      obtain ⟨g, o, hidx, hob, hc⟩ := indexAt_X HV.out.is 22 _ Try.underlying22 Try.sizeActR k (by rw [HN.out]; exact hlt)
      have hin := HV.out.each a (List.mem_of_getElem? ha)
      have e0 := hc 0 (by decide)
      have e1 := hc 1 (by decide)
      have e2 := hc 2 (by decide)
      have e3 := hc 3 (by decide)
      have e7 := hc 7 (by decide)
      rw [row_get acv_len ha _ (by decide)] at e0 e1 e2 e3 e7
      obtain ⟨ak, an, ad, abv, az, am, apn, apv, ab, apf⟩ := a
      have hlb := fun W => len_X (P := Try.prog) (isX_of_B hin.b) 37 3 _ Try.underlying37 W
      have hlp := fun W => len_X (P := Try.prog) hin.p 40 3 _ Try.underlying40 W
      simp only [acv, List.getElem?_cons_zero, List.getElem?_cons_succ, Nat.add_zero] at e0 e1 e2 e3 e7 hlb hlp
      obtain ⟨bn, hbn⟩ : ∃ n : Nat, ab.length = n := ⟨_, rfl⟩
      obtain ⟨pn, hpn⟩ : ∃ n : Nat, apf.length = n := ⟨_, rfl⟩
      rw [hbn] at hlb
      rw [hpn] at hlp
      have HA := Lib.hid ha
      have HBN := Lib.hid hbn
      have HPN := Lib.hid hpn
      clear ha hin hc hob hbn hpn
      by_cases c1 : 300 < bn
      · have c1x : (300 : Int) < (bn : Int) := by omega
        clear c1
        go_wp2
        go_ret
        exact ⟨rfl, .inl rfl⟩
      have c1x : ¬ (300 : Int) < (bn : Int) := by omega
      by_cases c2 : 60 < an.size
      · have c2x : (60 : Int) < (an.size : Int) := by omega
        clear c2
        go_wp2
        go_ret
        exact ⟨rfl, .inl rfl⟩
      have c2x : ¬ (60 : Int) < (an.size : Int) := by omega
      by_cases c3 : 60 < ad.size
      · have c3x : (60 : Int) < (ad.size : Int) := by omega
        clear c3
        go_wp2
        go_ret
        exact ⟨rfl, .inl rfl⟩
      have c3x : ¬ (60 : Int) < (ad.size : Int) := by omega
      by_cases c4 : 100 < pn
      · have c4x : (100 : Int) < (pn : Int) := by omega
        clear c4
        go_wp2
        go_ret
        exact ⟨rfl, .inl rfl⟩
      have c4x : ¬ (100 : Int) < (pn : Int) := by omega
      by_cases c5 : ak < 0
      · skip
        go_wp2
        go_ret
        exact ⟨rfl, .inl rfl⟩
      by_cases c6 : 11 < ak
      · skip
        go_wp2
        go_ret
        exact ⟨rfl, .inl rfl⟩
      have HK := Lib.hid (show ∀ i a, i < k + 1 → l[i]? = some a → a.Near from fun i a hi ha => by
        by_cases h : i < k
        · exact hK.out i a h ha
        · obtain rfl : i = k := by omega
          have := HA.out.symm.trans ha
          cases this
          have h1 := HBN.out
          have h2 := HPN.out
          exact ⟨by show ab.length ≤ 300; omega, by show an.size ≤ 60; omega, by show ad.size ≤ 60; omega, by show apf.length ≤ 100; omega, by show 0 ≤ ak; omega, by show ak ≤ 11; omega⟩)
      clear c1 c2 c3 c4
      go_wp2
      go_round
      case rel => exact ⟨k + 1, by omega, by go_num, HK⟩
      case measure => simp [intOf]; omega
    · obtain rfl : k = N := by omega
      go_wp2
      go_ret
      refine ⟨rfl, .inr ⟨rfl, by omega, fun a ha => ?_⟩⟩
      obtain ⟨i, hi⟩ := List.getElem?_of_mem ha
      exact hK.out i a (by have := (List.getElem?_eq_some_iff.1 hi).1; rw [HN.out] at this; omega) hi

end Go.Proofs.Ytnofabeajcdddaa
