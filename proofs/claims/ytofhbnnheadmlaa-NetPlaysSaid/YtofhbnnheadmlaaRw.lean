/- The document's net (layer 15) by contracts: Do of any act. -/
import Derived.Test.YtofhbnnheadmlaaRv
import Derived.Test.YtofhbnnheadmlaaRu
import Derived.Test.YtofhbnnheadmlaaRef14eF
import Derived.Test.YtofhbnnheadmlaaActN
set_option linter.unusedVariables false
set_option linter.unusedSimpArgs false
namespace Go.Proofs.Ytofhbnnheadmlaa
open Go.RowKit Go.Cor

/-- What an act leaves, and tells. -/
def doN (n : NetP) (kd i k : Int) (m : Msg) : NetP := if kd = 0 then sendN n m else if 4 ≤ kd then cutN n i k (kd == 4) else if kd = 1 then takeN n i else if kd = 2 then loseN n i else twiceN n i
def doK (n : NetP) (kd i k : Int) (m : Msg) : Nat := if kd = 0 then sendK n m else if 4 ≤ kd then cutK i k else if kd = 1 then takeK n i else if kd = 2 then peekK n i else twiceK n i
def doM (n : NetP) (kd i : Int) : Msg := if kd = 1 then takeM n i else mz
def dnet (l : List (Msg × Value)) (cs : List (Int × Int)) : NetP := ⟨l.map (·.1), cs⟩
def DoT (w : World) (L C : Value) (l : List (Msg × Value)) (cs : List (Int × Int)) (kd i k : Int) (m : Msg) (dv : Value) (e : Ending) (w' : World) : Prop :=
  ∃ (yl : Option Addr) (ml kl : Nat) (yc : Option Addr) (mc kc : Nat) (l' : List (Msg × Value)) (cs' : List (Int × Int)) (M : Msg) (wx : Option Addr) (wl wc : Nat),
    e = .returned (.tuple #[.agg #[.slice yl ml kl, .slice yc mc kc], mval M (.slice wx wl wc), .int .i64 (doK (dnet l cs) kd i k m : Nat)]) ∧ M = doM (dnet l cs) kd i ∧ l'.length = ml ∧ cs'.length = mc ∧ IsM w' (.slice yl ml kl) l' ∧ IsC w' (.slice yc mc kc) cs' ∧ dnet l' cs' = doN (dnet l cs) kd i k m ∧
    (∀ x ∈ l', x ∈ l ∨ x = (m, dv)) ∧ ((M, .slice wx wl wc) ∈ l ∨ (M = mz ∧ (.slice wx wl wc : Value) = .slice none 0 0)) ∧ (∀ b, liesX (.slice yl ml kl) ml b → liesX L l.length b ∨ w.heap.size ≤ b) ∧ (∀ b, liesX (.slice yc mc kc) mc b → liesX C cs.length b ∨ w.heap.size ≤ b) ∧ Below w.heap.size w w'
section
variable {w w' : World} {xl : Option Addr} {ll cl : Nat} {xc : Option Addr} {lc cc : Nat} {l : List (Msg × Value)} {cs : List (Int × Int)} {kd i k : Int} {m : Msg} {dv : Value}
/-- Nothing was done. -/
theorem DoT.same {K : Nat} (hl : l.length = ll) (hcl : cs.length = lc) (hM : IsM w (.slice xl ll cl) l) (hC : IsC w (.slice xc lc cc) cs) (hK : doK (dnet l cs) kd i k m = K) (hN : doN (dnet l cs) kd i k m = dnet l cs) (hMM : doM (dnet l cs) kd i = mz) (hb : Below w.heap.size w w') :
    DoT w (.slice xl ll cl) (.slice xc lc cc) l cs kd i k m dv (.returned (.tuple #[.agg #[.slice xl ll cl, .slice xc lc cc], mval mz (.slice none 0 0), .int .i64 (K : Nat)])) w' :=
  ⟨xl, ll, cl, xc, lc, cc, l, cs, mz, none, 0, 0, by rw [hK], hMM.symm, hl, hcl, hM.mono hb (Nat.le_refl _), IsX.mono hC hb (Nat.le_refl _), hN.symm, fun x hx => .inl hx, .inr ⟨rfl, rfl⟩, fun b h => .inl (by rw [hl]; exact h), fun b h => .inl (by rw [hcl]; exact h), hb⟩
end
theorem entry_of {w : World} {l : List (Msg × Value)} {v : Value} (h : IsM w v l) {i : Nat} (hi : i < l.length) : ∃ (x : Msg) (xm : Option Addr) (lm cm : Nat), l[i]? = some (x, .slice xm lm cm) ∧ IsB w (.slice xm lm cm) x.n.data := by
  obtain ⟨⟨x, xv⟩, hx⟩ : ∃ z, l[i]? = some z := ⟨_, List.getElem?_eq_getElem hi⟩
  have hB := (h.2 _ (List.mem_of_getElem? hx)).1
  obtain ⟨xm, cm, e, _, _⟩ := hB.at_len rfl
  have e : xv = .slice xm x.n.data.length cm := e
  subst e
  exact ⟨x, xm, _, cm, hx, hB⟩
theorem dnet_getD {l : List (Msg × Value)} {cs : List (Int × Int)} {i : Nat} {x : Msg} {xv : Value} (h : l[i]? = some (x, xv)) : (dnet l cs).l.getD i mz = x := by
  show (l.map (·.1)).getD i mz = x
  rw [List.getD_eq_getElem?_getD, List.getElem?_map, h]
  rfl
theorem dnet_len (l : List (Msg × Value)) (cs : List (Int × Int)) : (dnet l cs).l.length = l.length := List.length_map ..
set_option maxHeartbeats 1000000 in
theorem rdo_any (xl : Option Addr) (ll cl : Nat) (xc : Option Addr) (lc cc : Nat) (l : List (Msg × Value)) (cs : List (Int × Int)) (kd i k : Int) (m : Msg) (dx : Option Addr) (dl dc : Nat) (w : World) (hl : l.length = ll) (hlb : ll ≤ 4096) (hcl : cs.length = lc) (hclb : lc ≤ 1048576)
    (hM : IsM w (.slice xl ll cl) l) (hC : IsC w (.slice xc lc cc) cs) (hd : IsB w (.slice dx dl dc) m.n.data) (hdl : m.n.data.length ≤ 300) (hk0 : 0 ≤ kd) (hk5 : kd ≤ 5) :
    Calls Try.prog 9 #[.agg #[.slice xl ll cl, .slice xc lc cc], .agg #[.int .i64 kd, .int .i64 i, .int .i64 k, .int .i64 m.fr, .int .i64 m.to, .int .i64 m.kd, .int .i64 m.vo, .int .i64 m.li, .int .u64 (m.id : Int), .int .i64 m.co, .bool m.has, .int .u64 (m.n.key : Int), .int .u32 (m.n.cookie : Int), .bool m.n.gone, .slice dx dl dc]] w (DoT w (.slice xl ll cl) (.slice xc lc cc) l cs kd i k m (.slice dx dl dc)) := by
  have hlen : (dnet l cs).l.length = ll := (dnet_len l cs).trans hl
  by_cases h0 : kd = 0
  · subst h0
    have eK : doK (dnet l cs) 0 i k m = sendK (dnet l cs) m := if_pos rfl
    have eN : doN (dnet l cs) 0 i k m = sendN (dnet l cs) m := if_pos rfl
    have eM : doM (dnet l cs) 0 i = mz := if_neg (by decide)
    by_cases hc : mcheck m = 0
    · have hck : ∀ wx, Below w.heap.size w wx → Calls Try.prog 23 #[.agg #[.int .i64 m.fr, .int .i64 m.to, .int .i64 m.kd, .int .i64 m.vo, .int .i64 m.li, .int .u64 (m.id : Int), .int .i64 m.co, .bool m.has, .int .u64 (m.n.key : Int), .int .u32 (m.n.cookie : Int), .bool m.n.gone, .slice dx dl dc]] wx fun e w' => e = .returned (.int .i64 0) ∧ Below wx.heap.size wx w' := fun wx hb => by
        have h9 := rcheck_any m (.slice dx dl dc) wx (hd.mono hb (Nat.le_refl _)) (by omega)
        rw [hc] at h9
        exact h9
      by_cases hf : 4096 ≤ ll
      · have hs : sendK (dnet l cs) m = 11 := by unfold sendK; rw [if_pos hc, if_pos (by rw [hlen]; exact hf)]
        refine (rdo_full xl ll cl xc lc cc i k m.fr m.to m.kd m.vo m.li m.id m.co m.has m.n.key m.n.cookie m.n.gone dx dl dc w hf hck).mono ?_
        rintro e w' ⟨rfl, hb⟩
        exact DoT.same hl hcl hM hC (eK.trans hs) (eN.trans (by unfold sendN; rw [if_neg (by omega)])) eM hb
      · have hs : sendK (dnet l cs) m = 0 := by unfold sendK; rw [if_pos hc, if_neg (by rw [hlen]; exact hf)]
        refine (rdo_send xl ll cl xc lc cc i k m.fr m.to m.kd m.vo m.li m.id m.co m.has m.n.key m.n.cookie m.n.gone m.n.data dx dl dc l w hl hf hM hd hck).mono ?_
        rintro e w' ⟨y, kk, rfl, h1, h2, hb⟩
        refine ⟨y, ll + 1, kk, xc, lc, cc, l ++ [(m, .slice dx dl dc)], cs, mz, none, 0, 0, ?_, eM.symm, ?_, hcl, h1, IsX.mono hC hb (Nat.le_refl _), ?_, ?_, .inr ⟨rfl, rfl⟩, fun b h => .inr (h2 b h), fun b h => .inl (by rw [hcl]; exact h), hb⟩
        · rw [eK, hs]; rfl
        · rw [List.length_append, hl]; rfl
        · rw [eN]
          unfold sendN
          rw [if_pos hs]
          unfold dnet
          simp
        · intro x hx
          rcases List.mem_append.1 hx with h | h
          · exact .inl h
          · exact .inr (List.mem_singleton.1 h)
    · have hs : sendK (dnet l cs) m = mcheck m := by unfold sendK; rw [if_neg hc]
      refine (rdo_refused xl ll cl xc lc cc i k m.fr m.to m.kd m.vo m.li m.id m.co m.has m.n.key m.n.cookie m.n.gone dx dl dc (mcheck m) w hc (fun wx hb => rcheck_any m (.slice dx dl dc) wx (hd.mono hb (Nat.le_refl _)) (by omega))).mono ?_
      rintro e w' ⟨rfl, hb⟩
      exact DoT.same hl hcl hM hC (eK.trans hs) (eN.trans (by unfold sendN; rw [hs, if_neg hc])) eM hb
  by_cases h4 : 4 ≤ kd
  · have eK : doK (dnet l cs) kd i k m = cutK i k := by unfold doK; rw [if_neg h0, if_pos h4]
    have eN : doN (dnet l cs) kd i k m = cutN (dnet l cs) i k (kd == 4) := by unfold doN; rw [if_neg h0, if_pos h4]
    have eM : doM (dnet l cs) kd i = mz := if_neg (by omega)
    by_cases hr : 0 ≤ i ∧ i ≤ 255 ∧ 0 ≤ k ∧ k ≤ 255 ∧ i ≠ k
    · have hck : cutK i k = 0 := if_pos hr
      refine (rdo_cut xl ll cl xc lc cc kd i k m.fr m.to m.kd m.vo m.li m.id m.co m.has m.n.key m.n.cookie m.n.gone dx dl dc w cs h4 hr hcl hclb hC).mono ?_
      rintro e w' ⟨y, kk, rfl, h1, h2, hb⟩
      refine ⟨xl, ll, cl, y, _, kk, l, _, mz, none, 0, 0, ?_, eM.symm, hl, rfl, hM.mono hb (Nat.le_refl _), h1, ?_, fun x hx => .inl hx, .inr ⟨rfl, rfl⟩, fun b h => .inl (by rw [hl]; exact h), fun b h => .inr (h2 b h), hb⟩
      · rw [eK, hck]; rfl
      · rw [eN]
        unfold cutN
        rw [if_pos hck]
        rfl
    · have hck : cutK i k = 1 := if_neg hr
      refine (rdo_cut_bad xl ll cl xc lc cc kd i k m.fr m.to m.kd m.vo m.li m.id m.co m.has m.n.key m.n.cookie m.n.gone dx dl dc w h4 hr).mono ?_
      rintro e w' ⟨rfl, hb⟩
      exact DoT.same hl hcl hM hC (eK.trans hck) (eN.trans (by unfold cutN; rw [if_neg (by omega)])) eM hb
  have eKn : ¬ 4 ≤ kd := h4
  by_cases hr : 0 ≤ i ∧ i < (ll : Int)
  case neg =>
    have hp : peekK (dnet l cs) i = 6 := by unfold peekK; rw [if_neg (by rw [hlen]; omega)]
    refine (rdo_none xl ll cl xc lc cc kd i k m.fr m.to m.kd m.vo m.li m.id m.co m.has m.n.key m.n.cookie m.n.gone dx dl dc w h0 h4 hr).mono ?_
    rintro e w' ⟨rfl, hb⟩
    have hp0 : ¬ peekK (dnet l cs) i = 0 := by omega
    have ht : takeK (dnet l cs) i = 6 := by rw [takeK_peek, if_neg hp0]
    have hw : twiceK (dnet l cs) i = 6 := by unfold twiceK; rw [if_neg hp0]
    have hN1 : takeN (dnet l cs) i = dnet l cs := by unfold takeN; rw [if_neg (by rw [ht]; decide)]
    have hN2 : loseN (dnet l cs) i = dnet l cs := by unfold loseN; rw [if_neg hp0]
    have hN3 : twiceN (dnet l cs) i = dnet l cs := by unfold twiceN; rw [if_neg (by rw [hw]; decide)]
    have hM1 : takeM (dnet l cs) i = mz := by unfold takeM; rw [if_neg (by rw [ht]; decide)]
    refine DoT.same (K := 6) hl hcl hM hC ?_ ?_ ?_ hb
    · unfold doK
      rw [if_neg h0, if_neg h4, ht, hp, hw]
      (repeat' split) <;> rfl
    · unfold doN
      rw [if_neg h0, if_neg h4, hN1, hN2, hN3]
      (repeat' split) <;> rfl
    · unfold doM
      rw [hM1]
      split <;> rfl
  obtain ⟨j, rfl⟩ := Int.eq_ofNat_of_zero_le hr.1
  have hj : ((j : Int)).toNat = j := by omega
  have hjl : j < l.length := by omega
  obtain ⟨x, xm, lm, cm, hx, hxB⟩ := entry_of hM hjl
  have hp : peekK (dnet l cs) (j : Int) = 0 := by unfold peekK; rw [if_pos (by rw [hlen]; omega)]
  have hg : (dnet l cs).l.getD ((j : Int)).toNat mz = x := by rw [hj]; exact dnet_getD hx
  have hmem : (x, Value.slice xm lm cm) ∈ l := List.mem_of_getElem? hx
  have hel : (l.eraseIdx j).length = ll - 1 := by rw [List.length_eraseIdx, if_pos hjl, hl]
  have hed : dnet (l.eraseIdx j) cs = { dnet l cs with l := (dnet l cs).l.eraseIdx ((j : Int)).toNat } := by
    rw [hj]
    unfold dnet
    rw [List.eraseIdx_eq_take_drop_succ, List.eraseIdx_eq_take_drop_succ, List.map_append, List.map_take, List.map_drop]
  by_cases h1 : kd = 1
  · subst h1
    have eK : doK (dnet l cs) 1 j k m = takeK (dnet l cs) j := by unfold doK; rw [if_neg h0, if_neg h4, if_pos rfl]
    have eN : doN (dnet l cs) 1 j k m = takeN (dnet l cs) j := by unfold doN; rw [if_neg h0, if_neg h4, if_pos rfl]
    have eM : doM (dnet l cs) 1 j = takeM (dnet l cs) j := if_pos rfl
    have ht := takeK_peek (dnet l cs) (j : Int)
    rw [if_pos hp, hg] at ht
    cases hap : apartP cs x.fr x.to with
    | true =>
      have ht : takeK (dnet l cs) (j : Int) = 17 := by rw [ht, show (dnet l cs).c = cs from rfl, hap, if_pos rfl]
      refine (rdo_wait xl ll cl xc lc cc k j m.fr m.to m.kd m.vo m.li m.id m.co m.has m.n.key m.n.cookie m.n.gone dx dl dc l cs x.fr x.to x.kd x.vo x.li x.id x.co x.has x.n.key x.n.cookie x.n.gone x.n.data xm lm cm w hl hlb hM hcl (by omega) hC hx hap).mono ?_
      rintro e w' ⟨rfl, hb⟩
      exact DoT.same (K := 17) hl hcl hM hC (eK.trans ht) (eN.trans (by unfold takeN; rw [if_neg (by omega)])) (eM.trans (by unfold takeM; rw [if_neg (by omega)])) hb
    | false =>
      have ht : takeK (dnet l cs) (j : Int) = 0 := by rw [ht, show (dnet l cs).c = cs from rfl, hap, if_neg (by decide)]
      refine (rdo_take xl ll cl xc lc cc k j m.fr m.to m.kd m.vo m.li m.id m.co m.has m.n.key m.n.cookie m.n.gone dx dl dc l cs x.fr x.to x.kd x.vo x.li x.id x.co x.has x.n.key x.n.cookie x.n.gone x.n.data xm lm cm w hl hlb hM hcl (by omega) hC hx hap).mono ?_
      rintro e w' ⟨y, kk, rfl, h1, h2, hb⟩
      refine ⟨y, ll - 1, kk, xc, lc, cc, l.eraseIdx j, cs, x, xm, lm, cm, ?_, ?_, hel, hcl, h1, IsX.mono hC hb (Nat.le_refl _), ?_, fun x hx => .inl (List.mem_of_mem_eraseIdx hx), .inl hmem, fun b h => .inr (h2 b h), fun b h => .inl (by rw [hcl]; exact h), hb⟩
      · rw [eK, ht]; rfl
      · rw [eM]; unfold takeM; rw [if_pos ht, hg]
      · rw [eN, hed]; unfold takeN; rw [if_pos ht]
  by_cases h2 : kd = 2
  · subst h2
    have eK : doK (dnet l cs) 2 j k m = peekK (dnet l cs) j := by unfold doK; rw [if_neg h0, if_neg h4, if_neg h1, if_pos rfl]
    have eN : doN (dnet l cs) 2 j k m = loseN (dnet l cs) j := by unfold doN; rw [if_neg h0, if_neg h4, if_neg h1, if_pos rfl]
    have eM : doM (dnet l cs) 2 j = mz := if_neg h1
    refine (rdo_lose xl ll cl xc lc cc k j m.fr m.to m.kd m.vo m.li m.id m.co m.has m.n.key m.n.cookie m.n.gone dx dl dc l cs x.fr x.to x.kd x.vo x.li x.id x.co x.has x.n.key x.n.cookie x.n.gone x.n.data xm lm cm w hl hlb hM hcl (by omega) hC hx).mono ?_
    rintro e w' ⟨y, kk, rfl, h1, h2, hb⟩
    refine ⟨y, ll - 1, kk, xc, lc, cc, l.eraseIdx j, cs, mz, none, 0, 0, ?_, eM.symm, hel, hcl, h1, IsX.mono hC hb (Nat.le_refl _), ?_, fun x hx => .inl (List.mem_of_mem_eraseIdx hx), .inr ⟨rfl, rfl⟩, fun b h => .inr (h2 b h), fun b h => .inl (by rw [hcl]; exact h), hb⟩
    · rw [eK, hp]; rfl
    · rw [eN, hed]; unfold loseN; rw [if_pos hp]
  obtain rfl : kd = 3 := by omega
  have eK : doK (dnet l cs) 3 j k m = twiceK (dnet l cs) j := by unfold doK; rw [if_neg h0, if_neg h4, if_neg h1, if_neg h2]
  have eN : doN (dnet l cs) 3 j k m = twiceN (dnet l cs) j := by unfold doN; rw [if_neg h0, if_neg h4, if_neg h1, if_neg h2]
  have eM : doM (dnet l cs) 3 j = mz := if_neg h1
  by_cases hf : 4096 ≤ ll
  · have ht : twiceK (dnet l cs) (j : Int) = 11 := by unfold twiceK; rw [if_pos hp, if_pos (by rw [hlen]; exact hf)]
    refine (rdo_twice_full xl ll cl xc lc cc k j m.fr m.to m.kd m.vo m.li m.id m.co m.has m.n.key m.n.cookie m.n.gone dx dl dc l cs x.fr x.to x.kd x.vo x.li x.id x.co x.has x.n.key x.n.cookie x.n.gone x.n.data xm lm cm w hf hl hlb hM hcl (by omega) hC hx).mono ?_
    rintro e w' ⟨rfl, hb⟩
    exact DoT.same (K := 11) hl hcl hM hC (eK.trans ht) (eN.trans (by unfold twiceN; rw [if_neg (by omega)])) eM hb
  · have ht : twiceK (dnet l cs) (j : Int) = 0 := by unfold twiceK; rw [if_pos hp, if_neg (by rw [hlen]; exact hf)]
    refine (rdo_twice xl ll cl xc lc cc k j m.fr m.to m.kd m.vo m.li m.id m.co m.has m.n.key m.n.cookie m.n.gone dx dl dc l cs x.fr x.to x.kd x.vo x.li x.id x.co x.has x.n.key x.n.cookie x.n.gone x.n.data xm lm cm w hf hl hlb hM hcl (by omega) hC hx).mono ?_
    rintro e w' ⟨y, kk, rfl, h1, h2, hb⟩
    refine ⟨y, ll + 1, kk, xc, lc, cc, l ++ [(x, .slice xm lm cm)], cs, mz, none, 0, 0, ?_, eM.symm, ?_, hcl, h1, IsX.mono hC hb (Nat.le_refl _), ?_, ?_, .inr ⟨rfl, rfl⟩, fun b h => .inr (h2 b h), fun b h => .inl (by rw [hcl]; exact h), hb⟩
    · rw [eK, ht]; rfl
    · rw [List.length_append, hl]; rfl
    · rw [eN]
      unfold twiceN
      rw [if_pos ht, hg]
      unfold dnet
      simp
    · intro z hz
      rcases List.mem_append.1 hz with h | h
      · exact .inl h
      · rw [List.mem_singleton.1 h]; exact .inl hmem

end Go.Proofs.Ytofhbnnheadmlaa
