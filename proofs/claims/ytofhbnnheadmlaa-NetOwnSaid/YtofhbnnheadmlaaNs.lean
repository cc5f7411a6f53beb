/- Package net by contracts: Lose, Twice, Send of a net as a plain value. -/
import Derived.Test.YtofhbnnheadmlaaNr
import Derived.Test.YtofhbnnheadmlaaWbn
set_option linter.unusedVariables false
set_option linter.unusedSimpArgs false
namespace Go.Proofs.Ytofhbnnheadmlaa
open Go.RowKit Go.Cor

theorem mbytes_le {m : Msg} (h : mcheck m = 0) : (mbytes m).length ≤ 5000 := by
  rw [length_mbytes, length_mbody]
  have h1 := length_nbytes m.n
  have h2 := padn_lt m.n.data.length
  split
  · rename_i h3
    have h4 := (ncheck_ok ((mcheck_ok h).2.1 h3)).1
    omega
  · omega
theorem NtT.same {w w' : World} {B g : Nat} {S : Nat → Prop} {n : NetP} {K : Nat} (h : Nt w B g S n K) (hb : Below w.heap.size w w') : NtT w B g S n K w' :=
  ⟨S, h.below hb, fun k hk => .inl hk, Kept.of_below hb (Nat.le_refl _)⟩
theorem NtT.made {w w' : World} {B g : Nat} {S : Nat → Prop} {n : NetP} {K : Nat} {n' : NetP} {K' : Nat} {pv pv' : Value} {ps ps' : List (Msg × Value)} {mv mv' : Value} (h : NtAt w g pv ps mv n.c K) (hS1 : ∀ k, nmem g pv ps mv k → S k) (hS2 : ∀ k, S k → B ≤ k ∧ k < w.heap.size)
    (hA : NtAt w' g pv' ps' mv' n'.c K') (hl : n'.l = ps'.map (·.1)) (hg : n'.good) (hm : ∀ k, nmem g pv' ps' mv' k → S k ∨ w.heap.size ≤ k) (hk : Kept S w w') : NtT w B g S n' K' w' := by
  refine ⟨nmem g pv' ps' mv', ⟨pv', ps', mv', hA, hl, hg, fun k hk => hk, fun k hk => ⟨?_, hA.lt hk⟩⟩, hm, hk⟩
  rcases hm k hk with h1 | h1
  · exact (hS2 k h1).1
  · have := hS2 g (hS1 g (.inl rfl)); omega
theorem nmem_erase {g : Nat} {pv pv' : Value} {ps : List (Msg × Value)} {mv : Value} {i k : Nat} (hpv : pv'.ownBlock = pv.ownBlock) (h : nmem g pv' (ps.eraseIdx i) mv k) : nmem g pv ps mv k := by
  rcases h with h | h | h | ⟨x, hx, h⟩
  · exact .inl h
  · exact .inr (.inl (hpv ▸ h))
  · exact .inr (.inr (.inl h))
  · exact .inr (.inr (.inr ⟨x, List.mem_of_mem_eraseIdx hx, h⟩))
theorem nlose_nil (i : Int) (w : World) :
    Calls Try.prog 13 #[.pointer none, .int .i64 i] w fun e w' => e = .returned (err 15) ∧ w = w' := by
  have HH := Lib.hid (nhas_nil i w)
  go_enter Try.func13, Try.ntmps13
  go_wp2_with fail
  refine HH.out.mono ?_
  rintro e w1 ⟨rfl, rfl⟩
  go_wp2
  go_ret
  exact ⟨rfl, rfl⟩
theorem nlose_any {B g : Nat} {S : Nat → Prop} {n : NetP} {K : Nat} (i : Int) (w : World) (h : Nt w B g S n K) :
    Calls Try.prog 13 #[.pointer (some ⟨g, 0, none⟩), .int .i64 i] w fun e w' => e = .returned (cerr (peekK n i)) ∧ NtT w B g S (loseN n i) K w' := by
  obtain ⟨pv, ps, mv, hA, hl, hgd, hS1, hS2⟩ := id h
  have hlen : n.l.length = ps.length := by rw [hl, List.length_map]
  have hh := nhas_at i w hA
  by_cases hp : 0 ≤ i ∧ i.toNat < ps.length
  · have hk : peekK n i = 0 := by unfold peekK; rw [if_pos (by rw [hlen]; exact hp)]
    rw [if_pos hp, cerr_0] at hh
    have hlo : loseN n i = { n with l := n.l.eraseIdx i.toNat } := by unfold loseN; rw [if_pos hk]
    rw [hk, cerr_0, hlo]
    obtain ⟨j, rfl⟩ := Int.eq_ofNat_of_zero_le hp.1
    have hj : ((j : Int)).toNat = j := by omega
    rw [hj] at hp ⊢
    have HH := Lib.hid hh
    have HD := Lib.hid (ndrop_at j w hA hp.2 (by rw [← hlen]; exact hgd.1))
    have HF := Lib.hid (fun (w' : World) (pv' : Value) (h1 : NtAt w' g pv' (ps.eraseIdx j) mv n.c K) (h2 : Kept (fun k => k = g ∨ pv.ownBlock = some k) w w') (h3 : pv'.ownBlock = pv.ownBlock) =>
      NtT.made (n' := { n with l := n.l.eraseIdx j }) hA hS1 hS2 h1 (by show n.l.eraseIdx j = _; rw [hl, List.eraseIdx_eq_take_drop_succ, List.eraseIdx_eq_take_drop_succ, List.map_append, List.map_take, List.map_drop]) (hgd.erase j) (fun k hk => .inl (hS1 k (nmem_erase h3 hk))) (h2.mono fun k _ e => hS1 k (e.imp id .inl)))
    clear hh h hA hl hgd hS1 hS2 hlen hk hlo hp hj
    go_enter Try.func13, Try.ntmps13
    go_wp2_with fail
    refine HH.out.mono ?_
    rintro e w1 ⟨rfl, rfl⟩
    go_wp2_with fail
    refine HD.out.mono ?_
    rintro e w2 ⟨rfl, pv', h1, h2, h3⟩
    have HZ := Lib.hid (HF.out w2 pv' h1 h2 h3)
    clear h1 h2 h3
    go_wp2
    go_ret
    exact ⟨rfl, HZ.out⟩
  · have hk : peekK n i = 6 := by unfold peekK; rw [if_neg (by rw [hlen]; exact hp)]
    rw [if_neg hp, cerr_pos (by decide)] at hh
    have hlo : loseN n i = n := by unfold loseN; rw [if_neg (by omega)]
    rw [hk, cerr_pos (by decide), hlo]
    have HH := Lib.hid hh
    have HZ := Lib.hid (NtT.same h (Below.refl _ w))
    clear hh h hA hl hgd hS1 hS2 hlen hk hlo hp
    go_enter Try.func13, Try.ntmps13
    go_wp2_with fail
    refine HH.out.mono ?_
    rintro e w1 ⟨rfl, rfl⟩
    go_wp2
    go_ret
    exact ⟨rfl, HZ.out⟩
theorem ntwice_nil (i : Int) (w : World) :
    Calls Try.prog 14 #[.pointer none, .int .i64 i] w fun e w' => e = .returned (err 15) ∧ w = w' := by
  have HH := Lib.hid (nhas_nil i w)
  go_enter Try.func14, Try.ntmps14
  go_wp2_with fail
  refine HH.out.mono ?_
  rintro e w1 ⟨rfl, rfl⟩
  go_wp2
  go_ret
  exact ⟨rfl, rfl⟩
/-- What a packet that is laid behind the others leaves. -/
theorem NtT.push {w w1 w2 : World} {B g : Nat} {S : Nat → Prop} {n : NetP} {K : Nat} {pv pv' u : Value} {ps : List (Msg × Value)} {mv : Value} {m : Msg} (hA : NtAt w g pv ps mv n.c K) (hl : n.l = ps.map (·.1)) (hgd : n.good) (hS1 : ∀ k, nmem g pv ps mv k → S k) (hS2 : ∀ k, S k → B ≤ k ∧ k < w.heap.size)
    (hfull : ¬ 4096 ≤ n.l.length) (hm : mcheck m = 0 ∧ m.n.fits ∧ m.id < 18446744073709551616) (hb : Below w.heap.size w w1) (hnew : ∀ k, liesB u (mbytes m) k → w.heap.size ≤ k)
    (h1 : NtAt w2 g pv' (ps ++ [(m, u)]) mv n.c K) (h2 : Kept (fun k => k = g ∨ pv.ownBlock = some k) w1 w2) (h3 : ∀ k, pv'.ownBlock = some k → pv.ownBlock = some k ∨ w1.heap.size ≤ k) : NtT w B g S { n with l := n.l ++ [m] } K w2 := by
  refine NtT.made (n' := { n with l := n.l ++ [m] }) hA hS1 hS2 h1 (by show n.l ++ [m] = _; rw [hl, List.map_append]; rfl) (hgd.snoc hfull hm) (fun k hk => ?_) ?_
  · have hs := hb.size
    rcases hk with h | h | h | ⟨x, hx, h⟩
    · exact .inl (hS1 k (.inl h))
    · rcases h3 k h with h4 | h4
      · exact .inl (hS1 k (.inr (.inl h4)))
      · exact .inr (by omega)
    · exact .inl (hS1 k (.inr (.inr (.inl h))))
    · rcases List.mem_append.1 hx with hx | hx
      · exact .inl (hS1 k (.inr (.inr (.inr ⟨x, hx, h⟩))))
      · rw [List.mem_singleton.1 hx] at h
        exact .inr (hnew k h)
  · exact (Kept.of_below (S := S) hb (Nat.le_refl _)).trans h2 (fun j e _ => hS1 j (e.imp id .inl))
set_option maxHeartbeats 1000000 in
theorem ntwice_any {B g : Nat} {S : Nat → Prop} {n : NetP} {K : Nat} (i : Int) (w : World) (h : Nt w B g S n K) :
    Calls Try.prog 14 #[.pointer (some ⟨g, 0, none⟩), .int .i64 i] w fun e w' => e = .returned (cerr (twiceK n i)) ∧ NtT w B g S (twiceN n i) K w' := by
  obtain ⟨pv, ps, mv, hA, hl, hgd, hS1, hS2⟩ := id h
  have hlen : n.l.length = ps.length := by rw [hl, List.length_map]
  have hh := nhas_at i w hA
  by_cases hp : 0 ≤ i ∧ i.toNat < ps.length
  · have hk : peekK n i = 0 := by unfold peekK; rw [if_pos (by rw [hlen]; exact hp)]
    rw [if_pos hp, cerr_0] at hh
    obtain ⟨j, rfl⟩ := Int.eq_ofNat_of_zero_le hp.1
    have hj : ((j : Int)).toNat = j := by omega
    rw [hj] at hp
    obtain ⟨⟨m, u⟩, hx⟩ : ∃ x, ps[j]? = some x := ⟨_, List.getElem?_eq_getElem hp.2⟩
    have hgm := hgd.sub (i := j) (by rw [hlen]; exact hp.2)
    have hmj : n.l.getD j mz = m := by rw [hl, List.getD_eq_getElem?_getD, List.getElem?_map, hx]; rfl
    rw [hmj] at hgm
    have k0 : w.cell? ⟨g, 0, none⟩ = some pv := hA.nblk.cell 0 rfl
    obtain ⟨b, o, hidx, _, hcell⟩ := indexAt_X hA.isX 63 26 Try.underlying63 Try.sizeBs j hp.2
    have k1 : w.cell? ⟨b, o, none⟩ = some u := by
      have := hcell 0 (by decide)
      rw [row_get pkc_len hx 0 (by decide)] at this
      simpa [pkc] using this
    obtain ⟨hu, hu1, _⟩ := hA.npk (m, u) (List.mem_of_getElem? hx)
    obtain ⟨L, hL⟩ : ∃ L, (mbytes m).length = L := ⟨_, rfl⟩
    have hlb := mbytes_le hgm.1
    have HC := Lib.hid (clone_S u (mbytes m) w L hu (by omega) hL)
    have HH := Lib.hid hh
    have HLT := Lib.hid (fun k (hk : nmem g pv ps mv k) => hA.lt hk)
    by_cases hf : 4096 ≤ n.l.length
    · have htk : twiceK n (j : Int) = 11 := by unfold twiceK; rw [if_pos hk, if_pos hf]
      have htn : twiceN n (j : Int) = n := by unfold twiceN; rw [if_neg (by omega)]
      rw [htk, htn, cerr_pos (by decide)]
      have HAD := Lib.hid (fun (w1 : World) (v : Value) (hb : Below w.heap.size w w1) => nadd_full v w1 (hA.below hb (Nat.le_refl _)) (by omega))
      have HZ := Lib.hid (fun (w1 : World) (hb : Below w.heap.size w w1) => NtT.same h hb)
      clear hh h hA hl hgd hS1 hS2 hlen hk hp hj hx hgm hmj hcell hu hL hlb htk htn hf HLT
      go_enter Try.func14, Try.ntmps14
      go_wp2_with fail
      refine HH.out.mono ?_
      rintro e w1 ⟨rfl, rfl⟩
      go_wp2_with fail
      refine HC.out.mono ?_
      rintro e w2 ⟨x, cp, rfl, hown2, hb2⟩
      have HB2 := Lib.hid hb2
      clear hown2 hb2
      go_wp2_with fail
      refine (HAD.out w2 _ HB2.out).mono ?_
      rintro e w3 ⟨rfl, rfl⟩
      go_wp2
      go_ret
      exact ⟨rfl, HZ.out _ HB2.out⟩
    · have htk : twiceK n (j : Int) = 0 := by unfold twiceK; rw [if_pos hk, if_neg hf]
      have htn : twiceN n (j : Int) = { n with l := n.l ++ [m] } := by unfold twiceN; rw [if_pos htk, hj, hmj]
      rw [htk, htn, cerr_0]
      have HAD := Lib.hid (fun (w1 : World) (x : Option Addr) (cp : Nat) (hb : Below w.heap.size w w1) (hu : IsB w1 (.slice x L cp) (mbytes m)) (hn : ∀ k, liesB (.slice x L cp) (mbytes m) k → w.heap.size ≤ k) =>
        nadd_ok x L cp m w1 (hA.below hb (Nat.le_refl _)) (by omega) hu (fun k hk => ⟨fun e => by have := HLT.out k (.inl e); have := hn k hk; omega, fun e => by have := HLT.out k (.inr (.inl e)); have := hn k hk; omega, fun e => by have := HLT.out k (.inr (.inr (.inl e))); have := hn k hk; omega⟩))
      have HZ := Lib.hid (fun (w1 w2 : World) (x : Option Addr) (cp : Nat) (pv' : Value) (hb : Below w.heap.size w w1) (hn : ∀ k, liesB (.slice x L cp) (mbytes m) k → w.heap.size ≤ k) h1 h2 h3 => NtT.push (w1 := w1) (w2 := w2) (pv' := pv') (u := .slice x L cp) hA hl hgd hS1 hS2 hf hgm hb hn h1 h2 h3)
      have HL := Lib.hid hL
      clear hh h hA hl hgd hS1 hS2 hlen hk hp hj hx hgm hmj hcell hu hL hlb htk htn hf HLT
      go_enter Try.func14, Try.ntmps14
      go_wp2_with fail
      refine HH.out.mono ?_
      rintro e w1 ⟨rfl, rfl⟩
      go_wp2_with fail
      refine HC.out.mono ?_
      rintro e w2 ⟨x, cp, rfl, hown2, hb2⟩
      have HB2 := Lib.hid hb2
      have HN2 := Lib.hid (show ∀ k, liesB (.slice x L cp) (mbytes m) k → w.heap.size ≤ k from fun k hk => (hown2.lt k hk.2).1)
      have HI2 := Lib.hid (IsB.own hown2 HL.out.symm)
      clear hown2 hb2
      go_wp2_with fail
      refine (HAD.out w2 x cp HB2.out HI2.out HN2.out).mono ?_
      rintro e w3 ⟨rfl, pv', h1, h2, h3⟩
      have HR := Lib.hid (HZ.out w2 w3 x cp pv' HB2.out HN2.out h1 h2 h3)
      clear h1 h2 h3
      go_wp2
      go_ret
      exact ⟨rfl, HR.out⟩
  · have hk : twiceK n i = 6 := by unfold twiceK peekK; rw [if_neg (show ¬ (0 ≤ i ∧ i.toNat < n.l.length) by rw [hlen]; exact hp), if_neg (by decide)]
    rw [if_neg hp, cerr_pos (by decide)] at hh
    have hlo : twiceN n i = n := by unfold twiceN; rw [if_neg (by omega)]
    rw [hk, cerr_pos (by decide), hlo]
    have HH := Lib.hid hh
    have HZ := Lib.hid (NtT.same h (Below.refl _ w))
    clear hh h hA hl hgd hS1 hS2 hlen hk hlo hp
    go_enter Try.func14, Try.ntmps14
    go_wp2_with fail
    refine HH.out.mono ?_
    rintro e w1 ⟨rfl, rfl⟩
    go_wp2
    go_ret
    exact ⟨rfl, HZ.out⟩

end Go.Proofs.Ytofhbnnheadmlaa
