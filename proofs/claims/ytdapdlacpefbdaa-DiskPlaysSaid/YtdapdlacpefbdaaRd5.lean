/- The document's disk: what turns something: by contract. -/
import Derived.Test.YtdapdlacpefbdaaRd4
namespace Go.Proofs.Ytdapdlacpefbdaa
open Go.RowKit Go.Cor

/-- What turns something; it isn't counted. -/
def ddeed (d : Dsk) (a : Ac) : Nat → Dsk × Nat
  | 0 => if isNm a.name = false then (d, 1) else if (tfind d.now a.name).isSome = true then (d, 8) else if 64 ≤ d.now.length then (d, 11) else (dturned { d with files := d.files ++ [⟨[], 0⟩] } ⟨noName, a.name, d.files.length⟩, 0)
  | 3 => (d.syncN, 0)
  | 4 => match tfind d.now a.name with | none => (d, 6) | some j => if isNm a.dst = false then (d, 1) else (dturned d ⟨a.name, a.dst, j⟩, 0)
  | 5 => match tfind d.now a.name with | none => (d, 6) | some _ => (dturned d ⟨a.name, noName, 0⟩, 0)
  | k => match tfind d.now a.name with | none => (d, 6) | some j => dwrite d a j k
def RdAt (w : World) (g : Nat) (L : RL) (R : Nat → Prop) (d : Dsk) (a : Ac) (k : Nat) (e : Ending) (w' : World) : Prop := e = .returned (.int .i64 ((ddeed d a k).2 : Int)) ∧ Rs w g L R (ddeed d a k).1 w'
/-- A file more. -/
theorem RAt.addFile {w w' : World} {g : Nat} {L : RL} {R : Nat → Prop} {d : Dsk} {v : Value} (h : RAt w g L R d) (hk : Kept (fun b => L.fil.ownBlock = some b) w w') (ho : w'.ownsRow 0 50 2 v (L.fps.length + 1) (row rfe L.fps ++ [.slice none 0 0, .int .i64 0])) (hv : v.ownBlock = L.fil.ownBlock ∨ ∃ b, v.ownBlock = some b ∧ w.heap.size ≤ b) :
    RAt (w'.setCell ⟨g, 4, none⟩ v) g { L with fil := v, fps := L.fps ++ [(⟨[], 0⟩, .slice none 0 0)] } R { d with files := d.files ++ [⟨[], 0⟩] } := by
  have hr := h.rest
  have hw := fun b (hb : L.fil.ownBlock = some b) (hR : R b) => (hr.rg b hR).2.1 hb
  have hvg : v.ownBlock ≠ some g := fun e => by
    rcases hv with h1 | ⟨b, h1, h2⟩
    · exact hr.fg (h1.symm.trans e)
    · have h3 := Option.some.inj (h1.symm.trans e); have h4 := h.box.lt; omega
  have hk2 : Kept (fun b => b = g ∨ L.fil.ownBlock = some b) w (w'.setCell ⟨g, 4, none⟩ v) := (hk.mono (fun _ _ h => .inr h)).setCell (p := ⟨g, 4, none⟩) (.inl (.inl rfl)) v
  have hn : ∀ b, R b → ¬ (b = g ∨ L.fil.ownBlock = some b) := fun b hR hb => by
    rcases hb with hb | hb
    · exact (hr.rg b hR).1 hb
    · exact hw b hb hR
  refine ⟨(h.box.kept hk hr.fg).set 4 v, hr.now.kept hk2 (fun b hb => hn b (hr.rnow b hb)), hr.las.kept hk2 (fun b hb => hn b (hr.rlas b hb)), hr.dee.kept hk2 (fun b hb => hn b (hr.rdee b hb)), ?_, ?_, fun p hp => ?_, hr.rnow, hr.rlas, hr.rdee, fun p hp b hb => ?_, fun b hb => ?_, hvg⟩
  · show (w'.setCell ⟨g, 4, none⟩ v).ownsRow 0 50 2 v (L.fps ++ [((⟨[], 0⟩ : Fil), Value.slice none 0 0)]).length (row rfe (L.fps ++ [((⟨[], 0⟩ : Fil), Value.slice none 0 0)]))
    rw [List.length_append, row_append, row_one]
    exact ownsRow_kept ho ((Kept.refl (fun b => b = g) w').setCell (p := ⟨g, 4, none⟩) (.inl rfl) v) (fun b hb e => hvg (by rw [← e]; exact hb))
  · show (L.fps ++ [((⟨[], 0⟩ : Fil), Value.slice none 0 0)]).map (·.1) = d.files ++ [⟨[], 0⟩]
    rw [List.map_append, hr.fps]
    rfl
  · rcases List.mem_append.1 hp with hp | hp
    · exact (hr.byt p hp).kept hk2 (fun b hb => hn b (hr.rbyt p hp b hb))
    · have e : p = (⟨[], 0⟩, .slice none 0 0) := by simpa using hp
      rw [e]; exact IsB.nil _
  · rcases List.mem_append.1 hp with hp | hp
    · exact hr.rbyt p hp b hb
    · have e : p = (⟨[], 0⟩, .slice none 0 0) := by simpa using hp
      rw [e] at hb
      exact absurd rfl hb.1
  · refine ⟨(hr.rg b hb).1, fun e => ?_, Nat.lt_of_lt_of_le (hr.rg b hb).2.2 hk2.size⟩
    rcases hv with h1 | ⟨c, h1, h2⟩
    · exact hw b (h1.symm.trans e) hb
    · have h3 := Option.some.inj (h1.symm.trans e); have := (hr.rg b hb).2.2; omega
theorem rturn_create (w : World) (g : Nat) (L : RL) (R : Nat → Prop) (d : Dsk) (k : Nat) (n : ByteArray) (f : Nat) (h : RAt w g L R d) (ok : d.Ok k) (hk : k ≤ 90000) (hn : n ≠ noName) :
    Calls Try.prog 50 #[.pointer (some ⟨g, 0, none⟩), .agg #[.int .i64 0, .string ⟨#[]⟩, .string n, .int .i64 (f : Int)]] w fun e w' => e = .returned (.tuple #[]) ∧ Rs w g L R (dturned d ⟨noName, n, f⟩) w' := by
  have h1 := rdeed_any w g L R d k ⟨noName, n, f⟩ h ok hk (fun _ => hn)
  have hk0 : kOf ⟨noName, n, f⟩ = 0 := (if_neg hn).trans (if_pos rfl)
  unfold rdv at h1
  rw [hk0] at h1
  exact h1
theorem rturn_rename (w : World) (g : Nat) (L : RL) (R : Nat → Prop) (d : Dsk) (k : Nat) (s n : ByteArray) (f : Nat) (h : RAt w g L R d) (ok : d.Ok k) (hk : k ≤ 90000) (hs : s ≠ noName) (hn : n ≠ noName) :
    Calls Try.prog 50 #[.pointer (some ⟨g, 0, none⟩), .agg #[.int .i64 1, .string s, .string n, .int .i64 (f : Int)]] w fun e w' => e = .returned (.tuple #[]) ∧ Rs w g L R (dturned d ⟨s, n, f⟩) w' := by
  have h1 := rdeed_any w g L R d k ⟨s, n, f⟩ h ok hk (fun e => absurd e hs)
  have hk0 : kOf ⟨s, n, f⟩ = 1 := (if_neg hn).trans (if_neg hs)
  unfold rdv at h1
  rw [hk0] at h1
  exact h1
theorem rturn_remove (w : World) (g : Nat) (L : RL) (R : Nat → Prop) (d : Dsk) (k : Nat) (s : ByteArray) (h : RAt w g L R d) (ok : d.Ok k) (hk : k ≤ 90000) (hs : s ≠ noName) :
    Calls Try.prog 50 #[.pointer (some ⟨g, 0, none⟩), .agg #[.int .i64 2, .string s, .string ⟨#[]⟩, .int .i64 0]] w fun e w' => e = .returned (.tuple #[]) ∧ Rs w g L R (dturned d ⟨s, noName, 0⟩) w' := by
  have h1 := rdeed_any w g L R d k ⟨s, noName, 0⟩ h ok hk (fun e => absurd e hs)
  have hk0 : kOf ⟨s, noName, 0⟩ = 2 := if_pos rfl
  unfold rdv at h1
  rw [hk0] at h1
  exact h1
theorem RAt.name {w : World} {g : Nat} {L : RL} {R : Nat → Prop} {d : Dsk} (h : RAt w g L R d) : ∃ x n c, L.now = .slice x n c := by
  obtain ⟨x, c, e, _, _⟩ := h.rest.now.slice
  exact ⟨x, _, c, e⟩

set_option maxRecDepth 100000 in
set_option maxHeartbeats 4000000 in
theorem rdd_0 (w : World) (g : Nat) (L : RL) (R : Nat → Prop) (d : Dsk) (kk : Nat) (a : Ac) (h : RAt w g L R d) (ok : d.Ok kk) (hk : kk + 1 ≤ 90000) (hi : a.In w) (hn : a.Near) :
    Calls Try.prog 29 #[.pointer (some ⟨g, 0, none⟩), actV 0 a.name a.dst a.bv a.n a.m a.pn a.pv] w (RdAt w g L R d a 0) := by
  obtain ⟨w0, hw0⟩ : ∃ w0, w0 = w.alloc (.cells (actCs 0 a) 44) := ⟨_, rfl⟩
  have hb0 : Below w.heap.size w w0 := by rw [hw0]; exact bel_alloc w _
  have hs0 : w0.heap.size = w.heap.size + 1 := by rw [hw0]; simp
  have hQ : Blk w0 w.heap.size (actCs 0 a) 44 := by rw [hw0]; exact Blk.new w _ _
  have hnl : d.now.length ≤ 90000 := by have h1 := ok.nowN; have h2 := ok.lenN; omega
  have hnm := hn.name
  have hds := hn.dst
  have HA0 := Lib.hid ((h.below hb0).below (Below.refl w0.heap.size w0).drew)
  have HB0 := Lib.hid (hb0.drew)
  have HS0 := Lib.hid hs0
  have HQ := Lib.hid (show Blk w0.drew w.heap.size (actCs 0 a) 44 from hQ)
  have HO := Lib.hid ok
  have HH := Lib.hid h
  have HI := Lib.hid hi
  have HNE := Lib.hid hn
  have hgl := h.box.lt
  have q0 : w0.drew.cell? ⟨w.heap.size, 0, none⟩ = some (.int .i64 0) := hQ.cell 0 rfl
  have q1 : w0.drew.cell? ⟨w.heap.size, 1, none⟩ = some (.string a.name) := hQ.cell 1 rfl
  have q2 : w0.drew.cell? ⟨w.heap.size, 2, none⟩ = some (.string a.dst) := hQ.cell 2 rfl
  have HRS := Lib.hid (show Rs w g L R d w0.drew from Rs.self h hb0.drew)
  have hlen := fun W => len_X (P := Try.prog) h.rest.now 31 3 _ Try.underlying31 W
  obtain ⟨c0, c1, c2, c3, c4, c5⟩ := HA0.out.facts
  have b1 : w0.cell? ⟨g, 1, none⟩ = some L.now := c1
  have b2 : w0.cell? ⟨w.heap.size, 1, none⟩ = some (.string a.name) := q1
  clear h hb0 hs0 hQ hi hn
  by_cases hnm : isNm a.name = false
  · have hres : ddeed d a 0 = (d, 1) := if_pos hnm
    unfold RdAt
    rw [hres]
    go_enter Try.func29, Try.ntmps29
    go_upto_region 1 with fail
    rw [← hw0]
    clear hw0
    go_still_tail 6, (by kernel_rfl)
    change wpList _ _ _ _ _ w0.drew
    go_wp2_with fail
    refine (rfind_any L.now d.now a.name _ HA0.out.rest.now (by omega)).mono ?_
    rintro e wf ⟨rfl, rfl⟩
    clear b1 b2
    go_wp2_with fail
    refine (rnamed_any a.name _ (by omega)).mono ?_
    rintro e wf ⟨rfl, rfl⟩
    rw [hnm]
    go_wp2
    go_ret
    exact ⟨rfl, HRS.out⟩
  have hnt : isNm a.name = true := by simpa using hnm
  cases hf : tfind d.now a.name with
  | some j =>
    have hres : ddeed d a 0 = (d, 8) := (if_neg hnm).trans (if_pos (by rw [hf]; rfl))
    unfold RdAt
    rw [hres]
    go_enter Try.func29, Try.ntmps29
    go_upto_region 1 with fail
    rw [← hw0]
    clear hw0
    go_still_tail 6, (by kernel_rfl)
    change wpList _ _ _ _ _ w0.drew
    go_wp2_with fail
    refine (rfind_any L.now d.now a.name _ HA0.out.rest.now (by omega)).mono ?_
    rintro e wf ⟨rfl, rfl⟩
    clear b1 b2
    go_wp2_with fail
    refine (rnamed_any a.name _ (by omega)).mono ?_
    rintro e wf ⟨rfl, rfl⟩
    rw [hnt, show fnum (some j) = (j : Int) from rfl]
    go_wp2
    go_ret
    exact ⟨rfl, HRS.out⟩
  | none =>
    have hno : ¬ (tfind d.now a.name).isSome = true := by rw [hf]; decide
    obtain ⟨NL, hNL⟩ : ∃ n, d.now.length = n := ⟨_, rfl⟩
    rw [hNL] at hlen
    by_cases h64 : 64 ≤ NL
    · have h64' : (64 : Int) ≤ (NL : Int) := by omega
      have hres : ddeed d a 0 = (d, 11) := (if_neg hnm).trans ((if_neg hno).trans (if_pos (by rw [hNL]; exact h64)))
      unfold RdAt
      rw [hres]
      go_enter Try.func29, Try.ntmps29
      go_upto_region 1 with fail
      rw [← hw0]
      clear hw0
      go_still_tail 6, (by kernel_rfl)
      change wpList _ _ _ _ _ w0.drew
      go_wp2_with fail
      refine (rfind_any L.now d.now a.name _ HA0.out.rest.now (by omega)).mono ?_
      rintro e wf ⟨rfl, rfl⟩
      clear b1 b2
      go_wp2_with fail
      refine (rnamed_any a.name _ (by omega)).mono ?_
      rintro e wf ⟨rfl, rfl⟩
      rw [hnt, show fnum none = -1 from rfl]
      go_wp2
      go_ret
      exact ⟨rfl, HRS.out⟩
    · have h64' : ¬ (64 : Int) ≤ (NL : Int) := by omega
      have hres : ddeed d a 0 = (dturned { d with files := d.files ++ [⟨[], 0⟩] } ⟨noName, a.name, d.files.length⟩, 0) := (if_neg hnm).trans ((if_neg hno).trans (if_neg (by rw [hNL]; exact h64)))
      unfold RdAt
      rw [hres]
      go_enter Try.func29, Try.ntmps29
      go_upto_region 1 with fail
      rw [← hw0]
      clear hw0
      go_still_tail 6, (by kernel_rfl)
      change wpList _ _ _ _ _ w0.drew
      go_wp2_with fail
      refine (rfind_any L.now d.now a.name _ HA0.out.rest.now (by omega)).mono ?_
      rintro e wf ⟨rfl, rfl⟩
      clear b1 b2
      go_wp2_with fail
      refine (rnamed_any a.name _ (by omega)).mono ?_
      rintro e wf ⟨rfl, rfl⟩
      rw [hnt, show fnum none = -1 from rfl]
      obtain ⟨ib, hib, hib0, hib1, hib2⟩ := info_parts Try.infoRFil
      obtain ⟨FL, hFL⟩ : ∃ n, L.fps.length = n := ⟨_, rfl⟩
      have hFF : FL = d.files.length := by rw [← hFL]; exact rfps_len HH.out.rest
      have hFk : FL ≤ 90000 := by rw [hFF]; have := HO.out.filN; omega
      have hfo := HA0.out.rest.fil
      rw [hFL] at hfo
      have HFO := Lib.hid hfo
      have HFL := Lib.hid hFL
      have HFF := Lib.hid hFF
      have HI := Lib.hid hib
      have HZ0 := Lib.hid hib0
      have HZ1 := Lib.hid hib1
      have HZ2 := Lib.hid hib2
      have HNT := Lib.hid hnt
      clear hib hib0 hib1 hib2 hfo hFL hFF hnm hnt
      go_wp2_with (at_builtin; refine wpList_append_X (by rfl) _ _ 33 33 rfl (fun _ _ _ => rfl) 0 50 ib _ 2 32 Try.underlying33 HI.out HZ0.out HZ1.out HZ2.out rfl (by decide) _ (row rfe L.fps) FL rfl (HFO.out.alloc _) _ 1 _ rfl (IsX.lit w0.drew #[.slice none 0 0, .int .i64 0] 50 2 1 rfl (by decide)) (by intro u hu; simp only [List.mem_cons, List.not_mem_nil, or_false] at hu; rcases hu with rfl | rfl <;> rfl) (by unfold maxLen; omega) (by omega) (Nat.zero_le _) ?_)
      intro v4 w4 hown4 hgr4 hat4
      obtain ⟨x4, z4, rfl, _, _⟩ := ownsRow_slice hown4
      have hkd := (Kept.refl (fun b => L.fil.ownBlock = some b) w0.drew)
      have HK4 := Lib.hid (show Kept (fun b => L.fil.ownBlock = some b) w0.drew w4 from (hkd.alloc _).grown hgr4 (fun k hk => .inl hk))
      have HF4 := Lib.hid (HA0.out.addFile HK4.out (by rw [HFL.out]; exact hown4) (hat4.imp id (fun h => ⟨_, h, by simp⟩)))
      have HL4 := Lib.hid (show ∀ b, (Value.slice x4 (FL + 1) z4).ownBlock = some b → L.fil.ownBlock = some b ∨ w.heap.size ≤ b from fun b hb => by
        rcases hat4 with h1 | h1
        · exact .inl (h1.symm.trans hb)
        · have h2 := Option.some.inj (h1.symm.trans hb)
          have h3 : w0.heap.size + 1 = b := h2
          have := HS0.out
          exact .inr (by omega))
      have HK5 := Lib.hid (show Kept (fun b => b = g ∨ L.fil.ownBlock = some b) w (w4.setCell ⟨g, 4, none⟩ (.slice x4 (FL + 1) z4)) from ((Kept.of_below (S := fun b => b = g ∨ L.fil.ownBlock = some b) HB0.out (Nat.le_refl _)).trans HK4.out (fun j hj _ => .inr hj)).setCell (p := ⟨g, 4, none⟩) (.inl (.inl rfl)) _)
      have HBOX := Lib.hid (HA0.out.box.kept HK4.out HA0.out.rest.fg)
      have HQ4 := Lib.hid ((HQ.out.kept HK4.out (fun e => by have h1 := (HH.out.rest.fil.lt _ e).2; omega)).other (a := ⟨g, 4, none⟩) (by show g ≠ w.heap.size; omega) (.slice x4 (FL + 1) z4))
      have m4 := HBOX.out.cell 4 (v := L.fil) rfl
      have m5 := HBOX.out.free 4
      obtain ⟨L4, hL4⟩ : ∃ L4, L4 = ({ L with fil := .slice x4 (FL + 1) z4, fps := L.fps ++ [(⟨[], 0⟩, .slice none 0 0)] } : RL) := ⟨_, rfl⟩
      rw [← hL4] at HF4
      have hL4f : L4.fil = .slice x4 (FL + 1) z4 := by rw [hL4]
      have HLF := Lib.hid hL4f
      clear hkd hown4 hgr4 hat4 hL4 hL4f c0 c1 c2 c3 c4 c5 q0 q1 q2
      have n4 := HF4.out.facts.2.2.2.2.1
      rw [HLF.out] at n4
      have n1 : (w4.setCell ⟨g, 4, none⟩ (.slice x4 (FL + 1) z4)).cell? ⟨w.heap.size, 1, none⟩ = some (.string a.name) := HQ4.out.cell 1 rfl
      have hlf := fun W => len_X (P := Try.prog) (show IsX (w4.setCell ⟨g, 4, none⟩ (.slice x4 (FL + 1) z4)) 2 (.slice x4 (FL + 1) z4) (FL + 1) (row rfe L4.fps) from by
        have h := IsX.own HF4.out.rest.fil
        have h2 : L4.fps.length = FL + 1 := by have h3 := rfps_len HF4.out.rest; rw [h3]; show (d.files ++ [_]).length = _; rw [List.length_append, HFF.out]; rfl
        rw [HLF.out, h2] at h
        exact h) 33 3 _ Try.underlying33 W
      have hsub : ((FL + 1 : Nat) : Int) - 1 = (FL : Int) := by omega
      go_upto_region 10 with fail
      obtain ⟨w5, hw5⟩ : ∃ w5, w5 = w4.setCell ⟨g, 4, none⟩ (.slice x4 (FL + 1) z4) := ⟨_, rfl⟩
      rw [← hw5] at HF4 HK5 HQ4 n4 n1 ⊢
      clear hw5 m4 m5
      go_still_tail 10, (by kernel_rfl)
      change wpList _ _ _ _ _ w5.drew
      go_wp2_with fail
      refine (rturn_create _ g L4 R { d with files := d.files ++ [⟨[], 0⟩] } (kk + 1) a.name FL (HF4.out.below (Below.refl _ _).drew) (Ok.addF HO.out) (by omega) (isNm_ne' HNT.out)).mono ?_
      rintro e wt ⟨rfl, hrs⟩
      have HRT := Lib.hid (Rs.trans HK5.out (fun b hb => .inl hb) (by rw [HLF.out]; exact HL4.out) (Rs.below (Below.refl _ _).drew hrs))
      clear hrs
      go_wp2
      go_ret
      exact ⟨rfl, by rw [← HFF.out]; exact HRT.out⟩

set_option maxRecDepth 100000 in
set_option maxHeartbeats 4000000 in
theorem rdd_3 (w : World) (g : Nat) (L : RL) (R : Nat → Prop) (d : Dsk) (kk : Nat) (a : Ac) (h : RAt w g L R d) (ok : d.Ok kk) (hk : kk + 1 ≤ 90000) (hi : a.In w) (hn : a.Near) :
    Calls Try.prog 29 #[.pointer (some ⟨g, 0, none⟩), actV 3 a.name a.dst a.bv a.n a.m a.pn a.pv] w (RdAt w g L R d a 3) := by
  obtain ⟨w0, hw0⟩ : ∃ w0, w0 = w.alloc (.cells (actCs 3 a) 44) := ⟨_, rfl⟩
  have hb0 : Below w.heap.size w w0 := by rw [hw0]; exact bel_alloc w _
  have hs0 : w0.heap.size = w.heap.size + 1 := by rw [hw0]; simp
  have hQ : Blk w0 w.heap.size (actCs 3 a) 44 := by rw [hw0]; exact Blk.new w _ _
  have hnl : d.now.length ≤ 90000 := by have h1 := ok.nowN; have h2 := ok.lenN; omega
  have hnm := hn.name
  have hds := hn.dst
  have HA0 := Lib.hid ((h.below hb0).below (Below.refl w0.heap.size w0).drew)
  have HB0 := Lib.hid (hb0.drew)
  have HS0 := Lib.hid hs0
  have HQ := Lib.hid (show Blk w0.drew w.heap.size (actCs 3 a) 44 from hQ)
  have HO := Lib.hid ok
  have HH := Lib.hid h
  have HI := Lib.hid hi
  have HNE := Lib.hid hn
  have hgl := h.box.lt
  have q0 : w0.drew.cell? ⟨w.heap.size, 0, none⟩ = some (.int .i64 3) := hQ.cell 0 rfl
  have q1 : w0.drew.cell? ⟨w.heap.size, 1, none⟩ = some (.string a.name) := hQ.cell 1 rfl
  have q2 : w0.drew.cell? ⟨w.heap.size, 2, none⟩ = some (.string a.dst) := hQ.cell 2 rfl
  have HRS := Lib.hid (show Rs w g L R d w0.drew from Rs.self h hb0.drew)
  have hlen := fun W => len_X (P := Try.prog) h.rest.now 31 3 _ Try.underlying31 W
  obtain ⟨c0, c1, c2, c3, c4, c5⟩ := HA0.out.facts
  have b1 : w0.cell? ⟨g, 1, none⟩ = some L.now := c1
  have b2 : w0.cell? ⟨w.heap.size, 1, none⟩ = some (.string a.name) := q1
  clear h hb0 hs0 hQ hi hn
  obtain ⟨xn, nn, zn, hnow⟩ := HH.out.name
  have HNOW := Lib.hid hnow
  have hb1 : w0.cell? ⟨g, 1, none⟩ = some (.slice xn nn zn) := by rw [← hnow]; exact b1
  have hc1 : w0.drew.cell? ⟨g, 1, none⟩ = some (.slice xn nn zn) := hb1
  have hf := fun W (h : IsN W L.now d.now) => rfind_any L.now d.now a.name W h (by omega)
  have HF := Lib.hid hf
  have hna := HA0.out.rest.now
  have HNA := Lib.hid hna
  have g2 : w0.drew.frozen? ⟨g, 2, none⟩ = false := HA0.out.box.free 2
  have g3 : w0.drew.frozen? ⟨g, 3, none⟩ = false := HA0.out.box.free 3
  have g2' : w0.frozen? ⟨g, 2, none⟩ = false := g2
  have g3' : w0.frozen? ⟨g, 3, none⟩ = false := g3
  have c2' : w0.cell? ⟨g, 2, none⟩ = some L.las := c2
  have c3' : w0.cell? ⟨g, 3, none⟩ = some L.dee := c3
  have HA2 := Lib.hid (HA0.out.setLas HA0.out.rest.now (fun b hb => ⟨(HA0.out.rest.rg b (HA0.out.rest.rnow b hb)).1, (HA0.out.rest.rg b (HA0.out.rest.rnow b hb)).2.1⟩))
  have HA3 := Lib.hid (HA2.out.setDee (v := .slice none 0 0) (t := []) (IsX.nil _ _) (fun b hb => absurd rfl hb.1))
  have HR3 := Lib.hid (show Rs w g L R d.syncN ((w0.drew.setCell ⟨g, 2, none⟩ L.now).setCell ⟨g, 3, none⟩ (.slice none 0 0)) from ⟨_, _, HA3.out, ((Kept.of_below (S := fun b => b = g ∨ L.fil.ownBlock = some b) HB0.out (Nat.le_refl _)).setCell (p := ⟨g, 2, none⟩) (.inl (.inl rfl)) _).setCell (p := ⟨g, 3, none⟩) (.inl (.inl rfl)) _, fun b hb => by
    rcases hb with hb | hb
    · rcases hb with hb | hb
      · exact .inl hb
      · exact .inl (HA0.out.rest.rnow b hb)
    · exact absurd rfl hb.1, fun b hb => .inl hb⟩)
  rw [hnow] at HR3
  clear b1 c1 hna hf
  have hres : ddeed d a 3 = (d.syncN, 0) := rfl
  unfold RdAt
  rw [hres]
  go_enter Try.func29, Try.ntmps29
  go_upto_region 1 with fail
  rw [← hw0]
  clear hw0
  go_still_tail 6, (by kernel_rfl)
  change wpList _ _ _ _ _ w0.drew
  go_wp2_with fail
  refine (show Calls _ _ #[.slice xn nn zn, .string a.name] _ _ from by have h := HF.out _ HNA.out; rw [HNOW.out] at h; exact h).mono ?_
  rintro e wf ⟨rfl, rfl⟩
  clear b2 hb1
  go_wp2
  go_ret
  exact ⟨rfl, HR3.out⟩

set_option maxRecDepth 100000 in
set_option maxHeartbeats 4000000 in
theorem rdd_1 (w : World) (g : Nat) (L : RL) (R : Nat → Prop) (d : Dsk) (kk : Nat) (a : Ac) (h : RAt w g L R d) (ok : d.Ok kk) (hk : kk + 1 ≤ 90000) (hi : a.In w) (hn : a.Near) :
    Calls Try.prog 29 #[.pointer (some ⟨g, 0, none⟩), actV 1 a.name a.dst a.bv a.n a.m a.pn a.pv] w (RdAt w g L R d a 1) := by
  obtain ⟨w0, hw0⟩ : ∃ w0, w0 = w.alloc (.cells (actCs 1 a) 44) := ⟨_, rfl⟩
  have hb0 : Below w.heap.size w w0 := by rw [hw0]; exact bel_alloc w _
  have hs0 : w0.heap.size = w.heap.size + 1 := by rw [hw0]; simp
  have hQ : Blk w0 w.heap.size (actCs 1 a) 44 := by rw [hw0]; exact Blk.new w _ _
  have hnl : d.now.length ≤ 90000 := by have h1 := ok.nowN; have h2 := ok.lenN; omega
  have hnm := hn.name
  have hds := hn.dst
  have HA0 := Lib.hid ((h.below hb0).below (Below.refl w0.heap.size w0).drew)
  have HB0 := Lib.hid (hb0.drew)
  have HS0 := Lib.hid hs0
  have HQ := Lib.hid (show Blk w0.drew w.heap.size (actCs 1 a) 44 from hQ)
  have HO := Lib.hid ok
  have HH := Lib.hid h
  have HI := Lib.hid hi
  have HNE := Lib.hid hn
  have hgl := h.box.lt
  have q0 : w0.drew.cell? ⟨w.heap.size, 0, none⟩ = some (.int .i64 1) := hQ.cell 0 rfl
  have q1 : w0.drew.cell? ⟨w.heap.size, 1, none⟩ = some (.string a.name) := hQ.cell 1 rfl
  have q2 : w0.drew.cell? ⟨w.heap.size, 2, none⟩ = some (.string a.dst) := hQ.cell 2 rfl
  have HRS := Lib.hid (show Rs w g L R d w0.drew from Rs.self h hb0.drew)
  have hlen := fun W => len_X (P := Try.prog) h.rest.now 31 3 _ Try.underlying31 W
  obtain ⟨c0, c1, c2, c3, c4, c5⟩ := HA0.out.facts
  have b1 : w0.cell? ⟨g, 1, none⟩ = some L.now := c1
  have b2 : w0.cell? ⟨w.heap.size, 1, none⟩ = some (.string a.name) := q1
  clear h hb0 hs0 hQ hi hn
  cases hf : tfind d.now a.name with
  | none =>
    have hres : ddeed d a 1 = (d, 6) := by simp only [ddeed, hf]
    unfold RdAt
    rw [hres]
    go_enter Try.func29, Try.ntmps29
    go_upto_region 1 with fail
    rw [← hw0]
    clear hw0
    go_still_tail 6, (by kernel_rfl)
    change wpList _ _ _ _ _ w0.drew
    go_wp2_with fail
    refine (rfind_any L.now d.now a.name _ HA0.out.rest.now (by omega)).mono ?_
    rintro e wf ⟨rfl, rfl⟩
    clear b1 b2
    rw [hf, show fnum none = -1 from rfl]
    go_wp2
    go_ret
    exact ⟨rfl, HRS.out⟩
  | some j =>
    have HFI := Lib.hid (Ok.file HO.out hf)
    have HIW := Lib.hid (HI.out.mono HB0.out (Nat.le_refl _))
    obtain ⟨q0, q1, q2, q3, q4, q5, q6, q7⟩ : w0.drew.cell? ⟨w.heap.size, 0, none⟩ = some (.int .i64 1) ∧ w0.drew.cell? ⟨w.heap.size, 1, none⟩ = some (.string a.name) ∧ w0.drew.cell? ⟨w.heap.size, 2, none⟩ = some (.string a.dst) ∧ w0.drew.cell? ⟨w.heap.size, 3, none⟩ = some a.bv ∧ w0.drew.cell? ⟨w.heap.size, 4, none⟩ = some (.int .i64 a.n) ∧ w0.drew.cell? ⟨w.heap.size, 5, none⟩ = some (.int .i64 a.m) ∧ w0.drew.cell? ⟨w.heap.size, 6, none⟩ = some (.int .i64 a.pn) ∧ w0.drew.cell? ⟨w.heap.size, 7, none⟩ = some a.pv := ⟨HQ.out.cell 0 rfl, HQ.out.cell 1 rfl, HQ.out.cell 2 rfl, HQ.out.cell 3 rfl, HQ.out.cell 4 rfl, HQ.out.cell 5 rfl, HQ.out.cell 6 rfl, HQ.out.cell 7 rfl⟩
    have hres : ddeed d a 1 = dwrite d a j 1 := by simp only [ddeed, hf]
    unfold RdAt
    rw [hres]
    go_enter Try.func29, Try.ntmps29
    go_upto_region 1 with fail
    rw [← hw0]
    clear hw0
    go_still_tail 6, (by kernel_rfl)
    change wpList _ _ _ _ _ w0.drew
    go_wp2_with fail
    refine (rfind_any L.now d.now a.name _ HA0.out.rest.now (by omega)).mono ?_
    rintro e wf ⟨rfl, rfl⟩
    clear b1 b2
    rw [hf, show fnum (some j) = (j : Int) from rfl]
    go_wp2_with fail
    refine (rwrite_any _ g L R d kk a j 1 HA0.out HO.out (by omega) HFI.out.1 HIW.out HNE.out (by decide)).mono ?_
    rintro e wt ⟨rfl, hrs⟩
    have HRT := Lib.hid (Rs.below HB0.out hrs)
    clear hrs
    go_wp2
    go_ret
    exact ⟨rfl, HRT.out⟩

set_option maxRecDepth 100000 in
set_option maxHeartbeats 4000000 in
theorem rdd_2 (w : World) (g : Nat) (L : RL) (R : Nat → Prop) (d : Dsk) (kk : Nat) (a : Ac) (h : RAt w g L R d) (ok : d.Ok kk) (hk : kk + 1 ≤ 90000) (hi : a.In w) (hn : a.Near) :
    Calls Try.prog 29 #[.pointer (some ⟨g, 0, none⟩), actV 2 a.name a.dst a.bv a.n a.m a.pn a.pv] w (RdAt w g L R d a 2) := by
  obtain ⟨w0, hw0⟩ : ∃ w0, w0 = w.alloc (.cells (actCs 2 a) 44) := ⟨_, rfl⟩
  have hb0 : Below w.heap.size w w0 := by rw [hw0]; exact bel_alloc w _
  have hs0 : w0.heap.size = w.heap.size + 1 := by rw [hw0]; simp
  have hQ : Blk w0 w.heap.size (actCs 2 a) 44 := by rw [hw0]; exact Blk.new w _ _
  have hnl : d.now.length ≤ 90000 := by have h1 := ok.nowN; have h2 := ok.lenN; omega
  have hnm := hn.name
  have hds := hn.dst
  have HA0 := Lib.hid ((h.below hb0).below (Below.refl w0.heap.size w0).drew)
  have HB0 := Lib.hid (hb0.drew)
  have HS0 := Lib.hid hs0
  have HQ := Lib.hid (show Blk w0.drew w.heap.size (actCs 2 a) 44 from hQ)
  have HO := Lib.hid ok
  have HH := Lib.hid h
  have HI := Lib.hid hi
  have HNE := Lib.hid hn
  have hgl := h.box.lt
  have q0 : w0.drew.cell? ⟨w.heap.size, 0, none⟩ = some (.int .i64 2) := hQ.cell 0 rfl
  have q1 : w0.drew.cell? ⟨w.heap.size, 1, none⟩ = some (.string a.name) := hQ.cell 1 rfl
  have q2 : w0.drew.cell? ⟨w.heap.size, 2, none⟩ = some (.string a.dst) := hQ.cell 2 rfl
  have HRS := Lib.hid (show Rs w g L R d w0.drew from Rs.self h hb0.drew)
  have hlen := fun W => len_X (P := Try.prog) h.rest.now 31 3 _ Try.underlying31 W
  obtain ⟨c0, c1, c2, c3, c4, c5⟩ := HA0.out.facts
  have b1 : w0.cell? ⟨g, 1, none⟩ = some L.now := c1
  have b2 : w0.cell? ⟨w.heap.size, 1, none⟩ = some (.string a.name) := q1
  clear h hb0 hs0 hQ hi hn
  cases hf : tfind d.now a.name with
  | none =>
    have hres : ddeed d a 2 = (d, 6) := by simp only [ddeed, hf]
    unfold RdAt
    rw [hres]
    go_enter Try.func29, Try.ntmps29
    go_upto_region 1 with fail
    rw [← hw0]
    clear hw0
    go_still_tail 6, (by kernel_rfl)
    change wpList _ _ _ _ _ w0.drew
    go_wp2_with fail
    refine (rfind_any L.now d.now a.name _ HA0.out.rest.now (by omega)).mono ?_
    rintro e wf ⟨rfl, rfl⟩
    clear b1 b2
    rw [hf, show fnum none = -1 from rfl]
    go_wp2
    go_ret
    exact ⟨rfl, HRS.out⟩
  | some j =>
    have HFI := Lib.hid (Ok.file HO.out hf)
    have HIW := Lib.hid (HI.out.mono HB0.out (Nat.le_refl _))
    obtain ⟨q0, q1, q2, q3, q4, q5, q6, q7⟩ : w0.drew.cell? ⟨w.heap.size, 0, none⟩ = some (.int .i64 2) ∧ w0.drew.cell? ⟨w.heap.size, 1, none⟩ = some (.string a.name) ∧ w0.drew.cell? ⟨w.heap.size, 2, none⟩ = some (.string a.dst) ∧ w0.drew.cell? ⟨w.heap.size, 3, none⟩ = some a.bv ∧ w0.drew.cell? ⟨w.heap.size, 4, none⟩ = some (.int .i64 a.n) ∧ w0.drew.cell? ⟨w.heap.size, 5, none⟩ = some (.int .i64 a.m) ∧ w0.drew.cell? ⟨w.heap.size, 6, none⟩ = some (.int .i64 a.pn) ∧ w0.drew.cell? ⟨w.heap.size, 7, none⟩ = some a.pv := ⟨HQ.out.cell 0 rfl, HQ.out.cell 1 rfl, HQ.out.cell 2 rfl, HQ.out.cell 3 rfl, HQ.out.cell 4 rfl, HQ.out.cell 5 rfl, HQ.out.cell 6 rfl, HQ.out.cell 7 rfl⟩
    have hres : ddeed d a 2 = dwrite d a j 2 := by simp only [ddeed, hf]
    unfold RdAt
    rw [hres]
    go_enter Try.func29, Try.ntmps29
    go_upto_region 1 with fail
    rw [← hw0]
    clear hw0
    go_still_tail 6, (by kernel_rfl)
    change wpList _ _ _ _ _ w0.drew
    go_wp2_with fail
    refine (rfind_any L.now d.now a.name _ HA0.out.rest.now (by omega)).mono ?_
    rintro e wf ⟨rfl, rfl⟩
    clear b1 b2
    rw [hf, show fnum (some j) = (j : Int) from rfl]
    go_wp2_with fail
    refine (rwrite_any _ g L R d kk a j 2 HA0.out HO.out (by omega) HFI.out.1 HIW.out HNE.out (by decide)).mono ?_
    rintro e wt ⟨rfl, hrs⟩
    have HRT := Lib.hid (Rs.below HB0.out hrs)
    clear hrs
    go_wp2
    go_ret
    exact ⟨rfl, HRT.out⟩

set_option maxRecDepth 100000 in
set_option maxHeartbeats 4000000 in
theorem rdd_6 (w : World) (g : Nat) (L : RL) (R : Nat → Prop) (d : Dsk) (kk : Nat) (a : Ac) (h : RAt w g L R d) (ok : d.Ok kk) (hk : kk + 1 ≤ 90000) (hi : a.In w) (hn : a.Near) :
    Calls Try.prog 29 #[.pointer (some ⟨g, 0, none⟩), actV 6 a.name a.dst a.bv a.n a.m a.pn a.pv] w (RdAt w g L R d a 6) := by
  obtain ⟨w0, hw0⟩ : ∃ w0, w0 = w.alloc (.cells (actCs 6 a) 44) := ⟨_, rfl⟩
  have hb0 : Below w.heap.size w w0 := by rw [hw0]; exact bel_alloc w _
  have hs0 : w0.heap.size = w.heap.size + 1 := by rw [hw0]; simp
  have hQ : Blk w0 w.heap.size (actCs 6 a) 44 := by rw [hw0]; exact Blk.new w _ _
  have hnl : d.now.length ≤ 90000 := by have h1 := ok.nowN; have h2 := ok.lenN; omega
  have hnm := hn.name
  have hds := hn.dst
  have HA0 := Lib.hid ((h.below hb0).below (Below.refl w0.heap.size w0).drew)
  have HB0 := Lib.hid (hb0.drew)
  have HS0 := Lib.hid hs0
  have HQ := Lib.hid (show Blk w0.drew w.heap.size (actCs 6 a) 44 from hQ)
  have HO := Lib.hid ok
  have HH := Lib.hid h
  have HI := Lib.hid hi
  have HNE := Lib.hid hn
  have hgl := h.box.lt
  have q0 : w0.drew.cell? ⟨w.heap.size, 0, none⟩ = some (.int .i64 6) := hQ.cell 0 rfl
  have q1 : w0.drew.cell? ⟨w.heap.size, 1, none⟩ = some (.string a.name) := hQ.cell 1 rfl
  have q2 : w0.drew.cell? ⟨w.heap.size, 2, none⟩ = some (.string a.dst) := hQ.cell 2 rfl
  have HRS := Lib.hid (show Rs w g L R d w0.drew from Rs.self h hb0.drew)
  have hlen := fun W => len_X (P := Try.prog) h.rest.now 31 3 _ Try.underlying31 W
  obtain ⟨c0, c1, c2, c3, c4, c5⟩ := HA0.out.facts
  have b1 : w0.cell? ⟨g, 1, none⟩ = some L.now := c1
  have b2 : w0.cell? ⟨w.heap.size, 1, none⟩ = some (.string a.name) := q1
  clear h hb0 hs0 hQ hi hn
  cases hf : tfind d.now a.name with
  | none =>
    have hres : ddeed d a 6 = (d, 6) := by simp only [ddeed, hf]
    unfold RdAt
    rw [hres]
    go_enter Try.func29, Try.ntmps29
    go_upto_region 1 with fail
    rw [← hw0]
    clear hw0
    go_still_tail 6, (by kernel_rfl)
    change wpList _ _ _ _ _ w0.drew
    go_wp2_with fail
    refine (rfind_any L.now d.now a.name _ HA0.out.rest.now (by omega)).mono ?_
    rintro e wf ⟨rfl, rfl⟩
    clear b1 b2
    rw [hf, show fnum none = -1 from rfl]
    go_wp2
    go_ret
    exact ⟨rfl, HRS.out⟩
  | some j =>
    have HFI := Lib.hid (Ok.file HO.out hf)
    have HIW := Lib.hid (HI.out.mono HB0.out (Nat.le_refl _))
    obtain ⟨q0, q1, q2, q3, q4, q5, q6, q7⟩ : w0.drew.cell? ⟨w.heap.size, 0, none⟩ = some (.int .i64 6) ∧ w0.drew.cell? ⟨w.heap.size, 1, none⟩ = some (.string a.name) ∧ w0.drew.cell? ⟨w.heap.size, 2, none⟩ = some (.string a.dst) ∧ w0.drew.cell? ⟨w.heap.size, 3, none⟩ = some a.bv ∧ w0.drew.cell? ⟨w.heap.size, 4, none⟩ = some (.int .i64 a.n) ∧ w0.drew.cell? ⟨w.heap.size, 5, none⟩ = some (.int .i64 a.m) ∧ w0.drew.cell? ⟨w.heap.size, 6, none⟩ = some (.int .i64 a.pn) ∧ w0.drew.cell? ⟨w.heap.size, 7, none⟩ = some a.pv := ⟨HQ.out.cell 0 rfl, HQ.out.cell 1 rfl, HQ.out.cell 2 rfl, HQ.out.cell 3 rfl, HQ.out.cell 4 rfl, HQ.out.cell 5 rfl, HQ.out.cell 6 rfl, HQ.out.cell 7 rfl⟩
    have hres : ddeed d a 6 = dwrite d a j 6 := by simp only [ddeed, hf]
    unfold RdAt
    rw [hres]
    go_enter Try.func29, Try.ntmps29
    go_upto_region 1 with fail
    rw [← hw0]
    clear hw0
    go_still_tail 6, (by kernel_rfl)
    change wpList _ _ _ _ _ w0.drew
    go_wp2_with fail
    refine (rfind_any L.now d.now a.name _ HA0.out.rest.now (by omega)).mono ?_
    rintro e wf ⟨rfl, rfl⟩
    clear b1 b2
    rw [hf, show fnum (some j) = (j : Int) from rfl]
    go_wp2_with fail
    refine (rwrite_any _ g L R d kk a j 6 HA0.out HO.out (by omega) HFI.out.1 HIW.out HNE.out (by decide)).mono ?_
    rintro e wt ⟨rfl, hrs⟩
    have HRT := Lib.hid (Rs.below HB0.out hrs)
    clear hrs
    go_wp2
    go_ret
    exact ⟨rfl, HRT.out⟩

set_option maxRecDepth 100000 in
set_option maxHeartbeats 4000000 in
theorem rdd_5 (w : World) (g : Nat) (L : RL) (R : Nat → Prop) (d : Dsk) (kk : Nat) (a : Ac) (h : RAt w g L R d) (ok : d.Ok kk) (hk : kk + 1 ≤ 90000) (hi : a.In w) (hn : a.Near) :
    Calls Try.prog 29 #[.pointer (some ⟨g, 0, none⟩), actV 5 a.name a.dst a.bv a.n a.m a.pn a.pv] w (RdAt w g L R d a 5) := by
  obtain ⟨w0, hw0⟩ : ∃ w0, w0 = w.alloc (.cells (actCs 5 a) 44) := ⟨_, rfl⟩
  have hb0 : Below w.heap.size w w0 := by rw [hw0]; exact bel_alloc w _
  have hs0 : w0.heap.size = w.heap.size + 1 := by rw [hw0]; simp
  have hQ : Blk w0 w.heap.size (actCs 5 a) 44 := by rw [hw0]; exact Blk.new w _ _
  have hnl : d.now.length ≤ 90000 := by have h1 := ok.nowN; have h2 := ok.lenN; omega
  have hnm := hn.name
  have hds := hn.dst
  have HA0 := Lib.hid ((h.below hb0).below (Below.refl w0.heap.size w0).drew)
  have HB0 := Lib.hid (hb0.drew)
  have HS0 := Lib.hid hs0
  have HQ := Lib.hid (show Blk w0.drew w.heap.size (actCs 5 a) 44 from hQ)
  have HO := Lib.hid ok
  have HH := Lib.hid h
  have HI := Lib.hid hi
  have HNE := Lib.hid hn
  have hgl := h.box.lt
  have q0 : w0.drew.cell? ⟨w.heap.size, 0, none⟩ = some (.int .i64 5) := hQ.cell 0 rfl
  have q1 : w0.drew.cell? ⟨w.heap.size, 1, none⟩ = some (.string a.name) := hQ.cell 1 rfl
  have q2 : w0.drew.cell? ⟨w.heap.size, 2, none⟩ = some (.string a.dst) := hQ.cell 2 rfl
  have HRS := Lib.hid (show Rs w g L R d w0.drew from Rs.self h hb0.drew)
  have hlen := fun W => len_X (P := Try.prog) h.rest.now 31 3 _ Try.underlying31 W
  obtain ⟨c0, c1, c2, c3, c4, c5⟩ := HA0.out.facts
  have b1 : w0.cell? ⟨g, 1, none⟩ = some L.now := c1
  have b2 : w0.cell? ⟨w.heap.size, 1, none⟩ = some (.string a.name) := q1
  clear h hb0 hs0 hQ hi hn
  cases hf : tfind d.now a.name with
  | none =>
    have hres : ddeed d a 5 = (d, 6) := by simp only [ddeed, hf]
    unfold RdAt
    rw [hres]
    go_enter Try.func29, Try.ntmps29
    go_upto_region 1 with fail
    rw [← hw0]
    clear hw0
    go_still_tail 6, (by kernel_rfl)
    change wpList _ _ _ _ _ w0.drew
    go_wp2_with fail
    refine (rfind_any L.now d.now a.name _ HA0.out.rest.now (by omega)).mono ?_
    rintro e wf ⟨rfl, rfl⟩
    clear b1 b2
    rw [hf, show fnum none = -1 from rfl]
    go_wp2
    go_ret
    exact ⟨rfl, HRS.out⟩
  | some j =>
    have HFI := Lib.hid (Ok.file HO.out hf)
    have hres : ddeed d a 5 = (dturned d ⟨a.name, noName, 0⟩, 0) := by simp only [ddeed, hf]
    unfold RdAt
    rw [hres]
    go_enter Try.func29, Try.ntmps29
    go_upto_region 1 with fail
    rw [← hw0]
    clear hw0
    go_still_tail 6, (by kernel_rfl)
    change wpList _ _ _ _ _ w0.drew
    go_wp2_with fail
    refine (rfind_any L.now d.now a.name _ HA0.out.rest.now (by omega)).mono ?_
    rintro e wf ⟨rfl, rfl⟩
    clear b1 b2
    rw [hf, show fnum (some j) = (j : Int) from rfl]
    go_wp2_with fail
    refine (rturn_remove _ g L R d kk a.name HA0.out HO.out (by omega) (isNm_ne' HFI.out.2)).mono ?_
    rintro e wt ⟨rfl, hrs⟩
    have HRT := Lib.hid (Rs.below HB0.out hrs)
    clear hrs
    go_wp2
    go_ret
    exact ⟨rfl, HRT.out⟩

set_option maxRecDepth 100000 in
set_option maxHeartbeats 4000000 in
theorem rdd_4 (w : World) (g : Nat) (L : RL) (R : Nat → Prop) (d : Dsk) (kk : Nat) (a : Ac) (h : RAt w g L R d) (ok : d.Ok kk) (hk : kk + 1 ≤ 90000) (hi : a.In w) (hn : a.Near) :
    Calls Try.prog 29 #[.pointer (some ⟨g, 0, none⟩), actV 4 a.name a.dst a.bv a.n a.m a.pn a.pv] w (RdAt w g L R d a 4) := by
  obtain ⟨w0, hw0⟩ : ∃ w0, w0 = w.alloc (.cells (actCs 4 a) 44) := ⟨_, rfl⟩
  have hb0 : Below w.heap.size w w0 := by rw [hw0]; exact bel_alloc w _
  have hs0 : w0.heap.size = w.heap.size + 1 := by rw [hw0]; simp
  have hQ : Blk w0 w.heap.size (actCs 4 a) 44 := by rw [hw0]; exact Blk.new w _ _
  have hnl : d.now.length ≤ 90000 := by have h1 := ok.nowN; have h2 := ok.lenN; omega
  have hnm := hn.name
  have hds := hn.dst
  have HA0 := Lib.hid ((h.below hb0).below (Below.refl w0.heap.size w0).drew)
  have HB0 := Lib.hid (hb0.drew)
  have HS0 := Lib.hid hs0
  have HQ := Lib.hid (show Blk w0.drew w.heap.size (actCs 4 a) 44 from hQ)
  have HO := Lib.hid ok
  have HH := Lib.hid h
  have HI := Lib.hid hi
  have HNE := Lib.hid hn
  have hgl := h.box.lt
  have q0 : w0.drew.cell? ⟨w.heap.size, 0, none⟩ = some (.int .i64 4) := hQ.cell 0 rfl
  have q1 : w0.drew.cell? ⟨w.heap.size, 1, none⟩ = some (.string a.name) := hQ.cell 1 rfl
  have q2 : w0.drew.cell? ⟨w.heap.size, 2, none⟩ = some (.string a.dst) := hQ.cell 2 rfl
  have HRS := Lib.hid (show Rs w g L R d w0.drew from Rs.self h hb0.drew)
  have hlen := fun W => len_X (P := Try.prog) h.rest.now 31 3 _ Try.underlying31 W
  obtain ⟨c0, c1, c2, c3, c4, c5⟩ := HA0.out.facts
  have b1 : w0.cell? ⟨g, 1, none⟩ = some L.now := c1
  have b2 : w0.cell? ⟨w.heap.size, 1, none⟩ = some (.string a.name) := q1
  clear h hb0 hs0 hQ hi hn
  cases hf : tfind d.now a.name with
  | none =>
    have hres : ddeed d a 4 = (d, 6) := by simp only [ddeed, hf]
    unfold RdAt
    rw [hres]
    go_enter Try.func29, Try.ntmps29
    go_upto_region 1 with fail
    rw [← hw0]
    clear hw0
    go_still_tail 6, (by kernel_rfl)
    change wpList _ _ _ _ _ w0.drew
    go_wp2_with fail
    refine (rfind_any L.now d.now a.name _ HA0.out.rest.now (by omega)).mono ?_
    rintro e wf ⟨rfl, rfl⟩
    clear b1 b2
    rw [hf, show fnum none = -1 from rfl]
    go_wp2
    go_ret
    exact ⟨rfl, HRS.out⟩
  | some j =>
    have HFI := Lib.hid (Ok.file HO.out hf)
    by_cases hnm : isNm a.dst = false
    · have hres : ddeed d a 4 = (d, 1) := by simp only [ddeed, hf]; exact if_pos hnm
      unfold RdAt
      rw [hres]
      go_enter Try.func29, Try.ntmps29
      go_upto_region 1 with fail
      rw [← hw0]
      clear hw0
      go_still_tail 6, (by kernel_rfl)
      change wpList _ _ _ _ _ w0.drew
      go_wp2_with fail
      refine (rfind_any L.now d.now a.name _ HA0.out.rest.now (by omega)).mono ?_
      rintro e wf ⟨rfl, rfl⟩
      clear b1 b2
      rw [hf, show fnum (some j) = (j : Int) from rfl]
      go_wp2_with fail
      refine (rnamed_any a.dst _ (by omega)).mono ?_
      rintro e wf ⟨rfl, rfl⟩
      rw [hnm]
      go_wp2
      go_ret
      exact ⟨rfl, HRS.out⟩
    · have hnt : isNm a.dst = true := by simpa using hnm
      have hres : ddeed d a 4 = (dturned d ⟨a.name, a.dst, j⟩, 0) := by simp only [ddeed, hf]; exact if_neg hnm
      unfold RdAt
      rw [hres]
      go_enter Try.func29, Try.ntmps29
      go_upto_region 1 with fail
      rw [← hw0]
      clear hw0
      go_still_tail 6, (by kernel_rfl)
      change wpList _ _ _ _ _ w0.drew
      go_wp2_with fail
      refine (rfind_any L.now d.now a.name _ HA0.out.rest.now (by omega)).mono ?_
      rintro e wf ⟨rfl, rfl⟩
      clear b1 b2
      rw [hf, show fnum (some j) = (j : Int) from rfl]
      go_wp2_with fail
      refine (rnamed_any a.dst _ (by omega)).mono ?_
      rintro e wf ⟨rfl, rfl⟩
      rw [hnt]
      go_wp2_with fail
      refine (rturn_rename _ g L R d kk a.name a.dst j HA0.out HO.out (by omega) (isNm_ne' HFI.out.2) (isNm_ne' hnt)).mono ?_
      rintro e wt ⟨rfl, hrs⟩
      have HRT := Lib.hid (Rs.below HB0.out hrs)
      clear hrs
      go_wp2
      go_ret
      exact ⟨rfl, HRT.out⟩

end Go.Proofs.Ytdapdlacpefbdaa
