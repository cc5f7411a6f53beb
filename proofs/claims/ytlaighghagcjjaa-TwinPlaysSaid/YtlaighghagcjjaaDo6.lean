/- Package dirs: an entry's bytes, a map's bytes. -/
import Derived.Test.YtlaighghagcjjaaDo5
namespace Go.Proofs.Ytlaighghagcjjaa
open Go.RowKit Go.Cor
set_option linter.unusedVariables false
set_option linter.unusedSimpArgs false

def nod3 (e : En) : List UInt8 := [UInt8.ofNat e.a, UInt8.ofNat e.b, UInt8.ofNat e.c]
def ben (e : En) : List UInt8 := le e.ep 4 ++ [UInt8.ofNat e.a, UInt8.ofNat e.b, UInt8.ofNat e.c, if e.sl then 1 else 0]
/-- A map's bytes. -/
def dby (L : List En) : List UInt8 := L.flatMap fun e => le e.ep 4 ++ [UInt8.ofNat e.a, UInt8.ofNat e.b, UInt8.ofNat e.c, if e.sl then 1 else 0]
theorem dput4 (n : Nat) (w : World) (hn : n ≤ 1000000) :
    Calls Try.prog 42 #[.slice none 0 0, .int .u64 n, .int .i64 4] w fun e w' =>
      ∃ v', e = .returned (.tuple #[v', .nilIface]) ∧ w'.ownsRow w.heap.size 5 1 v' 4 (bvs (le n 4)) ∧ Below w.heap.size w w' := by
  refine (put_ok (.slice none 0 0) [] n 4 w (by unfold Sized; simp) (Nat.le_trans hn (by decide)) (IsB.nil w) (by decide)).mono ?_
  rintro e w' ⟨v', h1, h2, h3⟩
  refine ⟨v', h1, ?_, h3⟩
  have h4 : ([] ++ le n 4 : List UInt8).length = 4 := length_le n 4
  rw [h4] at h2
  exact h2
theorem bv_of (a : Nat) : bv (UInt8.ofNat a) = .int .u8 ((a : Int) % 256) := by
  show Value.int .u8 (((UInt8.ofNat a).toNat : Nat) : Int) = _
  rw [UInt8.toNat_ofNat']
  simp
set_option maxRecDepth 100000 in
set_option maxHeartbeats 2000000 in
theorem dlaid (w : World) (e : En) (hE : e.ep ≤ 1000000) :
    Calls Try.prog 33 #[eval e] w fun r w' => ∃ v, r = .returned v ∧ w'.ownsRow w.heap.size 5 1 v (ben e).length (bvs (ben e)) ∧ Below w.heap.size w w' := by
  obtain ⟨i0, hi0, hz0, hz1, hz2⟩ := info_parts Try.infoU8
  have HI0 := Lib.hid hi0
  have HZ0 := Lib.hid hz0
  have HZ1 := Lib.hid hz1
  have HZ2 := Lib.hid hz2
  have HX := Lib.hid (et_new w e 77)
  have HXB := Lib.hid (Blk.new w #[.int .i64 (e.vol : Int), .int .i64 (e.ep : Int), .int .i64 (e.a : Int), .int .i64 (e.b : Int), .int .i64 (e.c : Int), .bool e.sl] 77)
  obtain ⟨W0, hW0⟩ : ∃ W0, w.alloc (.cells #[.int .i64 (e.vol : Int), .int .i64 (e.ep : Int), .int .i64 (e.a : Int), .int .i64 (e.b : Int), .int .i64 (e.c : Int), .bool e.sl] 77) = W0 := ⟨_, rfl⟩
  have HB0 := Lib.hid (show Below w.heap.size w W0 from hW0 ▸ below_new19 w _)
  rw [hW0] at HX HXB
  have HW0 := Lib.hid hW0
  have HP := Lib.hid (dput4 e.ep W0 hE)
  obtain ⟨j0, j1, j2⟩ := index_arr3 (P := Try.prog) 31 3 Try.underlying31 Try.underlying3 Try.sizeInt19 (e.a : Int) (e.b : Int) (e.c : Int)
  have hw64 : (e.ep : Int) % 18446744073709551616 = (e.ep : Int) := by omega
  obtain ⟨G, hG⟩ : ∃ G, w.heap.size = G := ⟨_, rfl⟩
  have x0 := HXB.out.cell 0 rfl
  have x1 := HXB.out.cell 1 rfl
  have x2 := HXB.out.cell 2 rfl
  have x3 := HXB.out.cell 3 rfl
  have x4 := HXB.out.cell 4 rfl
  have x5 := HXB.out.cell 5 rfl
  rw [hG] at HXB x0 x1 x2 x3 x4 x5
  have HG := Lib.hid hG
  have HGL := Lib.hid (show G < W0.heap.size from hG ▸ HX.out.lt)
  clear HX
  clear hi0 hz0 hz1 hz2 hW0
  unfold eval
  go_enter Try.func33, Try.ntmps33
  go_wp2_with fail
  rw [HW0.out]
  refine HP.out.mono ?_
  rintro r w1 ⟨v1, rfl, h1, hb1⟩
  have HO1 := Lib.hid h1
  have HB1 := Lib.hid hb1
  clear h1 hb1
  have HX1 := Lib.hid (HXB.out.below HB1.out HGL.out)
  clear x0 x1 x2 x3 x4 x5
  have x2 : w1.cell? ⟨G, 2, none⟩ = some (.int .i64 (e.a : Int)) := HX1.out.cell 2 rfl
  have x3 : w1.cell? ⟨G, 3, none⟩ = some (.int .i64 (e.b : Int)) := HX1.out.cell 3 rfl
  have x4 : w1.cell? ⟨G, 4, none⟩ = some (.int .i64 (e.c : Int)) := HX1.out.cell 4 rfl
  go_wp2_with fail
  go_loopw [3, 16] (fun o c wr => ∃ i : Nat, i ≤ 3 ∧ c = .int .i64 i ∧ wr.ownsRow W0.heap.size 5 1 o (4 + i) (bvs (le e.ep 4 ++ (nod3 e).take i)) ∧ Below W0.heap.size W0 wr) (fun _ c _ => 3 - (intOf c).toNat)
  case atStart => exact ⟨0, Nat.zero_le _, rfl, by simpa using HO1.out, HB1.out⟩
  case round =>
    obtain ⟨i, hi, rfl, hown, hb⟩ := hrel
    have HOR := Lib.hid hown
    have HBR := Lib.hid hb
    have HXR := Lib.hid (HXB.out.below hb HGL.out)
    clear hown hb x2 x3 x4
    obtain rfl | rfl | rfl | rfl : i = 0 ∨ i = 1 ∨ i = 2 ∨ i = 3 := by omega
    · have HL := Lib.hid (IsX.lit wr #[.int .u8 ((e.a : Int) % 256)] 5 1 1 rfl (by decide))
      have HOA := Lib.hid (ownsRow_below HOR.out (below_new19 wr (.cells #[.int .u8 ((e.a : Int) % 256)] 5)) (Nat.le_refl _))
      go_wp2_with (at_builtin; refine wpList_append_X (by rfl) _ _ 43 43 rfl (fun _ _ _ => rfl) W0.heap.size 5 i0 _ 1 1 Try.underlying43 HI0.out HZ0.out HZ1.out HZ2.out rfl (by decide) _ (bvs (le e.ep 4 ++ (nod3 e).take 0)) (4) rfl HOA.out _ 1 [.int .u8 ((e.a : Int) % 256)] rfl HL.out (by intro u hu; obtain rfl := List.mem_singleton.1 hu; rfl) (by unfold maxLen; omega) (by omega) (by have := HBR.out.size; simp; omega) ?_; intro v4 w4 hown4 hb4 hl4)
      have HO4 := Lib.hid (show w4.ownsRow W0.heap.size 5 1 v4 5 (bvs (le e.ep 4 ++ (nod3 e).take 1)) from by rw [show (nod3 e).take 1 = (nod3 e).take 0 ++ [UInt8.ofNat e.a] from rfl, ← List.append_assoc, bvs_append, bvs_cons, bvs_nil, bv_of]; exact hown4)
      have HB4 := Lib.hid ((HBR.out.alloc HBR.out.size (.cells #[.int .u8 ((e.a : Int) % 256)] 5)).grown hb4 (by have := HBR.out.size; simp; omega) (fun k hk => (HOA.out.lt k hk).1))
      clear hown4 hb4 hl4
      go_wp2
      go_roundw
      case rel => exact ⟨1, by omega, rfl, HO4.out, HB4.out⟩
      case measure => simp [intOf]
    · have HL := Lib.hid (IsX.lit wr #[.int .u8 ((e.b : Int) % 256)] 5 1 1 rfl (by decide))
      have HOA := Lib.hid (ownsRow_below HOR.out (below_new19 wr (.cells #[.int .u8 ((e.b : Int) % 256)] 5)) (Nat.le_refl _))
      go_wp2_with (at_builtin; refine wpList_append_X (by rfl) _ _ 43 43 rfl (fun _ _ _ => rfl) W0.heap.size 5 i0 _ 1 1 Try.underlying43 HI0.out HZ0.out HZ1.out HZ2.out rfl (by decide) _ (bvs (le e.ep 4 ++ (nod3 e).take 1)) (5) rfl HOA.out _ 1 [.int .u8 ((e.b : Int) % 256)] rfl HL.out (by intro u hu; obtain rfl := List.mem_singleton.1 hu; rfl) (by unfold maxLen; omega) (by omega) (by have := HBR.out.size; simp; omega) ?_; intro v4 w4 hown4 hb4 hl4)
      have HO4 := Lib.hid (show w4.ownsRow W0.heap.size 5 1 v4 6 (bvs (le e.ep 4 ++ (nod3 e).take 2)) from by rw [show (nod3 e).take 2 = (nod3 e).take 1 ++ [UInt8.ofNat e.b] from rfl, ← List.append_assoc, bvs_append, bvs_cons, bvs_nil, bv_of]; exact hown4)
      have HB4 := Lib.hid ((HBR.out.alloc HBR.out.size (.cells #[.int .u8 ((e.b : Int) % 256)] 5)).grown hb4 (by have := HBR.out.size; simp; omega) (fun k hk => (HOA.out.lt k hk).1))
      clear hown4 hb4 hl4
      go_wp2
      go_roundw
      case rel => exact ⟨2, by omega, rfl, HO4.out, HB4.out⟩
      case measure => simp [intOf]
    · have HL := Lib.hid (IsX.lit wr #[.int .u8 ((e.c : Int) % 256)] 5 1 1 rfl (by decide))
      have HOA := Lib.hid (ownsRow_below HOR.out (below_new19 wr (.cells #[.int .u8 ((e.c : Int) % 256)] 5)) (Nat.le_refl _))
      go_wp2_with (at_builtin; refine wpList_append_X (by rfl) _ _ 43 43 rfl (fun _ _ _ => rfl) W0.heap.size 5 i0 _ 1 1 Try.underlying43 HI0.out HZ0.out HZ1.out HZ2.out rfl (by decide) _ (bvs (le e.ep 4 ++ (nod3 e).take 2)) (6) rfl HOA.out _ 1 [.int .u8 ((e.c : Int) % 256)] rfl HL.out (by intro u hu; obtain rfl := List.mem_singleton.1 hu; rfl) (by unfold maxLen; omega) (by omega) (by have := HBR.out.size; simp; omega) ?_; intro v4 w4 hown4 hb4 hl4)
      have HO4 := Lib.hid (show w4.ownsRow W0.heap.size 5 1 v4 7 (bvs (le e.ep 4 ++ (nod3 e).take 3)) from by rw [show (nod3 e).take 3 = (nod3 e).take 2 ++ [UInt8.ofNat e.c] from rfl, ← List.append_assoc, bvs_append, bvs_cons, bvs_nil, bv_of]; exact hown4)
      have HB4 := Lib.hid ((HBR.out.alloc HBR.out.size (.cells #[.int .u8 ((e.c : Int) % 256)] 5)).grown hb4 (by have := HBR.out.size; simp; omega) (fun k hk => (HOA.out.lt k hk).1))
      clear hown4 hb4 hl4
      go_wp2
      go_roundw
      case rel => exact ⟨3, by omega, rfl, HO4.out, HB4.out⟩
      case measure => simp [intOf]
    · have y5 : wr.cell? ⟨G, 5, none⟩ = some (.bool e.sl) := HXR.out.cell 5 rfl
      rw [show (nod3 e).take 3 = nod3 e from rfl] at HOR
      cases hs : e.sl
      all_goals rw [hs] at y5
      · have HL := Lib.hid (IsX.lit wr #[.int .u8 0] 5 1 1 rfl (by decide))
        have HOA := Lib.hid (ownsRow_below HOR.out (below_new19 wr (.cells #[.int .u8 0] 5)) (Nat.le_refl _))
        go_wp2_with (at_builtin; refine wpList_append_X (by rfl) _ _ 43 43 rfl (fun _ _ _ => rfl) W0.heap.size 5 i0 _ 1 1 Try.underlying43 HI0.out HZ0.out HZ1.out HZ2.out rfl (by decide) _ (bvs (le e.ep 4 ++ nod3 e)) (7) rfl HOA.out _ 1 [.int .u8 0] rfl HL.out (by intro u hu; obtain rfl := List.mem_singleton.1 hu; rfl) (by unfold maxLen; omega) (by omega) (by have := HBR.out.size; simp; omega) ?_; intro v4 w4 hown4 hb4 hl4)
        have HO4 := Lib.hid (show w4.ownsRow W0.heap.size 5 1 v4 (ben e).length (bvs (ben e)) from by rw [show ben e = (le e.ep 4 ++ nod3 e) ++ [0] from by simp [ben, nod3, hs], bvs_append, bvs_cons, bvs_nil, List.length_append, List.length_append, length_le]; exact hown4)
        have HB4 := Lib.hid ((HBR.out.alloc HBR.out.size (.cells #[.int .u8 0] 5)).grown hb4 (by have := HBR.out.size; simp; omega) (fun k hk => (HOA.out.lt k hk).1))
        clear hown4 hb4 hl4
        go_wp2
        go_ret
        exact ⟨_, rfl, by rw [← HG.out]; exact ownsRow_base HO4.out HB0.out.size, by rw [← HG.out]; exact HB0.out.trans (HB4.out.mono HB0.out.size)⟩
      · have HL := Lib.hid (IsX.lit wr #[.int .u8 1] 5 1 1 rfl (by decide))
        have HOA := Lib.hid (ownsRow_below HOR.out (below_new19 wr (.cells #[.int .u8 1] 5)) (Nat.le_refl _))
        go_wp2_with (at_builtin; refine wpList_append_X (by rfl) _ _ 43 43 rfl (fun _ _ _ => rfl) W0.heap.size 5 i0 _ 1 1 Try.underlying43 HI0.out HZ0.out HZ1.out HZ2.out rfl (by decide) _ (bvs (le e.ep 4 ++ nod3 e)) (7) rfl HOA.out _ 1 [.int .u8 1] rfl HL.out (by intro u hu; obtain rfl := List.mem_singleton.1 hu; rfl) (by unfold maxLen; omega) (by omega) (by have := HBR.out.size; simp; omega) ?_; intro v4 w4 hown4 hb4 hl4)
        have HO4 := Lib.hid (show w4.ownsRow W0.heap.size 5 1 v4 (ben e).length (bvs (ben e)) from by rw [show ben e = (le e.ep 4 ++ nod3 e) ++ [1] from by simp [ben, nod3, hs], bvs_append, bvs_cons, bvs_nil, List.length_append, List.length_append, length_le]; exact hown4)
        have HB4 := Lib.hid ((HBR.out.alloc HBR.out.size (.cells #[.int .u8 1] 5)).grown hb4 (by have := HBR.out.size; simp; omega) (fun k hk => (HOA.out.lt k hk).1))
        clear hown4 hb4 hl4
        go_wp2
        go_ret
        exact ⟨_, rfl, by rw [← HG.out]; exact ownsRow_base HO4.out HB0.out.size, by rw [← HG.out]; exact HB0.out.trans (HB4.out.mono HB0.out.size)⟩
theorem dby_step {L : List En} {i : Nat} {e : En} (h : L[i]? = some e) : dby (L.take (i + 1)) = dby (L.take i) ++ ben e := by
  unfold dby
  rw [List.take_add_one, h, List.flatMap_append]
  simp [ben]
theorem ben_len (e : En) : (ben e).length = 8 := by simp [ben, length_le]
theorem dby_len (L : List En) : (dby L).length = 8 * L.length := by
  induction L with
  | nil => rfl
  | cons e r ih =>
    have h1 : dby (e :: r) = ben e ++ dby r := rfl
    rw [h1, List.length_append, ih, ben_len, List.length_cons]
    omega
set_option maxRecDepth 100000 in
set_option maxHeartbeats 2000000 in
theorem dbytes (w : World) (B g : Nat) (S : Nat → Prop) (L : List En) (h : Mp w B g S L) (hL : LOk L 1000000) :
    Calls Try.prog 17 #[.pointer (some ⟨g, 0, none⟩)] w fun e w' => ∃ v, e = .returned v ∧ IsB w' v (dby L) ∧ Below w.heap.size w w' := by
  obtain ⟨v, hm⟩ := h.mv
  obtain ⟨i0, hi0, hz0, hz1, hz2⟩ := info_parts Try.infoU8
  have HI0 := Lib.hid hi0
  have HZ0 := Lib.hid hz0
  have HZ1 := Lib.hid hz1
  have HZ2 := Lib.hid hz2
  have HV := Lib.hid (isX_own19 hm.row)
  have hlen := fun W => len_X (P := Try.prog) (isX_own19 hm.row) 74 3 77 Try.underlying74 W
  have HK := Lib.hid (hm.blk.cell 0 rfl)
  obtain ⟨N, hN⟩ : ∃ N, L.length = N := ⟨_, rfl⟩
  have hN4 := hL.len
  rw [hN] at hlen hN4
  have HN := Lib.hid hN
  have HEP := Lib.hid (fun e he => (hL.ok e he).2)
  clear h hm hL hi0 hz0 hz1 hz2 hN
  go_enter Try.func17, Try.ntmps17
  go_wp2_with fail
  refine (dents_any _ _ _ HK.out).mono ?_
  rintro e w2 ⟨rfl, rfl⟩
  go_wp2_with fail
  go_loopw [3, 9] (fun o c wr => ∃ i : Nat, i ≤ N ∧ c = .int .i64 i ∧ wr.ownsRow w.heap.size 5 1 o (dby (L.take i)).length (bvs (dby (L.take i))) ∧ Below w.heap.size w wr) (fun _ c _ => N - (intOf c).toNat)
  case atStart => exact ⟨0, Nat.zero_le _, rfl, World.ownsRow_nil _ _ _ _, Below.refl _ _⟩
  case round =>
    obtain ⟨i, hi, rfl, hown, hb⟩ := hrel
    by_cases hlt : i < N
    · obtain ⟨e, he⟩ : ∃ e, L[i]? = some e := ⟨_, List.getElem?_eq_getElem (by rw [HN.out]; exact hlt)⟩
      obtain ⟨b, q, hidx, k0, k1, k2, k3, k4, k5⟩ := ent_at (HV.out.mono hb (Nat.le_refl _)) he
      have HO := Lib.hid hown
      have HB := Lib.hid hb
      have HE := Lib.hid he
      have HP := Lib.hid (fun W => dlaid W e (HEP.out e (List.mem_of_getElem? he)))
      clear hown hb he
      go_wp2_with fail
      refine (HP.out _).mono ?_
      rintro r w3 ⟨v3, rfl, h3, hb3⟩
      have hbA := (below_new19 wr (.cells #[.int .i64 (e.vol : Int), .int .i64 (e.ep : Int), .int .i64 (e.a : Int), .int .i64 (e.b : Int), .int .i64 (e.c : Int), .bool e.sl] 77))
      have hb03 := hbA.trans (hb3.mono hbA.size)
      have HO3 := Lib.hid (ownsRow_below HO.out hb03 (Nat.le_refl _))
      have HB3 := Lib.hid (HB.out.trans (hb03.mono HB.out.size))
      have HI3 := Lib.hid (IsB.own (l := ben e) h3 rfl)
      have HLN := Lib.hid (show (dby (L.take i)).length + (ben e).length ≤ 1099511627776 from by rw [dby_len, ben_len, List.length_take]; omega)
      clear h3 hb3 hbA hb03 k0 k1 k2 k3 k4 k5 hidx
      go_wp2_with (at_builtin; refine wpList_append_B (by rfl) _ _ 43 rfl w.heap.size 5 i0 Try.underlying43 HI0.out HZ0.out HZ1.out HZ2.out _ (dby (L.take i)) _ rfl HO3.out rfl _ (ben e) rfl HI3.out HLN.out HB3.out.size ?_; intro v4 w4 hown4 hb4)
      have HO4 := Lib.hid (show w4.ownsRow w.heap.size 5 1 v4 (dby (L.take (i + 1))).length (bvs (dby (L.take (i + 1)))) from by rw [dby_step HE.out]; exact hown4)
      have HB4 := Lib.hid (HB3.out.trans hb4)
      clear hown4 hb4
      go_wp2
      go_roundw
      case rel => exact ⟨i + 1, by omega, by go_num, HO4.out, HB4.out⟩
      case measure => simp [intOf]; omega
    · obtain rfl : i = N := by omega
      rw [List.take_of_length_le (by rw [HN.out]; exact Nat.le_refl _)] at hown
      have HO := Lib.hid hown
      have HB := Lib.hid hb
      clear hown hb
      go_wp2
      go_ret
      exact ⟨_, rfl, IsB.own HO.out rfl, HB.out⟩
set_option maxRecDepth 100000 in
theorem dbytes_nil (w : World) : Calls Try.prog 17 #[.pointer none] w fun e w' => ∃ v, e = .returned v ∧ IsB w' v [] ∧ Below w.heap.size w w' := by
  have hlen := fun W => len_X (P := Try.prog) (IsX.nil w 6) 74 3 77 Try.underlying74 W
  go_enter Try.func17, Try.ntmps17
  go_wp2_with fail
  refine (dents_nil _).mono ?_
  rintro e w2 ⟨rfl, rfl⟩
  go_wp2_with fail
  go_loopw [3, 9] (fun o c wr => o = .slice none 0 0 ∧ c = .int .i64 0 ∧ wr = w) (fun _ c _ => 0)
  case atStart => exact ⟨rfl, rfl, rfl⟩
  case round =>
    obtain ⟨rfl, rfl, rfl⟩ := hrel
    go_wp2
    go_ret
    exact ⟨_, rfl, IsB.nil _, Below.refl _ _⟩
end Go.Proofs.Ytlaighghagcjjaa
