/- Package disk: a disk in memory; its small methods by contracts. -/
import Derived.Test.YtnofabeajcdddaaBehind
import Derived.Test.YtnofabeajcdddaaPack
import Derived.Deep.QuietTactic
import Derived.BigQuiet
import Derived.StillTailTactics
import Derived.Deep.RegionHeld3
namespace Go.Proofs.Ytnofabeajcdddaa
open Go.RowKit Go.Cor

/-- A code as an error. -/
abbrev ercode (k : Nat) : Value := .iface 77 (.int .i64 (k : Int))
def cerr (k : Nat) : Value := if k = 0 then .nilIface else ercode k
theorem cerr_0 : cerr 0 = .nilIface := rfl
theorem cerr_pos {k : Nat} (h : k ≠ 0) : cerr k = ercode k := if_neg h

theorem Try.infoDeed : (Try.prog.info? 100).map (fun i => (i.zero, i.size, i.bytes)) = some (some (.agg #[.string ⟨#[]⟩, .string ⟨#[]⟩, .pointer none]), 3, 40) := by kernel_rfl
theorem Try.sizeDeed : (Try.prog.info? 100).map (·.size) = some 3 := by kernel_rfl
/-- A deed as cells. -/
def dptr (fb : Nat → Nat) (x : Dd) : Option Addr := if x.dst = noName then none else some ⟨fb x.file, 0, none⟩
def ddc (fb : Nat → Nat) (x : Dd) : List Value := [.string x.src, .string x.dst, .pointer (dptr fb x)]
theorem ddc_len (fb : Nat → Nat) (x : Dd) : (ddc fb x).length = 3 := rfl
theorem ddc_one (fb : Nat → Nat) (x : Dd) : ∀ v ∈ ddc fb x, v.oneCell' = true := by
  intro v hv
  simp only [ddc, List.mem_cons, List.not_mem_nil, or_false] at hv
  rcases hv with rfl | rfl | rfl <;> rfl

/-- Where the pieces of a disk lie: its box, its tables, its deeds; of file number k its box and its bytes. -/
structure Lay where
  p : Nat
  now : Value
  las : Value
  dee : Value
  fb : Nat → Nat
  fv : Nat → Value
  left : Int
  cr : Nat
inductive Tg where
  | dsk | now | las | dee | box (k : Nat) | byt (k : Nat)
  deriving DecidableEq
def Lay.own (L : Lay) (n : Nat) : Tg → Option Nat
  | .dsk => some L.p
  | .now => L.now.ownBlock
  | .las => L.las.ownBlock
  | .dee => L.dee.ownBlock
  | .box k => if k < n then some (L.fb k) else none
  | .byt k => if k < n then (L.fv k).ownBlock else none
/-- No two pieces lie in one block. -/
def Apt (f : Tg → Option Nat) : Prop := ∀ t u b, f t = some b → f u = some b → t = u

/-- Tables, deeds, files. -/
structure Rest (w : World) (L : Lay) (d : Dsk) : Prop where
  now : w.ownsRow 0 104 2 L.now d.now.length (row (ent L.fb) d.now)
  las : w.ownsRow 0 104 2 L.las d.las.length (row (ent L.fb) d.las)
  dee : w.ownsRow 0 100 3 L.dee d.deeds.length (row (ddc L.fb) d.deeds)
  box : ∀ k, k < d.files.length → Blk w (L.fb k) #[.int .i64 (k : Int), L.fv k, .int .i64 ((fat d.files k).lasts : Int)] 93
  byt : ∀ k, k < d.files.length → w.ownsRow 0 5 1 (L.fv k) (fat d.files k).b.length (bvs (fat d.files k).b)
  apt : Apt (L.own d.files.length)
  plt : L.p < w.heap.size

theorem Rest.lt {w : World} {L : Lay} {d : Dsk} (h : Rest w L d) : ∀ t b, L.own d.files.length t = some b → b < w.heap.size := by
  intro t b hb
  cases t with
  | dsk => cases hb; exact h.plt
  | now => exact (h.now.lt b hb).2
  | las => exact (h.las.lt b hb).2
  | dee => exact (h.dee.lt b hb).2
  | box k =>
    simp only [Lay.own] at hb
    split at hb
    · cases hb; exact (h.box k (by assumption)).lt
    · cases hb
  | byt k =>
    simp only [Lay.own] at hb
    split at hb
    · exact ((h.byt k (by assumption)).lt b hb).2
    · cases hb
theorem own_box {L : Lay} {n k : Nat} (h : k < n) : L.own n (.box k) = some (L.fb k) := if_pos h
theorem own_byt {L : Lay} {n k : Nat} (h : k < n) : L.own n (.byt k) = (L.fv k).ownBlock := if_pos h

/-- Whatever touches none of its blocks leaves it. -/
theorem Rest.kept {S : Nat → Prop} {w w' : World} {L : Lay} {d : Dsk} (h : Rest w L d) (hk : Kept S w w') (hs : ∀ t b, L.own d.files.length t = some b → ¬ S b) : Rest w' L d where
  now := ownsRow_kept h.now hk (fun k e => hs .now k e)
  las := ownsRow_kept h.las hk (fun k e => hs .las k e)
  dee := ownsRow_kept h.dee hk (fun k e => hs .dee k e)
  box k hl := (h.box k hl).kept hk (hs (.box k) _ (own_box hl))
  byt k hl := ownsRow_kept (h.byt k hl) hk (fun j e => hs (.byt k) j ((own_byt hl).trans e))
  apt := h.apt
  plt := Nat.lt_of_lt_of_le h.plt hk.size
theorem Rest.below {w w' : World} {L : Lay} {d : Dsk} {B : Nat} (h : Rest w L d) (hb : Below B w w') (hB : w.heap.size ≤ B) : Rest w' L d := h.kept (Kept.of_below (S := fun _ => False) hb hB) (fun _ _ _ h => h)

/-- The number in the disk's box: of the deeds that are left. -/
def lft (L : Lay) (d : Dsk) : Int := match d.armed with | some n => (n : Int) | none => L.left
def dcells (L : Lay) (d : Dsk) : Array Value := #[.int .i64 (d.cap : Int), .int .i64 (L.cr : Int), L.now, L.las, L.dee, .bool d.armed.isSome, .int .i64 (lft L d)]
structure At (w : World) (L : Lay) (d : Dsk) : Prop where
  blk : Blk w L.p (dcells L d) 82
  rest : Rest w L d
theorem At.below {w w' : World} {L : Lay} {d : Dsk} {B : Nat} (h : At w L d) (hb : Below B w w') (hB : w.heap.size ≤ B) : At w' L d := ⟨h.blk.below hb (Nat.lt_of_lt_of_le h.blk.lt hB), h.rest.below hb hB⟩
theorem At.kept {S : Nat → Prop} {w w' : World} {L : Lay} {d : Dsk} (h : At w L d) (hk : Kept S w w') (hs : ∀ t b, L.own d.files.length t = some b → ¬ S b) : At w' L d := ⟨h.blk.kept hk (hs .dsk _ rfl), h.rest.kept hk hs⟩
theorem box_facts {w : World} {p : Nat} {a0 a1 a2 a3 a4 a5 a6 : Value} {T : TypeId} (h : Blk w p #[a0, a1, a2, a3, a4, a5, a6] T) :
    w.cell? ⟨p, 0, none⟩ = some a0 ∧ w.cell? ⟨p, 1, none⟩ = some a1 ∧ w.cell? ⟨p, 2, none⟩ = some a2 ∧ w.cell? ⟨p, 3, none⟩ = some a3 ∧ w.cell? ⟨p, 4, none⟩ = some a4 ∧ w.cell? ⟨p, 5, none⟩ = some a5 ∧ w.cell? ⟨p, 6, none⟩ = some a6 :=
  ⟨h.cell 0 rfl, h.cell 1 rfl, h.cell 2 rfl, h.cell 3 rfl, h.cell 4 rfl, h.cell 5 rfl, h.cell 6 rfl⟩

/-- Down, of any box. -/
theorem down_no (w : World) (p : Nat) (a0 a1 a2 a3 a4 a6 : Value) (T : TypeId) (h : Blk w p #[a0, a1, a2, a3, a4, .bool false, a6] T) :
    Calls Try.prog 24 #[.pointer (some ⟨p, 0, none⟩)] w fun e w' => e = .returned (.bool false) ∧ w = w' := by
  obtain ⟨_, _, _, _, _, c5, _⟩ := box_facts h
  clear h
  go_enter Try.func24, Try.ntmps24
  go_wp2
  go_ret
  exact ⟨rfl, rfl⟩
theorem down_yes (w : World) (p : Nat) (a0 a1 a2 a3 a4 : Value) (n : Nat) (T : TypeId) (h : Blk w p #[a0, a1, a2, a3, a4, .bool true, .int .i64 (n : Int)] T) :
    Calls Try.prog 24 #[.pointer (some ⟨p, 0, none⟩)] w fun e w' => e = .returned (.bool (n == 0)) ∧ w = w' := by
  obtain ⟨_, _, _, _, _, c5, c6⟩ := box_facts h
  obtain ⟨r, hr⟩ : ∃ r, (n == 0) = r := ⟨_, rfl⟩
  have hr' : ((n : Int) == 0) = r := by
    rw [← hr]
    cases n with
    | zero => rfl
    | succ n =>
      simp
      omega
  rw [hr]
  clear h hr
  go_enter Try.func24, Try.ntmps24
  go_wp2
  go_ret
  exact ⟨rfl, rfl⟩
def isDown (a : Option Nat) : Bool := a == some 0
theorem down_any (w : World) (L : Lay) (d : Dsk) (h : Blk w L.p (dcells L d) 82) :
    Calls Try.prog 24 #[.pointer (some ⟨L.p, 0, none⟩)] w fun e w' => e = .returned (.bool (isDown d.armed)) ∧ w = w' := by
  unfold dcells lft at h
  cases ha : d.armed with
  | none =>
    rw [ha] at h
    exact down_no w L.p _ _ _ _ _ _ _ h
  | some n =>
    rw [ha] at h
    exact down_yes w L.p _ _ _ _ _ n _ h
theorem up_any (w : World) (L : Lay) (d : Dsk) (h : Blk w L.p (dcells L d) 82) :
    Calls Try.prog 40 #[.pointer (some ⟨L.p, 0, none⟩)] w fun e w' => e = .returned (if isDown d.armed = true then ercode 12 else .nilIface) ∧ w = w' := by
  have H := Lib.hid h
  cases ha : isDown d.armed with
  | true =>
    go_enter Try.func40, Try.ntmps40
    go_wp2_with fail
    refine (down_any _ L d H.out).mono ?_
    rintro e w' ⟨rfl, rfl⟩
    rw [ha]
    go_wp2
    go_ret
    exact ⟨rfl, rfl⟩
  | false =>
    go_enter Try.func40, Try.ntmps40
    go_wp2_with fail
    refine (down_any _ L d H.out).mono ?_
    rintro e w' ⟨rfl, rfl⟩
    rw [ha]
    go_wp2
    go_ret
    exact ⟨rfl, rfl⟩
theorem up_nil (w : World) : Calls Try.prog 40 #[.pointer none] w fun e w' => e = .returned (ercode 15) ∧ w = w' := by
  go_enter Try.func40, Try.ntmps40
  go_wp2
  go_ret
  exact ⟨rfl, rfl⟩

/-- find, by its three ends. -/
theorem find_down (w : World) (L : Lay) (d : Dsk) (n : ByteArray) (h : At w L d) (hd : isDown d.armed = true) :
    Calls Try.prog 38 #[.pointer (some ⟨L.p, 0, none⟩), .string n] w fun e w' => e = .returned (.tuple #[.pointer none, ercode 12]) ∧ Below w.heap.size w w' := by
  have H := Lib.hid h.blk
  have HD := Lib.hid hd
  clear h hd
  go_enter Try.func38, Try.ntmps38
  go_wp2_with fail
  refine (up_any _ L d H.out).mono ?_
  rintro e w' ⟨rfl, rfl⟩
  rw [HD.out, if_pos rfl]
  go_wp2
  go_ret2
  exact ⟨rfl, Below.refl _ _⟩
theorem find_none (w : World) (L : Lay) (d : Dsk) (n : ByteArray) (h : At w L d) (hd : isDown d.armed = false) (hs : Sorted d.now) (hl : d.now.length ≤ 1048576) (hf : tfind d.now n = none) :
    Calls Try.prog 38 #[.pointer (some ⟨L.p, 0, none⟩), .string n] w fun e w' => e = .returned (.tuple #[.pointer none, ercode 6]) ∧ Below w.heap.size w w' := by
  have H := Lib.hid h.blk
  have HR := Lib.hid h.rest.now
  have HD := Lib.hid hd
  have HF := Lib.hid hf
  obtain ⟨_, _, c2, _, _, _, _⟩ := box_facts h.blk
  clear h hd hf
  go_enter Try.func38, Try.ntmps38
  go_wp2_with fail
  refine (up_any _ L d H.out).mono ?_
  rintro e w' ⟨rfl, rfl⟩
  rw [HD.out, if_neg (by decide)]
  go_wp2_with fail
  refine (place_any L.fb L.now d.now n _ (IsX.own HR.out) hs hl).mono ?_
  rintro e w1 ⟨rfl, hb⟩
  rw [show (tfind d.now n).isSome = false from by rw [HF.out]; rfl]
  have HB := Lib.hid hb
  clear hb c2
  go_wp2
  go_ret2
  exact ⟨rfl, HB.out⟩
theorem find_some (w : World) (L : Lay) (d : Dsk) (n : ByteArray) (k : Nat) (h : At w L d) (hd : isDown d.armed = false) (hs : Sorted d.now) (hl : d.now.length ≤ 1048576) (hf : tfind d.now n = some k) :
    Calls Try.prog 38 #[.pointer (some ⟨L.p, 0, none⟩), .string n] w fun e w' => e = .returned (.tuple #[.pointer (some ⟨L.fb k, 0, none⟩), .nilIface]) ∧ Below w.heap.size w w' := by
  have H := Lib.hid h.blk
  have HR := Lib.hid h.rest.now
  have HD := Lib.hid hd
  have HF := Lib.hid hf
  have HL := Lib.hid h.rest.plt
  obtain ⟨_, _, c2, _, _, _, _⟩ := box_facts h.blk
  clear h hd hf
  go_enter Try.func38, Try.ntmps38
  go_wp2_with fail
  refine (up_any _ L d H.out).mono ?_
  rintro e w' ⟨rfl, rfl⟩
  rw [HD.out, if_neg (by decide)]
  go_wp2_with fail
  refine (place_any L.fb L.now d.now n _ (IsX.own HR.out) hs hl).mono ?_
  rintro e w1 ⟨rfl, hb⟩
  rw [show (tfind d.now n).isSome = true from by rw [HF.out]; rfl]
  have HB := Lib.hid hb
  clear hb c2
  obtain ⟨_, _, c2, _, _, _, _⟩ := box_facts (H.out.below HB.out HL.out)
  obtain ⟨b, o, hidx, hob, k0, k1⟩ := indexAt_T (IsX.own (ownsRow_below HR.out HB.out (Nat.le_refl _))) 79 Try.underlying79 (tfind_at hs HF.out)
  go_wp2
  go_ret2
  exact ⟨rfl, HB.out⟩

end Go.Proofs.Ytnofabeajcdddaa
