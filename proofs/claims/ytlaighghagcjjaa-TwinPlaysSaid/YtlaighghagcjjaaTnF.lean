/- Tm, Tn. -/
import Derived.Test.YtlaighghagcjjaaDm

section
set_option linter.unusedVariables false
set_option linter.unusedSimpArgs false
namespace Go.Cor
open Go.RowKit

/-- A pair: both logs, which are up, whether side 1 leads, the term, how many are settled. -/
structure Pr where
  a : List Cm
  b : List Cm
  u0 : Bool
  u1 : Bool
  ld : Bool
  tm : Nat
  st : Nat
def Pr.new : Pr := ⟨[], [], true, true, false, 1, 0⟩
def Pr.log (p : Pr) (s : Bool) : List Cm := if s then p.b else p.a
def Pr.up (p : Pr) (s : Bool) : Bool := if s then p.u1 else p.u0
def Pr.setLog (p : Pr) (s : Bool) (l : List Cm) : Pr := if s then { p with b := l } else { p with a := l }
def Pr.setUp (p : Pr) (s : Bool) (u : Bool) : Pr := if s then { p with u1 := u } else { p with u0 := u }
def Pr.settle (p : Pr) (n : Nat) : Pr := { p with st := if p.st < n then n else p.st }
/-- A side's number. -/
def sn (s : Bool) : Nat := if s then 1 else 0
/-- The side of a number. -/
def sd (n : Int) : Bool := decide (n = 1)
theorem sd_sn (s : Bool) : sd (sn s : Int) = s := by cases s <;> rfl
theorem sn_le (s : Bool) : sn s ≤ 1 := by cases s <;> decide
theorem sn_sd {n : Int} (h : 0 ≤ n ∧ n ≤ 1) : ((sn (sd n) : Nat) : Int) = n := by
  obtain rfl | rfl : n = 0 ∨ n = 1 := by omega
  · rfl
  · rfl
section
variable (p : Pr) (s t u : Bool) (l : List Cm) (n : Nat)
@[simp] theorem Pr.log_setLog : (p.setLog s l).log s = l := by cases s <;> rfl
@[simp] theorem Pr.log_setLog_n : (p.setLog s l).log (!s) = p.log (!s) := by cases s <;> rfl
@[simp] theorem Pr.log_setLog_n' : (p.setLog (!s) l).log s = p.log s := by cases s <;> rfl
@[simp] theorem Pr.up_setLog : (p.setLog s l).up t = p.up t := by cases s <;> cases t <;> rfl
@[simp] theorem Pr.ld_setLog : (p.setLog s l).ld = p.ld := by cases s <;> rfl
@[simp] theorem Pr.tm_setLog : (p.setLog s l).tm = p.tm := by cases s <;> rfl
@[simp] theorem Pr.st_setLog : (p.setLog s l).st = p.st := by cases s <;> rfl
@[simp] theorem Pr.up_setUp : (p.setUp s u).up s = u := by cases s <;> rfl
@[simp] theorem Pr.up_setUp_n : (p.setUp s u).up (!s) = p.up (!s) := by cases s <;> rfl
@[simp] theorem Pr.up_setUp_n' : (p.setUp (!s) u).up s = p.up s := by cases s <;> rfl
@[simp] theorem Pr.log_setUp : (p.setUp s u).log t = p.log t := by cases s <;> cases t <;> rfl
@[simp] theorem Pr.ld_setUp : (p.setUp s u).ld = p.ld := by cases s <;> rfl
@[simp] theorem Pr.tm_setUp : (p.setUp s u).tm = p.tm := by cases s <;> rfl
@[simp] theorem Pr.st_setUp : (p.setUp s u).st = p.st := by cases s <;> rfl
@[simp] theorem Pr.log_settle : (p.settle n).log t = p.log t := rfl
@[simp] theorem Pr.up_settle : (p.settle n).up t = p.up t := rfl
@[simp] theorem Pr.ld_settle : (p.settle n).ld = p.ld := rfl
@[simp] theorem Pr.tm_settle : (p.settle n).tm = p.tm := rfl
@[simp] theorem Pr.st_settle : (p.settle n).st = if p.st < n then n else p.st := rfl
end
/-- Another side leads, in the next term. -/
def Pr.next (p : Pr) (s : Bool) : Pr := { p with ld := s, tm := p.tm + 1 }
@[simp] theorem Pr.log_next (p : Pr) (s t : Bool) : (p.next s).log t = p.log t := rfl
@[simp] theorem Pr.up_next (p : Pr) (s t : Bool) : (p.next s).up t = p.up t := rfl
@[simp] theorem Pr.ld_next (p : Pr) (s : Bool) : (p.next s).ld = s := rfl
@[simp] theorem Pr.tm_next (p : Pr) (s : Bool) : (p.next s).tm = p.tm + 1 := rfl
@[simp] theorem Pr.st_next (p : Pr) (s : Bool) : (p.next s).st = p.st := rfl

def askK (p : Pr) (t : Int) : Nat := if p.up p.ld = true then (if t = (p.tm : Int) then 0 else 13) else 12
def askP (p : Pr) (t : Int) (c : Cm) : Pr :=
  if askK p t = 0 then
    (if p.up (!p.ld) = true then p.setLog p.ld (p.log p.ld ++ [c]) else (p.setLog p.ld (p.log p.ld ++ [c])).settle ((p.log p.ld).length + 1))
  else p
def askN (p : Pr) (t : Int) : Nat := if askK p t = 0 then (p.log p.ld).length else 0
def shipK (p : Pr) (t : Int) : Nat :=
  if p.u0 = true ∧ p.u1 = true then (if t = (p.tm : Int) then (if (p.log p.ld).length ≤ (p.log (!p.ld)).length then 6 else 0) else 13) else 12
def shipP (p : Pr) (t : Int) : Pr :=
  if shipK p t = 0 then (p.setLog (!p.ld) ((p.log p.ld).take ((p.log (!p.ld)).length + 1))).settle ((p.log (!p.ld)).length + 1) else p
def fallK (p : Pr) (n : Int) : Nat := if 0 ≤ n ∧ n ≤ 1 then (if p.up (sd n) = true then 0 else 12) else 1
def fallP (p : Pr) (n : Int) : Pr :=
  if fallK p n = 0 then
    (if p.up (!sd n) = true then
      (if sd n = p.ld then ((p.setUp (sd n) false).next (!p.ld)).settle (p.log (!p.ld)).length else (p.setUp (sd n) false).settle (p.log p.ld).length)
     else p.setUp (sd n) false)
  else p
def riseK (p : Pr) (n : Int) : Nat := if 0 ≤ n ∧ n ≤ 1 then (if p.up (sd n) = true then 14 else if p.up (!sd n) = true then 0 else if sd n = p.ld then 0 else 12) else 1
def riseP (p : Pr) (n : Int) : Pr :=
  if riseK p n = 0 then
    (if p.up (!sd n) = true then (p.setUp (sd n) true).setLog (sd n) (p.log (!sd n)) else ((p.setUp (sd n) true).next p.ld).settle (p.log p.ld).length)
  else p
/-- What always holds of a pair: what is settled is in the leading one's log; the one that follows is up only beside one that is up, has the first commands of its log, and all that is settled. -/
structure Pr.Ok (p : Pr) : Prop where
  st : p.st ≤ (p.log p.ld).length
  fo : p.up (!p.ld) = true → p.up p.ld = true ∧ p.log (!p.ld) = (p.log p.ld).take (p.log (!p.ld)).length ∧ p.st ≤ (p.log (!p.ld)).length
theorem Pr.Ok.new : Pr.new.Ok := ⟨by decide, fun _ => ⟨rfl, rfl, by decide⟩⟩
theorem Pr.Ok.le {p : Pr} (h : p.Ok) (hu : p.up (!p.ld) = true) : (p.log (!p.ld)).length ≤ (p.log p.ld).length := by
  have h1 := (h.fo hu).2.1
  have h2 : (p.log (!p.ld)).length = ((p.log p.ld).take (p.log (!p.ld)).length).length := congrArg List.length h1
  rw [List.length_take] at h2
  omega
/-- What a call keeps: the term and what is settled don't fall, what was settled stays. -/
structure Pr.To (p q : Pr) : Prop where
  ok : q.Ok
  tm : p.tm ≤ q.tm
  st : p.st ≤ q.st
  pre : (q.log q.ld).take p.st = (p.log p.ld).take p.st
theorem Pr.Ok.refl {p : Pr} (h : p.Ok) : p.To p := ⟨h, Nat.le_refl _, Nat.le_refl _, rfl⟩
theorem up_two {p : Pr} (h : p.u0 = true ∧ p.u1 = true) (s : Bool) : p.up s = true := by
  cases s
  · exact h.1
  · exact h.2
theorem two_up {p : Pr} {s : Bool} (h1 : p.up s = true) (h2 : p.up (!s) = true) : p.u0 = true ∧ p.u1 = true := by
  cases s
  · exact ⟨h1, h2⟩
  · exact ⟨h2, h1⟩
theorem ask_to {p : Pr} (h : p.Ok) (t : Int) (c : Cm) : p.To (askP p t c) := by
  unfold askP
  split
  · rename_i hk
    have hst := h.st
    split
    · rename_i hu
      obtain ⟨h1, h2, h3⟩ := h.fo hu
      have hle := h.le hu
      refine ⟨⟨by simp; omega, fun _ => ⟨by simpa using h1, ?_, by simpa using h3⟩⟩, by simp, by simp, ?_⟩
      · simp only [Pr.ld_setLog, Pr.log_setLog_n, Pr.log_setLog]
        rw [List.take_append_of_le_length hle]
        exact h2
      · simp only [Pr.ld_setLog, Pr.log_setLog]
        rw [List.take_append_of_le_length hst]
    · rename_i hu
      refine ⟨⟨?_, fun hu2 => absurd (by simpa using hu2) hu⟩, by simp, ?_, ?_⟩
      · simp only [Pr.st_settle, Pr.st_setLog, Pr.log_settle, Pr.ld_settle, Pr.ld_setLog, Pr.log_setLog, List.length_append, List.length_singleton]
        split <;> omega
      · simp only [Pr.st_settle, Pr.st_setLog]
        split <;> omega
      · simp only [Pr.log_settle, Pr.ld_settle, Pr.ld_setLog, Pr.log_setLog]
        rw [List.take_append_of_le_length hst]
  · exact h.refl
theorem ship_to {p : Pr} (h : p.Ok) (t : Int) : p.To (shipP p t) := by
  unfold shipP
  split
  · rename_i hk
    have hst := h.st
    unfold shipK at hk
    split at hk
    · rename_i hu2
      split at hk
      · split at hk
        · omega
        · rename_i hlt
          obtain ⟨h1, h2, h3⟩ := h.fo (up_two hu2 _)
          have hl : ((p.log p.ld).take ((p.log (!p.ld)).length + 1)).length = (p.log (!p.ld)).length + 1 := by rw [List.length_take]; omega
          refine ⟨⟨?_, fun _ => ⟨by simpa using h1, ?_, ?_⟩⟩, by simp, ?_, by simp⟩
          · simp only [Pr.st_settle, Pr.st_setLog, Pr.log_settle, Pr.ld_settle, Pr.ld_setLog, Pr.log_setLog_n']
            split <;> omega
          · simp only [Pr.log_settle, Pr.ld_settle, Pr.ld_setLog, Pr.log_setLog_n', Pr.log_setLog]
            rw [hl]
          · simp only [Pr.st_settle, Pr.st_setLog, Pr.log_settle, Pr.ld_settle, Pr.ld_setLog, Pr.log_setLog]
            rw [hl]
            split <;> omega
          · simp only [Pr.st_settle, Pr.st_setLog]
            split <;> omega
      · omega
    · omega
  · exact h.refl
theorem fall_to {p : Pr} (h : p.Ok) (n : Int) : p.To (fallP p n) := by
  unfold fallP
  split
  · have hst := h.st
    obtain ⟨s, hs⟩ : ∃ s, sd n = s := ⟨_, rfl⟩
    rw [hs]
    split
    · rename_i hu
      split
      · rename_i hl
        subst hl
        obtain ⟨h1, h2, h3⟩ := h.fo hu
        have hle := h.le hu
        refine ⟨⟨?_, fun hx => ?_⟩, by simp, ?_, ?_⟩
        · simp only [Pr.st_settle, Pr.st_next, Pr.st_setUp, Pr.log_settle, Pr.ld_settle, Pr.log_next, Pr.ld_next, Pr.log_setUp]
          split <;> omega
        · simp at hx
        · simp only [Pr.st_settle, Pr.st_next, Pr.st_setUp]
          split <;> omega
        · simp only [Pr.log_settle, Pr.ld_settle, Pr.log_next, Pr.ld_next, Pr.log_setUp]
          rw [h2, List.take_take, Nat.min_eq_left h3]
      · rename_i hl
        obtain rfl : s = !p.ld := by cases s <;> cases hld : p.ld <;> simp_all
        refine ⟨⟨?_, fun hx => ?_⟩, by simp, ?_, by simp⟩
        · simp only [Pr.st_settle, Pr.st_setUp, Pr.log_settle, Pr.ld_settle, Pr.ld_setUp, Pr.log_setUp]
          split <;> omega
        · simp at hx
        · simp only [Pr.st_settle, Pr.st_setUp]
          split <;> omega
    · rename_i hu
      refine ⟨⟨by simpa using hst, fun hx => ?_⟩, by simp, by simp, by simp⟩
      simp only [Pr.ld_setUp] at hx
      by_cases hl : s = p.ld
      · subst hl
        simp at hx
        exact absurd hx (by simpa using hu)
      · obtain rfl : s = !p.ld := by cases s <;> cases hld : p.ld <;> simp_all
        simp at hx
  · exact h.refl
theorem rise_to {p : Pr} (h : p.Ok) (n : Int) : p.To (riseP p n) := by
  unfold riseP
  split
  · rename_i hk
    have hst := h.st
    obtain ⟨s, hs⟩ : ∃ s, sd n = s := ⟨_, rfl⟩
    unfold riseK at hk
    rw [hs] at hk ⊢
    split at hk
    · split at hk
      · omega
      · rename_i hus
        split at hk
        · rename_i huo
          rw [if_pos huo]
          have hl : p.ld = !s := by
            by_cases e : p.ld = s
            · have := (h.fo (by rw [e]; exact huo)).1
              rw [e] at this
              exact absurd this hus
            · cases s <;> cases hld : p.ld <;> simp_all
          refine ⟨⟨?_, fun _ => ⟨?_, ?_, ?_⟩⟩, by simp, by simp, ?_⟩
          · simp only [Pr.st_setLog, Pr.st_setUp, Pr.ld_setLog, Pr.ld_setUp]
            rw [hl] at hst ⊢
            simpa using hst
          · simp only [Pr.ld_setLog, Pr.ld_setUp, Pr.up_setLog]
            rw [hl]
            simpa using huo
          · simp only [Pr.ld_setLog, Pr.ld_setUp]
            rw [hl]
            simp
          · simp only [Pr.ld_setLog, Pr.ld_setUp, Pr.st_setLog, Pr.st_setUp]
            rw [hl] at hst ⊢
            simpa using hst
          · simp only [Pr.ld_setLog, Pr.ld_setUp]
            rw [hl]
            simp
        · rename_i huo
          split at hk
          · rename_i hl
            subst hl
            rw [if_neg huo]
            refine ⟨⟨?_, fun hx => ?_⟩, by simp, ?_, by simp⟩
            · simp only [Pr.st_settle, Pr.st_next, Pr.st_setUp, Pr.log_settle, Pr.ld_settle, Pr.log_next, Pr.ld_next, Pr.log_setUp]
              split <;> omega
            · simp at hx
              exact absurd hx (by simpa using huo)
            · simp only [Pr.st_settle, Pr.st_next, Pr.st_setUp]
              split <;> omega
          · omega
    · omega
  · exact h.refl
/-- A call, as the statements have it. -/
structure Ac20 where
  kind : Int
  term : Int
  side : Int
  c : Cm
def acl (a : Ac20) : List Value := [.int .i64 a.kind, .int .i64 a.term, .int .i64 a.side] ++ ccl a.c
theorem acl_len (a : Ac20) : (acl a).length = 11 := rfl
def aval (a : Ac20) : Value := .agg #[.int .i64 a.kind, .int .i64 a.term, .int .i64 a.side, .int .i64 a.c.kind, .int .i64 a.c.vol, .int .i64 a.c.ep, .int .i64 a.c.at_, .int .i64 a.c.node, .int .i64 a.c.a, .int .i64 a.c.b, .int .i64 a.c.c]
def actK (p : Pr) (a : Ac20) : Nat := if a.kind = 0 then askK p a.term else if a.kind = 1 then shipK p a.term else if a.kind = 2 then fallK p a.side else riseK p a.side
def actN (p : Pr) (a : Ac20) : Nat := if a.kind = 0 then askN p a.term else 0
def actP (p : Pr) (a : Ac20) : Pr := if a.kind = 0 then askP p a.term a.c else if a.kind = 1 then shipP p a.term else if a.kind = 2 then fallP p a.side else riseP p a.side
theorem act_to {p : Pr} (h : p.Ok) (a : Ac20) : p.To (actP p a) := by
  unfold actP
  split
  · exact ask_to h _ _
  · split
    · exact ship_to h _
    · split
      · exact fall_to h _
      · exact rise_to h _
/-- How long the logs and how great the term may be. -/
structure Pr.Le (p : Pr) (K : Nat) : Prop where
  log : ∀ s, (p.log s).length ≤ K
  tm : 1 ≤ p.tm ∧ p.tm ≤ K + 1
theorem Pr.Le.new : Pr.new.Le 0 := ⟨fun s => by cases s <;> exact Nat.le_refl _, by decide⟩
theorem Pr.Le.more {p : Pr} {K K' : Nat} (h : p.Le K) (hk : K ≤ K') : p.Le K' := ⟨fun s => Nat.le_trans (h.log s) hk, h.tm.1, by have := h.tm.2; omega⟩
theorem log_set_le {p : Pr} {K : Nat} (h : ∀ s, (p.log s).length ≤ K) (s : Bool) {l : List Cm} (hl : l.length ≤ K) (t : Bool) : ((p.setLog s l).log t).length ≤ K := by
  cases s <;> cases t
  · exact hl
  · exact h true
  · exact h false
  · exact hl
theorem act_le {p : Pr} {K : Nat} (h : p.Le K) (a : Ac20) : (actP p a).Le (K + 1) := by
  have hK := fun s => Nat.le_trans (h.log s) (Nat.le_succ K)
  have ht := h.tm
  have hm := h.more (Nat.le_succ K)
  unfold actP
  split
  · unfold askP
    split
    · have hl : (p.log p.ld ++ [a.c]).length ≤ K + 1 := by have := h.log p.ld; simp; omega
      split
      · exact ⟨log_set_le hK _ hl, by simp; omega⟩
      · exact ⟨fun s => by rw [Pr.log_settle]; exact log_set_le hK _ hl s, by simp; omega⟩
    · exact hm
  · split
    · unfold shipP
      split
      · exact ⟨fun s => by rw [Pr.log_settle]; exact log_set_le hK _ (by rw [List.length_take]; have := hK p.ld; omega) s, by simp; omega⟩
      · exact hm
    · split
      · unfold fallP
        split
        · split
          · split
            · exact ⟨fun s => by simpa using hK s, by simp; omega⟩
            · exact ⟨fun s => by simpa using hK s, by simp; omega⟩
          · exact ⟨fun s => by simpa using hK s, by simp; omega⟩
        · exact hm
      · unfold riseP
        split
        · split
          · exact ⟨log_set_le (p := p.setUp _ true) (fun s => by simpa using hK s) _ (hK _), by simp; omega⟩
          · exact ⟨fun s => by simpa using hK s, by simp; omega⟩
        · exact hm
/-- What a log's command answers. -/
def ansN (L : List Cm) (i : Nat) : Nat := match L[i]? with | some c => doN (repL [] (L.take i)) c | none => 0
def ansK (L : List Cm) (i : Nat) : Nat := match L[i]? with | some c => doK (repL [] (L.take i)) c | none => 0
theorem ans_take {L M : List Cm} {n i : Nat} (h : L.take n = M.take n) (hi : i < n) : ansN L i = ansN M i ∧ ansK L i = ansK M i := by
  have e1 : L[i]? = M[i]? := by
    have h1 : (L.take n)[i]? = L[i]? := by rw [List.getElem?_take, if_pos hi]
    have h2 : (M.take n)[i]? = M[i]? := by rw [List.getElem?_take, if_pos hi]
    rw [← h1, ← h2, h]
  have e2 : L.take i = M.take i := by
    have h1 : (L.take n).take i = L.take i := by rw [List.take_take, Nat.min_eq_left (Nat.le_of_lt hi)]
    have h2 : (M.take n).take i = M.take i := by rw [List.take_take, Nat.min_eq_left (Nat.le_of_lt hi)]
    rw [← h1, ← h2, h]
  unfold ansN ansK
  rw [e1, e2]
  exact ⟨rfl, rfl⟩
end Go.Cor
end

section
set_option linter.unusedVariables false
set_option linter.unusedSimpArgs false
namespace Go.Cor
open Go.RowKit

/-- While the side that follows is up, what it has is settled; while it isn't, all that the leading one has. -/
def Pr.Set (p : Pr) : Prop := p.st = if p.up (!p.ld) = true then (p.log (!p.ld)).length else (p.log p.ld).length
theorem Pr.Set.new : Pr.new.Set := rfl
theorem ask_set {p : Pr} (h : p.Ok) (hs : p.Set) (t : Int) (c : Cm) : (askP p t c).Set := by
  unfold askP
  split
  · split
    · rename_i hu
      unfold Pr.Set at hs ⊢
      simp only [Pr.st_setLog, Pr.ld_setLog, Pr.up_setLog, Pr.log_setLog_n]
      rw [if_pos hu] at hs ⊢
      exact hs
    · rename_i hu
      unfold Pr.Set at hs ⊢
      simp only [Pr.st_settle, Pr.st_setLog, Pr.ld_settle, Pr.ld_setLog, Pr.up_settle, Pr.up_setLog, Pr.log_settle, Pr.log_setLog, List.length_append, List.length_singleton]
      rw [if_neg hu] at hs ⊢
      split <;> omega
  · exact hs
theorem ship_set {p : Pr} (h : p.Ok) (hs : p.Set) (t : Int) : (shipP p t).Set := by
  unfold shipP
  split
  · rename_i hk
    unfold shipK at hk
    split at hk
    · rename_i hu
      split at hk
      · split at hk
        · omega
        · rename_i hlt
          unfold Pr.Set at hs ⊢
          simp only [Pr.st_settle, Pr.st_setLog, Pr.ld_settle, Pr.ld_setLog, Pr.up_settle, Pr.up_setLog, Pr.log_settle, Pr.log_setLog, List.length_take]
          rw [if_pos (up_two hu _)] at hs ⊢
          split <;> omega
      · omega
    · omega
  · exact hs
theorem fall_set {p : Pr} (h : p.Ok) (hs : p.Set) (n : Int) : (fallP p n).Set := by
  have hst := h.st
  unfold fallP
  split
  · rename_i hk
    obtain ⟨s, hsd⟩ : ∃ s, sd n = s := ⟨_, rfl⟩
    rw [hsd]
    split
    · rename_i hu
      split
      · rename_i hl
        subst hl
        have hle := h.le hu
        have h3 := (h.fo hu).2.2
        unfold Pr.Set at hs ⊢
        simp only [Pr.st_settle, Pr.st_next, Pr.st_setUp, Pr.ld_settle, Pr.ld_next, Pr.up_settle, Pr.up_next, Bool.not_not, Pr.up_setUp, Pr.log_settle, Pr.log_next, Pr.log_setUp]
        simp only [Bool.false_eq_true, if_false]
        split <;> omega
      · rename_i hl
        obtain rfl : s = !p.ld := by cases s <;> cases hld : p.ld <;> simp_all
        unfold Pr.Set at hs ⊢
        simp only [Pr.st_settle, Pr.st_setUp, Pr.ld_settle, Pr.ld_setUp, Pr.up_settle, Pr.up_setUp, Pr.log_settle, Pr.log_setUp]
        simp only [Bool.false_eq_true, if_false]
        split <;> omega
    · rename_i hu
      unfold Pr.Set at hs ⊢
      simp only [Pr.st_setUp, Pr.ld_setUp, Pr.log_setUp]
      by_cases hl : s = p.ld
      · subst hl
        rw [Pr.up_setUp_n, if_neg hu]
        rw [if_neg hu] at hs
        exact hs
      · obtain rfl : s = !p.ld := by cases s <;> cases hld : p.ld <;> simp_all
        rw [Pr.up_setUp]
        simp only [Bool.false_eq_true, if_false]
        have hup : p.up (!p.ld) = true := by
          unfold fallK at hk
          rw [hsd] at hk
          split at hk
          · split at hk
            · assumption
            · omega
          · omega
        have := (h.fo hup).1
        rw [Bool.not_not] at hu
        exact absurd this hu
  · exact hs
theorem rise_set {p : Pr} (h : p.Ok) (hs : p.Set) (n : Int) : (riseP p n).Set := by
  have hst := h.st
  unfold riseP
  split
  · rename_i hk
    obtain ⟨s, hsd⟩ : ∃ s, sd n = s := ⟨_, rfl⟩
    unfold riseK at hk
    rw [hsd] at hk ⊢
    split at hk
    · split at hk
      · omega
      · rename_i hus
        split at hk
        · rename_i huo
          rw [if_pos huo]
          have hl : p.ld = !s := by
            by_cases e : p.ld = s
            · have := (h.fo (by rw [e]; exact huo)).1
              rw [e] at this
              exact absurd this hus
            · cases s <;> cases hld : p.ld <;> simp_all
          unfold Pr.Set at hs ⊢
          simp only [Pr.st_setLog, Pr.st_setUp, Pr.ld_setLog, Pr.ld_setUp, Pr.up_setLog]
          rw [hl] at hs ⊢
          simp only [Bool.not_not] at hs ⊢
          rw [if_neg hus] at hs
          rw [Pr.up_setUp, if_pos rfl, Pr.log_setLog]
          exact hs
        · rename_i huo
          split at hk
          · rename_i hl
            subst hl
            rw [if_neg huo]
            unfold Pr.Set at hs ⊢
            simp only [Pr.st_settle, Pr.st_next, Pr.st_setUp, Pr.ld_settle, Pr.ld_next, Pr.up_settle, Pr.up_next, Pr.up_setUp_n, Pr.log_settle, Pr.log_next, Pr.log_setUp]
            rw [if_neg huo] at hs ⊢
            split <;> omega
          · omega
    · omega
  · exact hs
theorem act_set {p : Pr} (h : p.Ok) (hs : p.Set) (a : Ac20) : (actP p a).Set := by
  unfold actP
  split
  · exact ask_set h hs _ _
  · split
    · exact ship_set h hs _
    · split
      · exact fall_set h hs _
      · exact rise_set h hs _
/-- Who led last is brought up, and the other one then. -/
theorem rise_both {p : Pr} (h : p.Ok) : (riseP (riseP p (sn p.ld)) (sn (!p.ld))).u0 = true ∧ (riseP (riseP p (sn p.ld)) (sn (!p.ld))).u1 = true := by
  have k0 : ∀ s, (0 : Int) ≤ ((sn s : Nat) : Int) ∧ ((sn s : Nat) : Int) ≤ 1 := fun s => by have := sn_le s; omega
  have e1 : (riseP p (sn p.ld)).up p.ld = true ∧ (riseP p (sn p.ld)).ld = p.ld ∧ (riseP p (sn p.ld)).up (!p.ld) = p.up (!p.ld) := by
    by_cases hu : p.up p.ld = true
    · have hk : riseK p (sn p.ld) ≠ 0 := by
        unfold riseK
        rw [if_pos (k0 _), sd_sn, if_pos hu]
        decide
      unfold riseP
      rw [if_neg hk]
      exact ⟨hu, rfl, rfl⟩
    · have ho : ¬ p.up (!p.ld) = true := fun e => hu (h.fo e).1
      have hk : riseK p (sn p.ld) = 0 := by
        unfold riseK
        rw [if_pos (k0 _), sd_sn, if_neg hu, if_neg ho, if_pos rfl]
      unfold riseP
      rw [if_pos hk, sd_sn, if_neg ho]
      exact ⟨by simp, by simp, by simp⟩
  obtain ⟨q, hq⟩ : ∃ q, riseP p (sn p.ld) = q := ⟨_, rfl⟩
  rw [hq] at e1 ⊢
  obtain ⟨h1, h2, _⟩ := e1
  by_cases hu : q.up (!p.ld) = true
  · have hk : riseK q (sn (!p.ld)) ≠ 0 := by
      unfold riseK
      rw [if_pos (k0 _), sd_sn, if_pos hu]
      decide
    unfold riseP
    rw [if_neg hk]
    exact two_up h1 hu
  · have hk : riseK q (sn (!p.ld)) = 0 := by
      unfold riseK
      rw [if_pos (k0 _), sd_sn, if_neg hu, Bool.not_not, if_pos h1]
    unfold riseP
    rw [if_pos hk, sd_sn, Bool.not_not, if_pos h1]
    exact two_up (s := p.ld) (by simp [h1]) (by simp)
/-- A command shipped between two that are up. -/
theorem ship_step {p : Pr} (h : p.Ok) (hu : p.u0 = true ∧ p.u1 = true) (hk : shipK p p.tm = 0) :
    (shipP p p.tm).u0 = true ∧ (shipP p p.tm).u1 = true ∧ ((shipP p p.tm).log (!(shipP p p.tm).ld)).length = (p.log (!p.ld)).length + 1 ∧ (shipP p p.tm).log (shipP p p.tm).ld = p.log p.ld := by
  have hlt : ¬ (p.log p.ld).length ≤ (p.log (!p.ld)).length := by
    unfold shipK at hk
    rw [if_pos hu, if_pos rfl] at hk
    split at hk
    · omega
    · assumption
  unfold shipP
  rw [if_pos hk]
  have h1 : ∀ t, ((p.setLog (!p.ld) ((p.log p.ld).take ((p.log (!p.ld)).length + 1))).settle ((p.log (!p.ld)).length + 1)).up t = true := fun t => by
    rw [Pr.up_settle, Pr.up_setLog]
    exact up_two hu t
  refine ⟨h1 false, h1 true, ?_, ?_⟩
  · simp only [Pr.ld_settle, Pr.ld_setLog, Pr.log_settle, Pr.log_setLog, List.length_take]
    omega
  · simp only [Pr.ld_settle, Pr.ld_setLog, Pr.log_settle, Pr.log_setLog_n']
theorem ship_end {p : Pr} (h : p.Ok) (hs : p.Set) (hu : p.u0 = true ∧ p.u1 = true) (hk : shipK p p.tm ≠ 0) : shipK p p.tm = 6 ∧ p.a = p.b ∧ p.st = p.a.length ∧ shipP p p.tm = p := by
  have h6 : shipK p p.tm = 6 ∧ (p.log p.ld).length ≤ (p.log (!p.ld)).length := by
    unfold shipK at hk ⊢
    rw [if_pos hu, if_pos rfl] at hk ⊢
    split at hk
    · rename_i hle
      rw [if_pos hle]
      exact ⟨rfl, hle⟩
    · exact absurd rfl hk
  have h2 := (h.fo (up_two hu _)).2.1
  rw [List.take_of_length_le h6.2] at h2
  have hab : p.a = p.b := by
    cases hl : p.ld <;> rw [hl] at h2
    · exact h2.symm
    · exact h2
  have hst : p.st = (p.log (!p.ld)).length := by
    unfold Pr.Set at hs
    rw [if_pos (up_two hu _)] at hs
    exact hs
  refine ⟨h6.1, hab, ?_, if_neg hk⟩
  rw [hst]
  cases p.ld
  · show p.b.length = _
    rw [hab]
  · rfl
/-- A side leads alone: b, if it is side 0. -/
def alone (b : Bool) (L : List Cm) : Pr := ⟨if b then L else [], if b then [] else L, b, !b, !b, if b then 1 else 2, L.length⟩
def both (b : Bool) (L : List Cm) : Pr := ⟨L, L, true, true, !b, if b then 1 else 2, L.length⟩
theorem fall_new (b : Bool) : fallP Pr.new (sn b) = alone b [] ∧ fallK Pr.new (sn b) = 0 := by cases b <;> exact ⟨rfl, rfl⟩
theorem alone_log (b : Bool) (L : List Cm) : (alone b L).log (alone b L).ld = L := by cases b <;> rfl
theorem alone_ask (b : Bool) (L : List Cm) (c : Cm) : askP (alone b L) ((alone b L).tm : Int) c = alone b (L ++ [c]) ∧ askN (alone b L) ((alone b L).tm : Int) = L.length ∧ askK (alone b L) ((alone b L).tm : Int) = 0 := by
  cases b <;> simp [askP, askK, askN, alone, Pr.up, Pr.log, Pr.setLog, Pr.settle]
theorem alone_ship (b : Bool) (L : List Cm) (t : Int) : shipP (alone b L) t = alone b L ∧ shipK (alone b L) t = 12 := by
  cases b <;> simp [shipP, shipK, alone]
theorem alone_rise (b : Bool) (L : List Cm) : riseP (alone b L) (sn b) = both b L ∧ riseK (alone b L) (sn b) = 0 := by
  cases b <;> simp [riseP, riseK, alone, both, Pr.up, Pr.log, Pr.setLog, Pr.setUp, sd, sn]
theorem both_ship (b : Bool) (L : List Cm) : shipP (both b L) ((both b L).tm : Int) = both b L ∧ shipK (both b L) ((both b L).tm : Int) = 6 := by
  cases b <;> simp [shipP, shipK, both, Pr.log]
theorem both_log (b s : Bool) (L : List Cm) : (both b L).log s = L := by cases s <;> rfl
theorem alone_tm (b : Bool) (L : List Cm) : (alone b L).tm = if b then 1 else 2 := rfl
theorem ans_at {L : List Cm} {i : Nat} {c : Cm} (h : L[i]? = some c) : ansN (L.take (i + 1)) i = doN (repL [] (L.take i)) c ∧ ansK (L.take (i + 1)) i = doK (repL [] (L.take i)) c := by
  have e1 : (L.take (i + 1))[i]? = some c := by rw [List.getElem?_take, if_pos (Nat.lt_succ_self i)]; exact h
  have e2 : (L.take (i + 1)).take i = L.take i := by rw [List.take_take, Nat.min_eq_left (Nat.le_succ i)]
  unfold ansN ansK
  rw [e1, e2]
  exact ⟨rfl, rfl⟩
end Go.Cor
end
