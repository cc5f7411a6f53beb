/- Layer 20 in plain values: how many are settled, exactly; both sides brought up; all shipped. Of no program. -/
import Derived.Test.YtlaighghagcjjaaTm
set_option linter.unusedVariables false
set_option linter.unusedSimpArgs false
namespace Go.Cor
open Go.RowKit

/-- While the side that follows is up, what it has is settled; while it isn't, all that the leading one has. -/
def Pr.Set (p : Pr) : Prop := p.st = if p.up (!p.ld) = true then (p.log (!p.ld)).length else (p.log p.ld).length
theorem Pr.Set.new : Pr.new.Set := rfl
theorem ask_set {p : Pr} (h : p.Ok) (hs : p.Set) (t : Int) (c : Cm) : (askP p t c).Set := by
  unfold askP
  split
  · split
    · rename_i hu
      unfold Pr.Set at hs ⊢
      simp only [Pr.st_setLog, Pr.ld_setLog, Pr.up_setLog, Pr.log_setLog_n]
      rw [if_pos hu] at hs ⊢
      exact hs
    · rename_i hu
      unfold Pr.Set at hs ⊢
      simp only [Pr.st_settle, Pr.st_setLog, Pr.ld_settle, Pr.ld_setLog, Pr.up_settle, Pr.up_setLog, Pr.log_settle, Pr.log_setLog, List.length_append, List.length_singleton]
      rw [if_neg hu] at hs ⊢
      split <;> omega
  · exact hs
theorem ship_set {p : Pr} (h : p.Ok) (hs : p.Set) (t : Int) : (shipP p t).Set := by
  unfold shipP
  split
  · rename_i hk
    unfold shipK at hk
    split at hk
    · rename_i hu
      split at hk
      · split at hk
        · omega
        · rename_i hlt
          unfold Pr.Set at hs ⊢
          simp only [Pr.st_settle, Pr.st_setLog, Pr.ld_settle, Pr.ld_setLog, Pr.up_settle, Pr.up_setLog, Pr.log_settle, Pr.log_setLog, List.length_take]
          rw [if_pos (up_two hu _)] at hs ⊢
          split <;> omega
      · omega
    · omega
  · exact hs
theorem fall_set {p : Pr} (h : p.Ok) (hs : p.Set) (n : Int) : (fallP p n).Set := by
  have hst := h.st
  unfold fallP
  split
  · rename_i hk
    obtain ⟨s, hsd⟩ : ∃ s, sd n = s := ⟨_, rfl⟩
    rw [hsd]
    split
    · rename_i hu
      split
      · rename_i hl
        subst hl
        have hle := h.le hu
        have h3 := (h.fo hu).2.2
        unfold Pr.Set at hs ⊢
        simp only [Pr.st_settle, Pr.st_next, Pr.st_setUp, Pr.ld_settle, Pr.ld_next, Pr.up_settle, Pr.up_next, Bool.not_not, Pr.up_setUp, Pr.log_settle, Pr.log_next, Pr.log_setUp]
        simp only [Bool.false_eq_true, if_false]
        split <;> omega
      · rename_i hl
        obtain rfl : s = !p.ld := by cases s <;> cases hld : p.ld <;> simp_all
        unfold Pr.Set at hs ⊢
        simp only [Pr.st_settle, Pr.st_setUp, Pr.ld_settle, Pr.ld_setUp, Pr.up_settle, Pr.up_setUp, Pr.log_settle, Pr.log_setUp]
        simp only [Bool.false_eq_true, if_false]
        split <;> omega
    · rename_i hu
      unfold Pr.Set at hs ⊢
      simp only [Pr.st_setUp, Pr.ld_setUp, Pr.log_setUp]
      by_cases hl : s = p.ld
      · subst hl
        rw [Pr.up_setUp_n, if_neg hu]
        rw [if_neg hu] at hs
        exact hs
      · obtain rfl : s = !p.ld := by cases s <;> cases hld : p.ld <;> simp_all
        rw [Pr.up_setUp]
        simp only [Bool.false_eq_true, if_false]
        have hup : p.up (!p.ld) = true := by
          unfold fallK at hk
          rw [hsd] at hk
          split at hk
          · split at hk
            · assumption
            · omega
          · omega
        have := (h.fo hup).1
        rw [Bool.not_not] at hu
        exact absurd this hu
  · exact hs
theorem rise_set {p : Pr} (h : p.Ok) (hs : p.Set) (n : Int) : (riseP p n).Set := by
  have hst := h.st
  unfold riseP
  split
  · rename_i hk
    obtain ⟨s, hsd⟩ : ∃ s, sd n = s := ⟨_, rfl⟩
    unfold riseK at hk
    rw [hsd] at hk ⊢
    split at hk
    · split at hk
      · omega
      · rename_i hus
        split at hk
        · rename_i huo
          rw [if_pos huo]
          have hl : p.ld = !s := by
            by_cases e : p.ld = s
            · have := (h.fo (by rw [e]; exact huo)).1
              rw [e] at this
              exact absurd this hus
            · cases s <;> cases hld : p.ld <;> simp_all
          unfold Pr.Set at hs ⊢
          simp only [Pr.st_setLog, Pr.st_setUp, Pr.ld_setLog, Pr.ld_setUp, Pr.up_setLog]
          rw [hl] at hs ⊢
          simp only [Bool.not_not] at hs ⊢
          rw [if_neg hus] at hs
          rw [Pr.up_setUp, if_pos rfl, Pr.log_setLog]
          exact hs
        · rename_i huo
          split at hk
          · rename_i hl
            subst hl
            rw [if_neg huo]
            unfold Pr.Set at hs ⊢
            simp only [Pr.st_settle, Pr.st_next, Pr.st_setUp, Pr.ld_settle, Pr.ld_next, Pr.up_settle, Pr.up_next, Pr.up_setUp_n, Pr.log_settle, Pr.log_next, Pr.log_setUp]
            rw [if_neg huo] at hs ⊢
            split <;> omega
          · omega
    · omega
  · exact hs
theorem act_set {p : Pr} (h : p.Ok) (hs : p.Set) (a : Ac20) : (actP p a).Set := by
  unfold actP
  split
  · exact ask_set h hs _ _
  · split
    · exact ship_set h hs _
    · split
      · exact fall_set h hs _
      · exact rise_set h hs _
/-- Who led last is brought up, and the other one then. -/
theorem rise_both {p : Pr} (h : p.Ok) : (riseP (riseP p (sn p.ld)) (sn (!p.ld))).u0 = true ∧ (riseP (riseP p (sn p.ld)) (sn (!p.ld))).u1 = true := by
  have k0 : ∀ s, (0 : Int) ≤ ((sn s : Nat) : Int) ∧ ((sn s : Nat) : Int) ≤ 1 := fun s => by have := sn_le s; omega
  have e1 : (riseP p (sn p.ld)).up p.ld = true ∧ (riseP p (sn p.ld)).ld = p.ld ∧ (riseP p (sn p.ld)).up (!p.ld) = p.up (!p.ld) := by
    by_cases hu : p.up p.ld = true
    · have hk : riseK p (sn p.ld) ≠ 0 := by
        unfold riseK
        rw [if_pos (k0 _), sd_sn, if_pos hu]
        decide
      unfold riseP
      rw [if_neg hk]
      exact ⟨hu, rfl, rfl⟩
    · have ho : ¬ p.up (!p.ld) = true := fun e => hu (h.fo e).1
      have hk : riseK p (sn p.ld) = 0 := by
        unfold riseK
        rw [if_pos (k0 _), sd_sn, if_neg hu, if_neg ho, if_pos rfl]
      unfold riseP
      rw [if_pos hk, sd_sn, if_neg ho]
      exact ⟨by simp, by simp, by simp⟩
  obtain ⟨q, hq⟩ : ∃ q, riseP p (sn p.ld) = q := ⟨_, rfl⟩
  rw [hq] at e1 ⊢
  obtain ⟨h1, h2, _⟩ := e1
  by_cases hu : q.up (!p.ld) = true
  · have hk : riseK q (sn (!p.ld)) ≠ 0 := by
      unfold riseK
      rw [if_pos (k0 _), sd_sn, if_pos hu]
      decide
    unfold riseP
    rw [if_neg hk]
    exact two_up h1 hu
  · have hk : riseK q (sn (!p.ld)) = 0 := by
      unfold riseK
      rw [if_pos (k0 _), sd_sn, if_neg hu, Bool.not_not, if_pos h1]
    unfold riseP
    rw [if_pos hk, sd_sn, Bool.not_not, if_pos h1]
    exact two_up (s := p.ld) (by simp [h1]) (by simp)
/-- A command shipped between two that are up. -/
theorem ship_step {p : Pr} (h : p.Ok) (hu : p.u0 = true ∧ p.u1 = true) (hk : shipK p p.tm = 0) :
    (shipP p p.tm).u0 = true ∧ (shipP p p.tm).u1 = true ∧ ((shipP p p.tm).log (!(shipP p p.tm).ld)).length = (p.log (!p.ld)).length + 1 ∧ (shipP p p.tm).log (shipP p p.tm).ld = p.log p.ld := by
  have hlt : ¬ (p.log p.ld).length ≤ (p.log (!p.ld)).length := by
    unfold shipK at hk
    rw [if_pos hu, if_pos rfl] at hk
    split at hk
    · omega
    · assumption
  unfold shipP
  rw [if_pos hk]
  have h1 : ∀ t, ((p.setLog (!p.ld) ((p.log p.ld).take ((p.log (!p.ld)).length + 1))).settle ((p.log (!p.ld)).length + 1)).up t = true := fun t => by
    rw [Pr.up_settle, Pr.up_setLog]
    exact up_two hu t
  refine ⟨h1 false, h1 true, ?_, ?_⟩
  · simp only [Pr.ld_settle, Pr.ld_setLog, Pr.log_settle, Pr.log_setLog, List.length_take]
    omega
  · simp only [Pr.ld_settle, Pr.ld_setLog, Pr.log_settle, Pr.log_setLog_n']
theorem ship_end {p : Pr} (h : p.Ok) (hs : p.Set) (hu : p.u0 = true ∧ p.u1 = true) (hk : shipK p p.tm ≠ 0) : shipK p p.tm = 6 ∧ p.a = p.b ∧ p.st = p.a.length ∧ shipP p p.tm = p := by
  have h6 : shipK p p.tm = 6 ∧ (p.log p.ld).length ≤ (p.log (!p.ld)).length := by
    unfold shipK at hk ⊢
    rw [if_pos hu, if_pos rfl] at hk ⊢
    split at hk
    · rename_i hle
      rw [if_pos hle]
      exact ⟨rfl, hle⟩
    · exact absurd rfl hk
  have h2 := (h.fo (up_two hu _)).2.1
  rw [List.take_of_length_le h6.2] at h2
  have hab : p.a = p.b := by
    cases hl : p.ld <;> rw [hl] at h2
    · exact h2.symm
    · exact h2
  have hst : p.st = (p.log (!p.ld)).length := by
    unfold Pr.Set at hs
    rw [if_pos (up_two hu _)] at hs
    exact hs
  refine ⟨h6.1, hab, ?_, if_neg hk⟩
  rw [hst]
  cases p.ld
  · show p.b.length = _
    rw [hab]
  · rfl
/-- A side leads alone: b, if it is side 0. -/
def alone (b : Bool) (L : List Cm) : Pr := ⟨if b then L else [], if b then [] else L, b, !b, !b, if b then 1 else 2, L.length⟩
def both (b : Bool) (L : List Cm) : Pr := ⟨L, L, true, true, !b, if b then 1 else 2, L.length⟩
theorem fall_new (b : Bool) : fallP Pr.new (sn b) = alone b [] ∧ fallK Pr.new (sn b) = 0 := by cases b <;> exact ⟨rfl, rfl⟩
theorem alone_log (b : Bool) (L : List Cm) : (alone b L).log (alone b L).ld = L := by cases b <;> rfl
theorem alone_ask (b : Bool) (L : List Cm) (c : Cm) : askP (alone b L) ((alone b L).tm : Int) c = alone b (L ++ [c]) ∧ askN (alone b L) ((alone b L).tm : Int) = L.length ∧ askK (alone b L) ((alone b L).tm : Int) = 0 := by
  cases b <;> simp [askP, askK, askN, alone, Pr.up, Pr.log, Pr.setLog, Pr.settle]
theorem alone_ship (b : Bool) (L : List Cm) (t : Int) : shipP (alone b L) t = alone b L ∧ shipK (alone b L) t = 12 := by
  cases b <;> simp [shipP, shipK, alone]
theorem alone_rise (b : Bool) (L : List Cm) : riseP (alone b L) (sn b) = both b L ∧ riseK (alone b L) (sn b) = 0 := by
  cases b <;> simp [riseP, riseK, alone, both, Pr.up, Pr.log, Pr.setLog, Pr.setUp, sd, sn]
theorem both_ship (b : Bool) (L : List Cm) : shipP (both b L) ((both b L).tm : Int) = both b L ∧ shipK (both b L) ((both b L).tm : Int) = 6 := by
  cases b <;> simp [shipP, shipK, both, Pr.log]
theorem both_log (b s : Bool) (L : List Cm) : (both b L).log s = L := by cases s <;> rfl
theorem alone_tm (b : Bool) (L : List Cm) : (alone b L).tm = if b then 1 else 2 := rfl
theorem ans_at {L : List Cm} {i : Nat} {c : Cm} (h : L[i]? = some c) : ansN (L.take (i + 1)) i = doN (repL [] (L.take i)) c ∧ ansK (L.take (i + 1)) i = doK (repL [] (L.take i)) c := by
  have e1 : (L.take (i + 1))[i]? = some c := by rw [List.getElem?_take, if_pos (Nat.lt_succ_self i)]; exact h
  have e2 : (L.take (i + 1)).take i = L.take i := by rw [List.take_take, Nat.min_eq_left (Nat.le_succ i)]
  unfold ansN ansK
  rw [e1, e2]
  exact ⟨rfl, rfl⟩
end Go.Cor
