/- Layer 19 in plain values: entries, commands, what a command does. Of no program. -/
import Derived.Test.YtlaighghagcjjaaRow
set_option linter.unusedVariables false
set_option linter.unusedSimpArgs false
namespace Go.Cor
open Go.RowKit

/-- A volume's entry: its number, its epoch, its three nodes, whether it is sealed. -/
structure En where
  vol : Nat
  ep : Nat
  a : Nat
  b : Nat
  c : Nat
  sl : Bool
deriving DecidableEq
def ecl (e : En) : List Value := [.int .i64 (e.vol : Int), .int .i64 (e.ep : Int), .int .i64 (e.a : Int), .int .i64 (e.b : Int), .int .i64 (e.c : Int), .bool e.sl]
def eval (e : En) : Value := .agg #[.int .i64 (e.vol : Int), .int .i64 (e.ep : Int), .int .i64 (e.a : Int), .int .i64 (e.b : Int), .int .i64 (e.c : Int), .bool e.sl]
theorem ecl_len (e : En) : (ecl e).length = 6 := rfl
theorem ecl_one (e : En) : ∀ v ∈ ecl e, v.oneCell' = true := by
  intro v hv
  simp only [ecl, List.mem_cons, List.not_mem_nil, or_false] at hv
  rcases hv with rfl | rfl | rfl | rfl | rfl | rfl <;> rfl
/-- A command. -/
structure Cm where
  kind : Int
  vol : Int
  ep : Int
  at_ : Int
  node : Int
  a : Int
  b : Int
  c : Int
def ccl (c : Cm) : List Value := [.int .i64 c.kind, .int .i64 c.vol, .int .i64 c.ep, .int .i64 c.at_, .int .i64 c.node, .int .i64 c.a, .int .i64 c.b, .int .i64 c.c]
def cval (c : Cm) : Value := .agg #[.int .i64 c.kind, .int .i64 c.vol, .int .i64 c.ep, .int .i64 c.at_, .int .i64 c.node, .int .i64 c.a, .int .i64 c.b, .int .i64 c.c]
theorem ccl_len (c : Cm) : (ccl c).length = 8 := rfl
theorem ccl_one (e : Cm) : ∀ v ∈ ccl e, v.oneCell' = true := by
  intro v hv
  simp only [ccl, List.mem_cons, List.not_mem_nil, or_false] at hv
  rcases hv with rfl | rfl | rfl | rfl | rfl | rfl | rfl | rfl <;> rfl
def near (x : Int) : Prop := 0 ≤ x ∧ x < 256
instance (x : Int) : Decidable (near x) := by unfold near; exact inferInstance
def makeOk (c : Cm) : Prop := near c.a ∧ near c.b ∧ near c.c ∧ c.a ≠ c.b ∧ c.a ≠ c.c ∧ c.b ≠ c.c
instance (c : Cm) : Decidable (makeOk c) := by unfold makeOk; exact inferInstance
/-- Has it the node? -/
def hasE (e : En) (n : Int) : Prop := (e.a : Int) = n ∨ (e.b : Int) = n ∨ (e.c : Int) = n
instance (e : En) (n : Int) : Decidable (hasE e n) := by unfold hasE; exact inferInstance
def lookE (L : List En) (v : Int) : Option En := if 1 ≤ v then L[(v - 1).toNat]? else none
/-- Why an entry's command isn't done. -/
def turnK (e : En) (c : Cm) : Nat :=
  if c.ep = (e.ep : Int) then
    (if c.kind = 2 then (if e.sl = true then 10 else 0)
     else if c.kind = 3 then (if e.sl = true then 0 else 8)
     else if 0 ≤ c.at_ ∧ c.at_ ≤ 2 ∧ near c.node then (if hasE e c.node then 8 else 0) else 1)
  else 13
def turnE (e : En) (c : Cm) : En :=
  if c.kind = 2 then { e with ep := e.ep + 1, sl := true }
  else if c.kind = 3 then { e with ep := e.ep + 1, sl := false }
  else { e with ep := e.ep + 1, a := if c.at_ = 0 then c.node.toNat else e.a, b := if c.at_ = 1 then c.node.toNat else e.b, c := if c.at_ = 2 then c.node.toNat else e.c }
def doK (L : List En) (c : Cm) : Nat :=
  if c.kind = 1 then (if makeOk c then (if 4096 ≤ L.length then 11 else 0) else 1)
  else if c.kind = 2 ∨ c.kind = 3 ∨ c.kind = 4 then
    (match lookE L c.vol with | none => 6 | some e => turnK e c)
  else 1
def doL (L : List En) (c : Cm) : List En :=
  if doK L c = 0 then
    (if c.kind = 1 then L ++ [⟨L.length + 1, 1, c.a.toNat, c.b.toNat, c.c.toNat, false⟩]
     else match lookE L c.vol with | none => L | some e => L.set (c.vol - 1).toNat (turnE e c))
  else L
def doN (L : List En) (c : Cm) : Nat :=
  if doK L c = 0 then
    (if c.kind = 1 then L.length + 1 else match lookE L c.vol with | none => 0 | some e => e.ep + 1)
  else 0
/-- An entry as it may be. -/
def EnOk (e : En) : Prop := e.a < 256 ∧ e.b < 256 ∧ e.c < 256 ∧ e.a ≠ e.b ∧ e.a ≠ e.c ∧ e.b ≠ e.c
/-- Entries as they may be: numbered, of nodes that may be, epochs up to K. -/
structure LOk (L : List En) (K : Nat) : Prop where
  num : ∀ i e, L[i]? = some e → e.vol = i + 1
  ok : ∀ e ∈ L, EnOk e ∧ e.ep ≤ K
  len : L.length ≤ 4096
theorem LOk.nil (K : Nat) : LOk [] K := ⟨(fun i e h => by simp at h), (fun e h => by cases h), (by simp)⟩
theorem LOk.more {L : List En} {K K' : Nat} (h : LOk L K) (hK : K ≤ K') : LOk L K' := ⟨h.num, fun e he => ⟨(h.ok e he).1, Nat.le_trans (h.ok e he).2 hK⟩, h.len⟩
theorem lookE_some {L : List En} {v : Int} {e : En} (h : lookE L v = some e) : 1 ≤ v ∧ L[(v - 1).toNat]? = some e := by
  unfold lookE at h
  split at h
  · exact ⟨by assumption, h⟩
  · cases h
theorem lookE_lt {L : List En} {v : Int} {e : En} (h : lookE L v = some e) : (v - 1).toNat < L.length := (List.getElem?_eq_some_iff.1 (lookE_some h).2).1
theorem lookE_none {L : List En} {v : Int} (h : lookE L v = none) : v < 1 ∨ (L.length : Int) < v := by
  unfold lookE at h
  split at h
  · rw [List.getElem?_eq_none_iff] at h
    omega
  · omega
theorem lookE_at {L : List En} {i : Nat} {e : En} (h : L[i]? = some e) : lookE L ((i : Int) + 1) = some e := by
  unfold lookE
  rw [if_pos (by omega), show ((i : Int) + 1 - 1).toNat = i by omega]
  exact h
theorem turnE_ep (e : En) (c : Cm) : (turnE e c).ep = e.ep + 1 := by
  unfold turnE
  split
  · rfl
  · split <;> rfl
theorem turnE_vol (e : En) (c : Cm) : (turnE e c).vol = e.vol := by
  unfold turnE
  split
  · rfl
  · split <;> rfl
theorem turnE_ok {e : En} {c : Cm} (h : EnOk e) (hk : turnK e c = 0) : EnOk (turnE e c) := by
  obtain ⟨h1, h2, h3, h4, h5, h6⟩ := h
  unfold turnE
  unfold turnK at hk
  split at hk
  · by_cases k2 : c.kind = 2
    · rw [if_pos k2]; exact ⟨h1, h2, h3, h4, h5, h6⟩
    · by_cases k3 : c.kind = 3
      · rw [if_neg k2, if_pos k3]; exact ⟨h1, h2, h3, h4, h5, h6⟩
      · rw [if_neg k2, if_neg k3] at hk ⊢
        split at hk
        · rename_i hn
          split at hk
          · omega
          · rename_i hh
            obtain ⟨q1, q2, q3, q4⟩ := hn
            unfold hasE at hh
            refine ⟨?_, ?_, ?_, ?_, ?_, ?_⟩ <;> dsimp only <;> repeat (split <;> try omega)
            all_goals omega
        · omega
  · omega
/-- The kinds that ask for a volume, done: which entry. -/
theorem doK_zero {L : List En} {c : Cm} (h : doK L c = 0) (h1 : c.kind ≠ 1) : ∃ e, lookE L c.vol = some e ∧ turnK e c = 0 ∧ doL L c = L.set (c.vol - 1).toNat (turnE e c) ∧ doN L c = e.ep + 1 := by
  have h0 := h
  unfold doK at h
  rw [if_neg h1] at h
  split at h
  · cases hl : lookE L c.vol with
    | none => rw [hl] at h; cases h
    | some e =>
      rw [hl] at h
      refine ⟨e, rfl, h, ?_, ?_⟩
      · unfold doL; rw [if_pos h0, if_neg h1, hl]
      · unfold doN; rw [if_pos h0, if_neg h1, hl]
  · omega
theorem doK_make {L : List En} {c : Cm} (h : doK L c = 0) (h1 : c.kind = 1) : makeOk c ∧ L.length < 4096 ∧ doL L c = L ++ [⟨L.length + 1, 1, c.a.toNat, c.b.toNat, c.c.toNat, false⟩] ∧ doN L c = L.length + 1 := by
  have h0 := h
  unfold doK at h
  rw [if_pos h1] at h
  split at h
  · split at h
    · omega
    · refine ⟨by assumption, by omega, ?_, ?_⟩
      · unfold doL; rw [if_pos h0, if_pos h1]
      · unfold doN; rw [if_pos h0, if_pos h1]
  · omega
theorem doL_bad {L : List En} {c : Cm} (h : doK L c ≠ 0) : doL L c = L ∧ doN L c = 0 := ⟨if_neg h, if_neg h⟩
theorem doL_ok {L : List En} {c : Cm} {K : Nat} (h : LOk L K) (hK : 1 ≤ K) : LOk (doL L c) (K + 1) := by
  by_cases hk : doK L c = 0
  · by_cases h1 : c.kind = 1
    · obtain ⟨⟨q1, q2, q3, q4, q5, q6⟩, hl, e, _⟩ := doK_make hk h1
      rw [e]
      unfold near at q1 q2 q3
      refine ⟨fun i x hx => ?_, fun x hx => ?_, by rw [List.length_append, List.length_singleton]; omega⟩
      · by_cases hi : i < L.length
        · rw [List.getElem?_append_left hi] at hx; exact h.num i x hx
        · rw [List.getElem?_append_right (by omega)] at hx
          have hlt := (List.getElem?_eq_some_iff.1 hx).1
          rw [List.length_singleton] at hlt
          rw [show i - L.length = 0 by omega] at hx
          obtain rfl := Option.some.inj hx
          show L.length + 1 = i + 1
          omega
      · rcases List.mem_append.1 hx with hx | hx
        · exact ⟨(h.ok x hx).1, Nat.le_succ_of_le (h.ok x hx).2⟩
        · obtain rfl := List.mem_singleton.1 hx
          exact ⟨⟨by dsimp only; omega, by dsimp only; omega, by dsimp only; omega, by dsimp only; omega, by dsimp only; omega, by dsimp only; omega⟩, by dsimp only; omega⟩
    · obtain ⟨e, hl, ht, e1, _⟩ := doK_zero hk h1
      have hmem := List.mem_of_getElem? (lookE_some hl).2
      rw [e1]
      refine ⟨fun i x hx => ?_, fun x hx => ?_, by rw [List.length_set]; exact h.len⟩
      · rw [List.getElem?_set] at hx
        split at hx
        · split at hx
          · obtain rfl := Option.some.inj hx
            rename_i h2 _
            rw [turnE_vol, ← h2]
            exact h.num _ _ (lookE_some hl).2
          · cases hx
        · exact h.num i x hx
      · rcases List.mem_or_eq_of_mem_set hx with hx | rfl
        · exact ⟨(h.ok x hx).1, Nat.le_succ_of_le (h.ok x hx).2⟩
        · exact ⟨turnE_ok (h.ok e hmem).1 ht, by rw [turnE_ep]; have := (h.ok e hmem).2; omega⟩
  · rw [(doL_bad hk).1]
    exact h.more (Nat.le_succ K)
/-- Of commands one behind the other: the entries, and how many had no error. -/
def repL (L : List En) : List Cm → List En
  | [] => L
  | c :: r => repL (doL L c) r
def repN (L : List En) : List Cm → Nat
  | [] => 0
  | c :: r => (if doK L c = 0 then 1 else 0) + repN (doL L c) r
theorem repL_append (L : List En) (x y : List Cm) : repL L (x ++ y) = repL (repL L x) y := by
  induction x generalizing L with
  | nil => rfl
  | cons c r ih => exact ih _
theorem repN_append (L : List En) (x y : List Cm) : repN L (x ++ y) = repN L x + repN (repL L x) y := by
  induction x generalizing L with
  | nil => show repN L y = 0 + repN L y; omega
  | cons c r ih =>
    show (if doK L c = 0 then 1 else 0) + repN (doL L c) (r ++ y) = (if doK L c = 0 then 1 else 0) + repN (doL L c) r + repN (repL (doL L c) r) y
    rw [ih]
    omega
theorem repL_ok {L : List En} {K : Nat} (h : LOk L K) (hK : 1 ≤ K) (l : List Cm) : LOk (repL L l) (K + l.length) := by
  induction l generalizing L K with
  | nil => exact h
  | cons c r ih =>
    have := ih (doL_ok (c := c) h hK) (by omega)
    rw [show K + (c :: r).length = K + 1 + r.length by simp; omega]
    exact this
theorem repN_le (L : List En) (l : List Cm) : repN L l ≤ l.length := by
  induction l generalizing L with
  | nil => exact Nat.le_refl _
  | cons c r ih =>
    have := ih (doL L c)
    show (if doK L c = 0 then 1 else 0) + repN (doL L c) r ≤ r.length + 1
    split <;> omega
/-- The volumes that have the node. -/
def onL (L : List En) (n : Int) : List Nat := (L.filter (fun e => decide (hasE e n))).map (·.vol)
def icl (n : Nat) : List Value := [.int .i64 (n : Int)]
end Go.Cor
