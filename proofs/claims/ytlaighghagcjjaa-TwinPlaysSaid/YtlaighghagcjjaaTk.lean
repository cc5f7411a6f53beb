/- Package corncriblaw20: TwinKeeps. -/
import Derived.Test.YtlaighghagcjjaaTb
namespace Go.Proofs.Ytlaighghagcjjaa
open Go.RowKit Go.Cor
set_option linter.unusedVariables false
set_option linter.unusedSimpArgs false

/-- The first answers. -/
def ans (f : List Cm → Nat → Nat) (L : List Cm) (K : Nat) : List Nat := (List.range K).map (f L)
theorem ans_congr {f : List Cm → Nat → Nat} {L M : List Cm} {K : Nat} (h : ∀ i, i < K → f L i = f M i) : ans f L K = ans f M K := by
  unfold ans
  exact List.map_congr_left fun i hi => h i (List.mem_range.1 hi)
/-- The law's own two rows: the first answers of log L, beside the pair's blocks S. -/
structure Nu (B : Nat) (S : Nat → Prop) (nv ev : Value) (K K2 : Nat) (L : List Cm) (wx : World) : Prop where
  n : wx.ownsRow B 3 1 nv K (row icl (ans ansN L K))
  e : wx.ownsRow B 3 1 ev K2 (row icl (ans ansK L K2))
  ns : ∀ k, nv.ownBlock = some k → ¬ S k
  es : ∀ k, ev.ownBlock = some k → ¬ S k
  ne : ∀ k, nv.ownBlock = some k → ev.ownBlock ≠ some k
section
variable {B : Nat} {S S' : Nat → Prop} {nv ev : Value} {K K2 : Nat} {L M : List Cm} {wx w' : World}
theorem Nu.nil (B : Nat) (S : Nat → Prop) (L : List Cm) (wx : World) : Nu B S (.slice none 0 0) (.slice none 0 0) 0 0 L wx :=
  ⟨World.ownsRow_nil _ _ _ _, World.ownsRow_nil _ _ _ _, (fun k h => by simp [Value.ownBlock] at h), (fun k h => by simp [Value.ownBlock] at h), (fun k h => by simp [Value.ownBlock] at h)⟩
theorem Nu.below (h : Nu B S nv ev K K2 L wx) (hb : Below wx.heap.size wx w') : Nu B S nv ev K K2 L w' :=
  ⟨ownsRow_below h.n hb (Nat.le_refl _), ownsRow_below h.e hb (Nat.le_refl _), h.ns, h.es, h.ne⟩
theorem Nu.kept {T : Nat → Prop} (h : Nu B S nv ev K K2 L wx) (hk : Kept T wx w') (hn : ∀ k, nv.ownBlock = some k → ¬ T k) (he : ∀ k, ev.ownBlock = some k → ¬ T k) : Nu B S nv ev K K2 L w' :=
  ⟨ownsRow_kept h.n hk hn, ownsRow_kept h.e hk he, h.ns, h.es, h.ne⟩
theorem Nu.call (h : Nu B S nv ev K K2 L wx) (hk : Kept S wx w') (hS : ∀ k, S' k → S k ∨ wx.heap.size ≤ k) : Nu B S' nv ev K K2 L w' :=
  ⟨ownsRow_kept h.n hk h.ns, ownsRow_kept h.e hk h.es, fun k hk1 hs => (hS k hs).elim (h.ns k hk1) (fun h1 => by have := (h.n.lt k hk1).2; omega), fun k hk1 hs => (hS k hs).elim (h.es k hk1) (fun h1 => by have := (h.e.lt k hk1).2; omega), h.ne⟩
theorem Nu.to (h : Nu B S nv ev K K L wx) (hm : L.take K = M.take K) : Nu B S nv ev K K M wx := by
  obtain ⟨h1, h2, h3, h4, h5⟩ := h
  refine ⟨?_, ?_, h3, h4, h5⟩
  · rw [← ans_congr (f := ansN) (L := L) (M := M) (K := K) (fun i hi => (ans_take hm hi).1)]; exact h1
  · rw [← ans_congr (f := ansK) (L := L) (M := M) (K := K) (fun i hi => (ans_take hm hi).2)]; exact h2
end
theorem Th.grown {w wx w' : World} {g : Nat} {S : Nat → Prop} {p : Pr} {K : Nat} (h : Th w wx g S p K) {o : Option Nat} (hg : wx.grownBy w' o) (ho : ∀ k, o = some k → w.heap.size ≤ k ∧ ¬ S k) : Th w w' g S p K :=
  h.kept (T := fun k => o = some k) ((Kept.refl (fun k => o = some k) wx).grown hg (fun k e => .inl e)) (fun k hs e => (ho k e).2 hs) (fun k hk e => by have := (ho k e).1; omega)
theorem Try.sizeAct20 : (Try.prog.info? 35).map (·.size) = some 11 := by kernel_rfl
/-- An act of a slice of acts. -/
theorem act_at20 {w : World} {v : Value} {l : List Ac20} {i : Nat} {a : Ac20} (hv : IsX w 11 v l.length (row acl l)) (he : l[i]? = some a) :
    ∃ b o, (∀ W, (Instr.indexAt 22 v (.int .i64 (i : Int))).run Try.prog W = .ok (.pointer (some ⟨b, o, none⟩)) W) ∧ w.cell? ⟨b, o, none⟩ = some (.int .i64 a.kind) ∧ w.cell? ⟨b, o + 1, none⟩ = some (.int .i64 a.term) ∧ w.cell? ⟨b, o + 2, none⟩ = some (.int .i64 a.side) ∧ w.cell? ⟨b, o + 3, none⟩ = some (.int .i64 a.c.kind) ∧ w.cell? ⟨b, o + 4, none⟩ = some (.int .i64 a.c.vol) ∧ w.cell? ⟨b, o + 5, none⟩ = some (.int .i64 a.c.ep) ∧ w.cell? ⟨b, o + 6, none⟩ = some (.int .i64 a.c.at_) ∧ w.cell? ⟨b, o + 7, none⟩ = some (.int .i64 a.c.node) ∧ w.cell? ⟨b, o + 8, none⟩ = some (.int .i64 a.c.a) ∧ w.cell? ⟨b, o + 9, none⟩ = some (.int .i64 a.c.b) ∧ w.cell? ⟨b, o + 10, none⟩ = some (.int .i64 a.c.c) := by
  obtain ⟨b, o, hx, _, hc⟩ := indexAt_X (P := Try.prog) hv 22 35 Try.underlying22 Try.sizeAct20 i (List.getElem?_eq_some_iff.1 he).1
  have hg : ∀ j, j < 11 → w.cell? ⟨b, o + j, none⟩ = (acl a)[j]? := fun j hj => by rw [hc j hj, row_get acl_len he j hj]
  exact ⟨b, o, hx, hg 0 (by decide), hg 1 (by decide), hg 2 (by decide), hg 3 (by decide), hg 4 (by decide), hg 5 (by decide), hg 6 (by decide), hg 7 (by decide), hg 8 (by decide), hg 9 (by decide), hg 10 (by decide)⟩
end Go.Proofs.Ytlaighghagcjjaa
