/-
  What the law of 'once' asks: what came in, what went out, what waits.
-/
import Derived.Test.YtbmhhidlmdhacaaTlTaken
namespace Go.Proofs.Ytbmhhidlmdhacaa
open Go.Proofs.HeapMath Go.Proofs.TailMath

structure OnI (i now : Nat) (ins outs : List Int) (b : St) : Prop where
  K : b.K = []
  wait : b.wait ≤ 20
  time : b.time ≤ now
  came : b.came ≤ i
  fine : ∀ g ∈ b.L, Fine g ∧ ∀ s ∈ g.spans, s.start < (i : Int)
  perm : (outs ++ stOf b.L).Perm ins
  up : ins.Pairwise fun a b => a < b
  lt : ∀ x ∈ ins, 0 ≤ x ∧ x < (i : Int)
  len : ins.length ≤ i
theorem OnI.start (sp wt : Nat) (h : wt ≤ 20) : OnI 0 0 [] [] (new sp wt 1) :=
  ⟨rfl, h, Nat.le_refl _, Nat.le_refl _, fun g hg => absurd hg (by simp [new]), by simp [new, stOf], List.Pairwise.nil, by simp, Nat.le_refl _⟩
theorem OnI.busy {i now t : Nat} {ins outs : List Int} {b : St} (h : OnI i now ins outs b) : OnI (i + 1) t ins outs (at_ b t) :=
  ⟨h.K, h.wait, Nat.le_refl _, Nat.le_succ_of_le h.came, fun g hg => ⟨(h.fine g hg).1, fun s hs => by have := (h.fine g hg).2 s hs; omega⟩, h.perm, h.up, fun x hx => by have := h.lt x hx; omega, Nat.le_succ_of_le h.len⟩
theorem stOf_put {due no : Nat} {s : Sp} {L : List Gr} (hL : L.Pairwise Gr.ne) : (stOf (put due no s L)).Perm (stOf L ++ [s.start]) := by
  cases e : isNew s.hi s.lo L
  · obtain ⟨a, g, b, rfl, h1, h2⟩ := isNew_false e
    rw [put_old hL h1 h2]
    have e1 : stOf (a ++ { g with spans := g.spans ++ [s] } :: b) = stOf a ++ stG g ++ ([s.start] ++ stOf b) := by simp [stOf, stG]
    have e2 : stOf (a ++ g :: b) ++ [s.start] = stOf a ++ stG g ++ (stOf b ++ [s.start]) := by simp [stOf, stG]
    rw [e1, e2]
    exact List.Perm.append_left _ List.perm_append_comm
  · rw [put_new e]
    simp [stOf, stG]
theorem fine_put {due no i : Nat} {s : Sp} {L : List Gr} (hL : L.Pairwise Gr.ne) (h : ∀ g ∈ L, Fine g ∧ ∀ s ∈ g.spans, s.start < (i : Int)) (hs : s.start = (i : Int)) (hi : i ≤ 1000) :
    ∀ g ∈ put due no s L, Fine g ∧ ∀ s ∈ g.spans, s.start < ((i + 1 : Nat) : Int) := fun x hx => by
  have old : ∀ g ∈ L, Fine g ∧ ∀ s ∈ g.spans, s.start < ((i + 1 : Nat) : Int) := fun g hg => ⟨(h g hg).1, fun s hs => by have := (h g hg).2 s hs; omega⟩
  cases e : isNew s.hi s.lo L
  · obtain ⟨a, g, b, rfl, h1, h2⟩ := isNew_false e
    rw [put_old hL h1 h2] at hx
    rcases List.mem_append.1 hx with e1 | e1
    · exact old x (by simp [e1])
    · rcases List.mem_cons.1 e1 with rfl | e1
      · obtain ⟨f, l⟩ := h g (by simp)
        refine ⟨⟨fun y hy => ?_, ?_⟩, fun y hy => ?_⟩
        · rcases List.mem_append.1 hy with e2 | e2
          · exact f.all y e2
          · rw [List.mem_singleton.1 e2]; exact ⟨h1.symm, h2.symm, by omega, by omega⟩
        · refine List.pairwise_append.2 ⟨f.up, by simp, fun y hy z hz => ?_⟩
          rw [List.mem_singleton.1 hz, hs]
          exact l y hy
        · rcases List.mem_append.1 hy with e2 | e2
          · have := l y e2; omega
          · rw [List.mem_singleton.1 e2]; omega
      · exact old x (by simp [e1])
  · rw [put_new e] at hx
    rcases List.mem_append.1 hx with e1 | e1
    · exact old x e1
    · rw [List.mem_singleton.1 e1]
      refine ⟨⟨fun y hy => ?_, by simp⟩, fun y hy => ?_⟩
      · rw [List.mem_singleton.1 hy]; exact ⟨rfl, rfl, by omega, by omega⟩
      · rw [List.mem_singleton.1 hy]; omega
theorem OnI.taken {i now t : Nat} {s : Sp} {ins outs : List Int} {b : St} (h : OnI i now ins outs b) (hv : Iv b) (hs : s.start = (i : Int)) (hi : i ≤ 1000) : OnI (i + 1) t (ins ++ [(i : Int)]) outs (offered (at_ b t) s) := by
  refine ⟨h.K, h.wait, Nat.le_refl _, ?_, fine_put hv.L.nd h.fine hs hi, ?_, ?_, fun x hx => ?_, ?_⟩
  · have := came_offered (at_ b t) s
    have h2 : (at_ b t).came = b.came := rfl
    have := h.came
    omega
  · have h1 : (stOf (put (t + b.wait) b.came s b.L)).Perm (stOf b.L ++ [s.start]) := stOf_put hv.L.nd
    show (outs ++ stOf (put (t + b.wait) b.came s b.L)).Perm (ins ++ [(i : Int)])
    refine (h1.append_left outs).trans ?_
    rw [← List.append_assoc, hs]
    exact h.perm.append_right _
  · refine List.pairwise_append.2 ⟨h.up, by simp, fun y hy z hz => ?_⟩
    rw [List.mem_singleton.1 hz]
    exact (h.lt y hy).2
  · rcases List.mem_append.1 hx with e | e
    · have := h.lt x e; omega
    · rw [List.mem_singleton.1 e]; omega
  · have := h.len
    simp
    omega
theorem OnI.due {i now t : Nat} {ins outs : List Int} {b : St} (h : OnI i now ins outs b) : OnI i t ins (outs ++ stOf (dueL (t : Int) b.L)) (dued (at_ b t) (t : Int)) ∧ ∀ g ∈ dueL (t : Int) b.L, Fine g := by
  have hs : (lateL (t : Int) b.L).Sublist b.L := List.dropWhile_sublist _
  have hd : (dueL (t : Int) b.L).Sublist b.L := List.takeWhile_sublist _
  refine ⟨⟨h.K, h.wait, Nat.le_refl _, h.came, fun g hg => h.fine g (hs.subset hg), ?_, h.up, h.lt, h.len⟩, fun g hg => (h.fine g (hd.subset hg)).1⟩
  show (outs ++ stOf (dueL (t : Int) b.L) ++ stOf (lateL (t : Int) b.L)).Perm ins
  rw [List.append_assoc, ← stOf_append, due_late]
  exact h.perm
theorem OnI.all {i now : Nat} {ins outs : List Int} {b : St} (h : OnI i now ins outs b) (hv : Iv b) : dueL ((now + 100 : Nat) : Int) b.L = b.L ∧ lateL ((now + 100 : Nat) : Int) b.L = [] := due_all fun g hg => by
  have := (hv.L.ok g hg).2.1
  have := h.time
  have := h.wait
  omega
theorem OnI.some_ {i now : Nat} {ins outs : List Int} {b : St} (h : OnI i now ins outs b) : outs.length + (stOf b.L).length ≤ i := by
  have h1 := h.perm.length_eq
  have h2 := h.len
  rw [List.length_append] at h1
  omega
theorem due_len {l : List Gr} {t : Int} : (stOf (dueL t l)).length ≤ (stOf l).length := by
  have e : stOf l = stOf (dueL t l) ++ stOf (lateL t l) := by rw [← stOf_append, due_late]
  rw [e, List.length_append]
  omega
theorem len_stOf {l : List Gr} (h : ∀ g ∈ l, g.spans ≠ []) : l.length ≤ (stOf l).length := by
  induction l with
  | nil => exact Nat.le_refl _
  | cons g l ih =>
    have h1 := ih fun x hx => h x (by simp [hx])
    have h2 := List.length_pos_iff.2 (h g (by simp))
    have e : stOf (g :: l) = stG g ++ stOf l := rfl
    rw [e, List.length_append]
    simp only [stG, List.length_map, List.length_cons]
    omega
/-- At the end all that came in went out, each once. -/
theorem on_end {ins outs : List Int} {i : Nat} (hp : outs.Perm ins) (hu : ins.Pairwise fun a b => a < b) (hl : ∀ x ∈ ins, 0 ≤ x ∧ x < (i : Int)) : outs.Nodup ∧ (∀ x ∈ outs, 0 ≤ x ∧ x < (i : Int)) ∧ ∀ x ∈ ins, x ∈ outs :=
  ⟨(hp.nodup_iff).2 (hu.imp fun h e => by omega), fun x hx => hl x (hp.subset hx), fun x hx => hp.symm.subset hx⟩
end Go.Proofs.Ytbmhhidlmdhacaa
