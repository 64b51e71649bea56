/-
  What a buffer of the chapter is, and what its calls make of it: mathematics alone.
-/
import Derived.Test.YthpcnnkdpgjiiaaHpMath
namespace Go.Proofs.TailMath
open Go.Proofs.HeapMath

/-- A span that has no attributes. -/
structure Sp where
  hi : Nat
  lo : Nat
  id : Nat
  parent : Nat
  name : ByteArray
  start : Int
  stop : Int
  bad : Bool
  rv : Nat
/-- A trace that waits. -/
structure Gr where
  due : Nat
  no : Nat
  hi : Nat
  lo : Nat
  spans : List Sp
/-- A decision. -/
structure Kn where
  hi : Nat
  lo : Nat
  ay : Nat
structure St where
  most : Nat
  sp : Nat
  wait : Nat
  time : Nat
  came : Nat
  K : List Kn
  L : List Gr
def u64 (n : Nat) : Prop := n < 18446744073709551616
def tot (l : List Gr) : Nat := (l.map fun g => g.spans.length).sum
theorem tot_nil : tot [] = 0 := rfl
theorem tot_cons (g : Gr) (l : List Gr) : tot (g :: l) = g.spans.length + tot l := by simp [tot]
theorem tot_append (a b : List Gr) : tot (a ++ b) = tot a + tot b := by simp [tot]
theorem tot_split (a b : List Gr) (g : Gr) : tot (a ++ g :: b) = tot a + (g.spans.length + tot b) := by rw [tot_append, tot_cons]
/-- What is known of a trace. -/
def askK (hi lo : Nat) (K : List Kn) : Option Kn := K.find? fun k => k.hi == hi && k.lo == lo
theorem askK_some {hi lo : Nat} {K : List Kn} {k : Kn} (h : askK hi lo K = some k) : k ∈ K ∧ k.hi = hi ∧ k.lo = lo := by
  have h1 := List.mem_of_find?_eq_some h
  have h2 := List.find?_some h
  simp at h2
  exact ⟨h1, h2⟩
theorem askK_none {hi lo : Nat} {K : List Kn} (h : askK hi lo K = none) : ∀ k ∈ K, ¬ (k.hi = hi ∧ k.lo = lo) := fun k hk e => by
  have := List.find?_eq_none.1 h k hk
  simp at this
  exact this e.1 e.2
/-- A decision is told. -/
def oth (hi lo : Nat) (K : List Kn) : List Kn := K.filter fun k => !(k.hi == hi && k.lo == lo)
def cut (most : Nat) (K : List Kn) : List Kn := if most < K.length then K.tail else K
def dec (most : Nat) (hi lo ay : Nat) (K : List Kn) : List Kn := cut most (oth hi lo K ++ [⟨hi, lo, ay⟩])
def Kn.ne (a b : Kn) : Prop := ¬ (a.hi = b.hi ∧ a.lo = b.lo)
structure Kv (most : Nat) (K : List Kn) : Prop where
  nd : K.Pairwise Kn.ne
  len : K.length ≤ most
  ok : ∀ k ∈ K, u64 k.hi ∧ u64 k.lo ∧ (k.ay = 3 ∨ k.ay = 4)
theorem oth_none {hi lo : Nat} {K : List Kn} (h : ∀ k ∈ K, ¬ (k.hi = hi ∧ k.lo = lo)) : oth hi lo K = K := List.filter_eq_self.2 fun k hk => by
  have := h k hk
  simp
  by_cases e : k.hi = hi
  · exact .inr fun e2 => this ⟨e, e2⟩
  · exact .inl e
theorem oth_split {hi lo ay : Nat} {a b : List Kn} (h : (a ++ ⟨hi, lo, ay⟩ :: b).Pairwise Kn.ne) : oth hi lo (a ++ ⟨hi, lo, ay⟩ :: b) = a ++ b := by
  have h1 : oth hi lo a = a := oth_none fun k hk e => (List.pairwise_append.1 h).2.2 k hk ⟨hi, lo, ay⟩ (by simp) e
  have h2 : oth hi lo b = b := oth_none fun k hk e => (List.pairwise_cons.1 (List.pairwise_append.1 h).2.1).1 k hk ⟨e.1.symm, e.2.symm⟩
  unfold oth at *
  rw [List.filter_append, h1, List.filter_cons, h2]
  simp
theorem dec_kv {most hi lo ay : Nat} {K : List Kn} (h : Kv most K) (h1 : u64 hi) (h2 : u64 lo) (h3 : ay = 3 ∨ ay = 4) : Kv most (dec most hi lo ay K) := by
  have ho : (oth hi lo K).length ≤ K.length := List.length_filter_le _ _
  have hp : (oth hi lo K ++ [(⟨hi, lo, ay⟩ : Kn)]).Pairwise Kn.ne := by
    refine List.pairwise_append.2 ⟨h.nd.sublist List.filter_sublist, by simp, fun x hx y hy => ?_⟩
    rw [List.mem_singleton.1 hy]
    have := (List.mem_filter.1 hx).2
    simp at this
    exact fun e => this.elim (fun h => h e.1) (fun h => h e.2)
  have hk : ∀ k ∈ oth hi lo K ++ [(⟨hi, lo, ay⟩ : Kn)], u64 k.hi ∧ u64 k.lo ∧ (k.ay = 3 ∨ k.ay = 4) := fun k hk => by
    rcases List.mem_append.1 hk with e | e
    · exact h.ok k (List.mem_filter.1 e).1
    · rw [List.mem_singleton.1 e]; exact ⟨h1, h2, h3⟩
  have hl := h.len
  unfold dec cut
  split
  · exact ⟨hp.sublist (List.tail_sublist _), by simp at *; omega, fun k hm => hk k (List.mem_of_mem_tail hm)⟩
  · exact ⟨hp, by omega, hk⟩
theorem dec_known {most hi lo ay as0 : Nat} {a b : List Kn} (h : Kv most (a ++ ⟨hi, lo, as0⟩ :: b)) : dec most hi lo ay (a ++ ⟨hi, lo, as0⟩ :: b) = (a ++ b) ++ [⟨hi, lo, ay⟩] := by
  have hl := h.len
  unfold dec cut
  rw [oth_split h.nd, if_neg]
  simp at *
  omega
theorem dec_room {most hi lo ay : Nat} {K : List Kn} (h : ∀ k ∈ K, ¬ (k.hi = hi ∧ k.lo = lo)) (hl : K.length < most) : dec most hi lo ay K = K ++ [⟨hi, lo, ay⟩] := by
  unfold dec cut
  rw [oth_none h, if_neg]
  simp
  omega
theorem dec_full {most hi lo ay : Nat} {k : Kn} {K : List Kn} (h : ∀ x ∈ k :: K, ¬ (x.hi = hi ∧ x.lo = lo)) (hl : (k :: K).length = most) : dec most hi lo ay (k :: K) = K ++ [⟨hi, lo, ay⟩] := by
  unfold dec cut
  rw [oth_none h, if_pos]
  · rfl
  · simp at *
    omega
/-- A span is put to those of its trace. -/
def Gr.is (g : Gr) (hi lo : Nat) : Bool := g.hi == hi && g.lo == lo
def put (due no : Nat) (s : Sp) (L : List Gr) : List Gr := if L.any (·.is s.hi s.lo) then L.map fun g => if g.is s.hi s.lo then { g with spans := g.spans ++ [s] } else g else L ++ [⟨due, no, s.hi, s.lo, [s]⟩]
def isNew (hi lo : Nat) (L : List Gr) : Bool := !L.any (·.is hi lo)
def Gr.ne (a b : Gr) : Prop := ¬ (a.hi = b.hi ∧ a.lo = b.lo)
theorem is_iff {g : Gr} {hi lo : Nat} : g.is hi lo = true ↔ g.hi = hi ∧ g.lo = lo := by simp [Gr.is]
theorem isNew_true {hi lo : Nat} {L : List Gr} : isNew hi lo L = true ↔ ∀ g ∈ L, ¬ (g.hi = hi ∧ g.lo = lo) := by simp [isNew, Gr.is]
theorem isNew_false {hi lo : Nat} {L : List Gr} (h : isNew hi lo L = false) : ∃ a g b, L = a ++ g :: b ∧ g.hi = hi ∧ g.lo = lo := by
  simp [isNew] at h
  obtain ⟨g, hg, h2⟩ := h
  obtain ⟨a, b, e⟩ := List.append_of_mem hg
  exact ⟨a, g, b, e, is_iff.1 h2⟩
theorem put_new {due no : Nat} {s : Sp} {L : List Gr} (h : isNew s.hi s.lo L = true) : put due no s L = L ++ [⟨due, no, s.hi, s.lo, [s]⟩] := by
  unfold put
  rw [if_neg (by unfold isNew at h; simpa using h)]
theorem map_other {s : Sp} {l : List Gr} (h : ∀ g ∈ l, ¬ (g.hi = s.hi ∧ g.lo = s.lo)) : l.map (fun g => if g.is s.hi s.lo then { g with spans := g.spans ++ [s] } else g) = l := by
  induction l with
  | nil => rfl
  | cons g l ih =>
    rw [List.map_cons, ih fun x hx => h x (by simp [hx]), if_neg fun e => h g (by simp) (is_iff.1 e)]
theorem put_old {due no : Nat} {s : Sp} {a b : List Gr} {g : Gr} (hp : (a ++ g :: b).Pairwise Gr.ne) (h1 : g.hi = s.hi) (h2 : g.lo = s.lo) : put due no s (a ++ g :: b) = a ++ { g with spans := g.spans ++ [s] } :: b := by
  have hi : g.is s.hi s.lo = true := is_iff.2 ⟨h1, h2⟩
  unfold put
  rw [if_pos (List.any_eq_true.2 ⟨g, by simp, hi⟩), List.map_append, List.map_cons, if_pos hi]
  rw [map_other (l := a) fun x hx e => (List.pairwise_append.1 hp).2.2 x hx g (by simp) ⟨e.1.trans h1.symm, e.2.trans h2.symm⟩]
  rw [map_other (l := b) fun x hx e => (List.pairwise_cons.1 (List.pairwise_append.1 hp).2.1).1 x hx ⟨h1.trans e.1.symm, h2.trans e.2.symm⟩]
/-- The traces that wait, as they may. -/
structure Lv (top came : Nat) (L : List Gr) : Prop where
  nd : L.Pairwise Gr.ne
  so : L.Pairwise fun a b => a.no < b.no ∧ a.due ≤ b.due
  ok : ∀ g ∈ L, g.no < came ∧ g.due ≤ top ∧ u64 g.hi ∧ u64 g.lo ∧ g.spans ≠ []
theorem Lv.nil (top came : Nat) : Lv top came [] := ⟨List.Pairwise.nil, List.Pairwise.nil, by simp⟩
theorem Lv.mono {top top' came came' : Nat} {L : List Gr} (h : Lv top came L) (h1 : top ≤ top') (h2 : came ≤ came') : Lv top' came' L := ⟨h.nd, h.so, fun g hg => by
  obtain ⟨a, b, c⟩ := h.ok g hg
  exact ⟨by omega, by omega, c⟩⟩
theorem Lv.sub {top came : Nat} {L L' : List Gr} (h : Lv top came L) (hs : L'.Sublist L) : Lv top came L' := ⟨h.nd.sublist hs, h.so.sublist hs, fun g hg => h.ok g (hs.subset hg)⟩
theorem Lv.new {top came : Nat} {L : List Gr} {s : Sp} (h : Lv top came L) (h1 : u64 s.hi) (h2 : u64 s.lo) (hn : isNew s.hi s.lo L = true) : Lv top (came + 1) (L ++ [⟨top, came, s.hi, s.lo, [s]⟩]) := by
  refine ⟨List.pairwise_append.2 ⟨h.nd, by simp, fun x hx y hy => ?_⟩, List.pairwise_append.2 ⟨h.so, by simp, fun x hx y hy => ?_⟩, fun g hg => ?_⟩
  · rw [List.mem_singleton.1 hy]; exact isNew_true.1 hn x hx
  · rw [List.mem_singleton.1 hy]; exact ⟨(h.ok x hx).1, (h.ok x hx).2.1⟩
  · rcases List.mem_append.1 hg with e | e
    · have := h.ok g e; exact ⟨by omega, this.2⟩
    · rw [List.mem_singleton.1 e]; exact ⟨Nat.lt_succ_self _, Nat.le_refl _, h1, h2, by simp⟩
theorem Lv.old {top came : Nat} {a b : List Gr} {g : Gr} {l : List Sp} (h : Lv top came (a ++ g :: b)) (hl : l ≠ []) : Lv top came (a ++ { g with spans := l } :: b) := by
  obtain ⟨p1, p2, p3⟩ := List.pairwise_append.1 h.nd
  obtain ⟨p4, p5⟩ := List.pairwise_cons.1 p2
  obtain ⟨q1, q2, q3⟩ := List.pairwise_append.1 h.so
  obtain ⟨q4, q5⟩ := List.pairwise_cons.1 q2
  refine ⟨List.pairwise_append.2 ⟨p1, List.pairwise_cons.2 ⟨fun x hx => p4 x hx, p5⟩, fun x hx y hy => ?_⟩, List.pairwise_append.2 ⟨q1, List.pairwise_cons.2 ⟨fun x hx => q4 x hx, q5⟩, fun x hx y hy => ?_⟩, fun x hx => ?_⟩
  · rcases List.mem_cons.1 hy with rfl | e
    · exact p3 x hx g (by simp)
    · exact p3 x hx y (by simp [e])
  · rcases List.mem_cons.1 hy with rfl | e
    · exact q3 x hx g (by simp)
    · exact q3 x hx y (by simp [e])
  · rcases List.mem_append.1 hx with e | e
    · exact h.ok x (by simp [e])
    · rcases List.mem_cons.1 e with rfl | e
      · have := h.ok g (by simp); exact ⟨this.1, this.2.1, this.2.2.1, this.2.2.2.1, hl⟩
      · exact h.ok x (by simp [e])
/-- The timers of the traces that wait. -/
def tms (L : List Gr) : List Tm := L.map fun g => ((g.due : Int), (g.no : Int))
theorem tms_append (a b : List Gr) : tms (a ++ b) = tms a ++ tms b := by simp [tms]
theorem tms_old (a b : List Gr) (g : Gr) (l : List Sp) : tms (a ++ { g with spans := l } :: b) = tms (a ++ g :: b) := by simp [tms]
theorem Lv.lt {top came : Nat} {L : List Gr} (h : Lv top came L) : ∀ t ∈ tms L, lt t ((top : Int), (came : Int)) = true := fun t ht => by
  obtain ⟨g, hg, e⟩ := List.mem_map.1 ht
  obtain ⟨h1, h2, _⟩ := h.ok g hg
  rw [← e, lt_true]
  simp only
  omega
theorem ins_last {s : List Tm} {t : Tm} (h : ∀ a ∈ s, lt a t = true) : ins t s = s ++ [t] := by
  have : s.length = cnt t s := cnt_of (Nat.le_refl _) (fun i hi => h _ (at_mem hi)) (fun hl => absurd hl (Nat.lt_irrefl _))
  unfold ins
  rw [← this, List.take_length, List.drop_length]
theorem isin_tms {no : Nat} {L : List Gr} (h : ∀ g ∈ L, g.no ≠ no) : isin (no : Int) (tms L) = false := isin_false.2 fun t ht => by
  obtain ⟨g, hg, e⟩ := List.mem_map.1 ht
  rw [← e]
  have := h g hg
  simp only
  omega
/-- What is due, and what is not. -/
def dueL (now : Int) (L : List Gr) : List Gr := L.takeWhile fun g => decide ((g.due : Int) ≤ now)
def lateL (now : Int) (L : List Gr) : List Gr := L.dropWhile fun g => decide ((g.due : Int) ≤ now)
theorem due_late (now : Int) (L : List Gr) : dueL now L ++ lateL now L = L := List.takeWhile_append_dropWhile
theorem due_tms (now : Int) (L : List Gr) : dueOf now (tms L) = tms (dueL now L) ∧ lateOf now (tms L) = tms (lateL now L) := by
  unfold dueOf lateOf tms dueL lateL
  rw [List.takeWhile_map, List.dropWhile_map]
  exact ⟨rfl, rfl⟩
theorem due_all {now : Int} {L : List Gr} (h : ∀ g ∈ L, (g.due : Int) ≤ now) : dueL now L = L ∧ lateL now L = [] := by
  unfold dueL lateL
  have h1 : L.takeWhile (fun g => decide ((g.due : Int) ≤ now)) = L := by
    induction L with
    | nil => rfl
    | cons g l ih => rw [List.takeWhile_cons, if_pos (by simpa using h g (by simp)), ih fun x hx => h x (by simp [hx])]
  refine ⟨h1, ?_⟩
  have := List.takeWhile_append_dropWhile (p := fun g : Gr => decide ((g.due : Int) ≤ now)) (l := L)
  rw [h1] at this
  simpa using this
theorem due_no {now : Int} {L : List Gr} (h : ∀ g ∈ L, now < (g.due : Int)) : dueL now L = [] ∧ lateL now L = L := by
  cases L with
  | nil => exact ⟨rfl, rfl⟩
  | cons g l =>
    have : ¬ ((g.due : Int) ≤ now) := by have := h g (by simp); omega
    unfold dueL lateL
    rw [List.takeWhile_cons, List.dropWhile_cons, if_neg (by simpa using this), if_neg (by simpa using this)]
    exact ⟨rfl, rfl⟩

/-- A buffer as it may be. -/
structure Iv (b : St) : Prop where
  most : 1 ≤ b.most ∧ b.most ≤ 5000
  sp : 1 ≤ b.sp ∧ b.sp ≤ 5000
  wait : 1 ≤ b.wait ∧ b.wait ≤ 1099511627776
  time : b.time ≤ 1099511627776
  K : Kv b.most b.K
  L : Lv (b.time + b.wait) b.came b.L
  tot : tot b.L ≤ b.sp
def new (sp wait most : Nat) : St := ⟨most, sp, wait, 0, 0, [], []⟩
theorem new_iv {sp wait most : Nat} (h1 : 1 ≤ sp ∧ sp ≤ 5000) (h2 : 1 ≤ wait ∧ wait ≤ 1099511627776) (h3 : 1 ≤ most ∧ most ≤ 5000) : Iv (new sp wait most) :=
  ⟨h3, h1, h2, by simp [new], ⟨List.Pairwise.nil, by simp [new], by simp [new]⟩, Lv.nil _ _, by simp [new, TailMath.tot]⟩
/-- Does a call at this time tell OK? -/
def okT (b : St) (now : Int) : Bool := decide ((b.time : Int) ≤ now ∧ now ≤ 1099511627776)
def at_ (b : St) (t : Nat) : St := { b with time := t }
theorem Iv.at_ {b : St} (h : Iv b) {t : Nat} (h1 : b.time ≤ t) (h2 : t ≤ 1099511627776) : Iv (at_ b t) := { h with time := h2, L := h.L.mono (by show b.time + b.wait ≤ t + b.wait; omega) (Nat.le_refl _) }
def offered (b : St) (s : Sp) : St := { b with came := if isNew s.hi s.lo b.L then b.came + 1 else b.came, L := put (b.time + b.wait) b.came s b.L }
theorem tot_put {due no : Nat} {s : Sp} {L : List Gr} (h : L.Pairwise Gr.ne) : tot (put due no s L) = tot L + 1 := by
  cases e : isNew s.hi s.lo L
  · obtain ⟨a, g, b, rfl, h1, h2⟩ := isNew_false e
    rw [put_old h h1 h2, tot_split, tot_split]
    simp
    omega
  · rw [put_new e, tot_append, tot_cons]
    simp [tot_nil]
theorem Iv.offered {b : St} (h : Iv b) {s : Sp} (h1 : u64 s.hi) (h2 : u64 s.lo) (hf : TailMath.tot b.L < b.sp) : Iv (offered b s) := by
  refine { h with L := ?_, tot := ?_ }
  · show Lv (b.time + b.wait) (if isNew s.hi s.lo b.L then b.came + 1 else b.came) (put (b.time + b.wait) b.came s b.L)
    cases e : isNew s.hi s.lo b.L
    · obtain ⟨x, g, y, e1, h3, h4⟩ := isNew_false e
      have hL := h.L
      rw [e1] at hL ⊢
      rw [put_old hL.nd h3 h4]
      exact hL.old (by simp)
    · rw [put_new e]
      exact h.L.new h1 h2 e
  · show TailMath.tot (put _ _ s b.L) ≤ b.sp
    rw [tot_put h.L.nd]
    omega
def dued (b : St) (now : Int) : St := { b with L := lateL now b.L }
theorem tot_late (now : Int) (L : List Gr) : tot (dueL now L) + tot (lateL now L) = tot L := by rw [← tot_append, due_late]
theorem Iv.dued {b : St} (h : Iv b) (now : Int) : Iv (dued b now) := { h with L := h.L.sub (List.dropWhile_sublist _), tot := by have := tot_late now b.L; have := h.tot; show TailMath.tot (lateL now b.L) ≤ b.sp; omega }
def decided (b : St) (hi lo ay : Nat) : St := { b with K := dec b.most hi lo ay b.K }
theorem Iv.decided {b : St} (h : Iv b) {hi lo ay : Nat} (h1 : u64 hi) (h2 : u64 lo) (h3 : ay = 3 ∨ ay = 4) : Iv (decided b hi lo ay) := { h with K := dec_kv h.K h1 h2 h3 }
end Go.Proofs.TailMath
