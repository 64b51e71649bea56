/-
  A disk as its files, by rising numbers: what each call makes of them. No memory.
-/
namespace Go.Proofs.DiskMath

/-- A file: its number, its bytes, how many of them are sure. -/
structure Fi where
  no : Nat
  bs : List UInt8
  sure : Nat
instance : Inhabited Fi := ⟨⟨0, [], 0⟩⟩
/-- What holds of each disk. -/
structure Iv (s : List Fi) : Prop where
  rise : s.Pairwise (fun a b => a.no < b.no)
  ok : ∀ f ∈ s, f.no ≤ 1099511627776 ∧ f.sure ≤ f.bs.length
/-- No more files, and no more bytes in one, than so many. -/
def Bd (N : Nat) (s : List Fi) : Prop := s.length ≤ N ∧ ∀ f ∈ s, f.bs.length ≤ N
theorem Bd.mono {N M : Nat} {s : List Fi} (h : Bd N s) (hm : N ≤ M) : Bd M s := ⟨Nat.le_trans h.1 hm, fun f hf => Nat.le_trans (h.2 f hf) hm⟩
theorem Bd.nil (N : Nat) : Bd N [] := ⟨Nat.zero_le _, by simp⟩
theorem Iv.nil : Iv [] := ⟨List.Pairwise.nil, by simp⟩

def seek (no : Int) (s : List Fi) : Option Fi := s.find? fun f => decide ((f.no : Int) = no)
/-- A file in its place. -/
def ins (f : Fi) : List Fi → List Fi
  | [] => [f]
  | g :: s => if f.no < g.no then f :: g :: s else if f.no = g.no then f :: s else g :: ins f s
def write (s : List Fi) (no : Nat) (b : List UInt8) : List Fi := ins ⟨no, ((seek no s).getD ⟨no, [], 0⟩).bs ++ b, ((seek no s).getD ⟨no, [], 0⟩).sure⟩ s
def sync (s : List Fi) (no : Int) : List Fi := match seek no s with
  | none => s
  | some f => ins ⟨f.no, f.bs, f.bs.length⟩ s
def remove (s : List Fi) (no : Int) : List Fi := s.filter fun f => !decide ((f.no : Int) = no)
def crash1 (draw : Nat) (f : Fi) : Nat := f.sure + draw % (f.bs.length - f.sure + 1)
def left1 (draw : Nat) (f : Fi) : Nat := draw / (f.bs.length - f.sure + 1)
def kept1 (f : Fi) (n : Nat) : List Fi := if n = 0 then [] else [⟨f.no, f.bs.take n, n⟩]
def crash : Nat → List Fi → List Fi
  | _, [] => []
  | draw, f :: s => kept1 f (crash1 draw f) ++ crash (left1 draw f) s

theorem seek_some {no : Int} {s : List Fi} {f : Fi} (h : seek no s = some f) : f ∈ s ∧ (f.no : Int) = no := by
  unfold seek at h
  exact ⟨List.mem_of_find?_eq_some h, by simpa using List.find?_some h⟩
theorem seek_none {no : Int} {s : List Fi} (h : seek no s = none) : ∀ f ∈ s, (f.no : Int) ≠ no := fun f hf e => by
  unfold seek at h
  rw [List.find?_eq_none] at h
  exact h f hf (by simpa using e)
theorem seek_of_none {no : Int} {s : List Fi} (h : ∀ f ∈ s, (f.no : Int) ≠ no) : seek no s = none := by
  unfold seek
  rw [List.find?_eq_none]
  intro f hf
  simpa using h f hf
theorem seek_nil (no : Int) : seek no [] = none := rfl
theorem seek_cons (no : Int) (f : Fi) (s : List Fi) : seek no (f :: s) = if (f.no : Int) = no then some f else seek no s := by
  unfold seek
  rw [List.find?_cons]
  by_cases h : (f.no : Int) = no
  · simp [h]
  · simp [h]
theorem split_of {s : List Fi} {f : Fi} (h : f ∈ s) : ∃ a b, s = a ++ f :: b := List.append_of_mem h
theorem Iv.parts {a b : List Fi} {f : Fi} (h : Iv (a ++ f :: b)) : (∀ g ∈ a, g.no < f.no) ∧ ∀ g ∈ b, f.no < g.no := by
  have h1 := List.pairwise_append.1 h.rise
  exact ⟨fun g hg => h1.2.2 g hg f (by simp), fun g hg => (List.pairwise_cons.1 h1.2.1).1 g hg⟩
theorem seek_mid {a b : List Fi} {f : Fi} (h : Iv (a ++ f :: b)) : seek f.no (a ++ f :: b) = some f := by
  unfold seek
  rw [List.find?_append, List.find?_cons]
  have : a.find? (fun g => decide ((g.no : Int) = (f.no : Int))) = none := by
    rw [List.find?_eq_none]
    intro g hg
    have := h.parts.1 g hg
    simp; omega
  rw [this]
  simp
theorem seek_mem {s : List Fi} {f : Fi} (h : Iv s) (hf : f ∈ s) : seek f.no s = some f := by
  obtain ⟨a, b, rfl⟩ := split_of hf
  exact seek_mid h
theorem ins_mid {a b : List Fi} {f g : Fi} (h : Iv (a ++ f :: b)) (e : g.no = f.no) : ins g (a ++ f :: b) = a ++ g :: b := by
  have h1 := h.parts.1
  clear h
  induction a with
  | nil => simp [ins, e]
  | cons x a ih =>
    have hx := h1 x (by simp)
    rw [List.cons_append, ins, if_neg (by omega), if_neg (by omega), ih (fun y hy => h1 y (by simp [hy]))]
    rfl
/-- Where a new file comes. -/
theorem ins_new (f : Fi) {s : List Fi} (h : Iv s) (hn : ∀ g ∈ s, g.no ≠ f.no) : ∃ a b, s = a ++ b ∧ ins f s = a ++ f :: b ∧ (∀ g ∈ a, g.no < f.no) ∧ ∀ g ∈ b, f.no < g.no := by
  induction s with
  | nil => exact ⟨[], [], rfl, rfl, by simp, by simp⟩
  | cons x s ih =>
    have hx := hn x (by simp)
    have hr := List.pairwise_cons.1 h.rise
    by_cases e : f.no < x.no
    · refine ⟨[], x :: s, rfl, by simp [ins, e], by simp, fun g hg => ?_⟩
      rcases List.mem_cons.1 hg with rfl | hg
      · exact e
      · have := hr.1 g hg; omega
    · obtain ⟨a, b, e1, e2, e3, e4⟩ := ih ⟨hr.2, fun g hg => h.ok g (by simp [hg])⟩ (fun g hg => hn g (by simp [hg]))
      refine ⟨x :: a, b, by rw [e1]; rfl, ?_, fun g hg => ?_, e4⟩
      · rw [ins, if_neg e, if_neg (by omega), e2]; rfl
      · rcases List.mem_cons.1 hg with rfl | hg
        · omega
        · exact e3 g hg
theorem ins_between {a b : List Fi} {f : Fi} (h1 : ∀ g ∈ a, g.no < f.no) (h2 : ∀ g ∈ b, f.no < g.no) : ins f (a ++ b) = a ++ f :: b := by
  induction a with
  | nil =>
    cases b with
    | nil => rfl
    | cons g b => simp [ins, h2 g (by simp)]
  | cons x a ih =>
    have hx := h1 x (by simp)
    rw [List.cons_append, ins, if_neg (by omega), if_neg (by omega), ih (fun y hy => h1 y (by simp [hy]))]
    rfl
theorem Iv.mid {a b : List Fi} {f g : Fi} (h : Iv (a ++ f :: b)) (e : g.no = f.no) (hs : g.sure ≤ g.bs.length) : Iv (a ++ g :: b) := by
  have h1 := List.pairwise_append.1 h.rise
  have h2 := List.pairwise_cons.1 h1.2.1
  refine ⟨List.pairwise_append.2 ⟨h1.1, List.pairwise_cons.2 ⟨fun x hx => by rw [e]; exact h2.1 x hx, h2.2⟩, fun x hx y hy => ?_⟩, fun x hx => ?_⟩
  · rcases List.mem_cons.1 hy with rfl | hy
    · rw [e]; exact h1.2.2 x hx f (by simp)
    · exact h1.2.2 x hx y (by simp [hy])
  · rcases List.mem_append.1 hx with hx | hx
    · exact h.ok x (by simp [hx])
    · rcases List.mem_cons.1 hx with rfl | hx
      · exact ⟨by rw [e]; exact (h.ok f (by simp)).1, hs⟩
      · exact h.ok x (by simp [hx])
theorem Iv.put {a b : List Fi} {f : Fi} (h : Iv (a ++ b)) (h1 : ∀ g ∈ a, g.no < f.no) (h2 : ∀ g ∈ b, f.no < g.no) (hn : f.no ≤ 1099511627776) (hs : f.sure ≤ f.bs.length) : Iv (a ++ f :: b) := by
  have h3 := List.pairwise_append.1 h.rise
  refine ⟨List.pairwise_append.2 ⟨h3.1, List.pairwise_cons.2 ⟨h2, h3.2.1⟩, fun x hx y hy => ?_⟩, fun x hx => ?_⟩
  · rcases List.mem_cons.1 hy with rfl | hy
    · exact h1 x hx
    · exact h3.2.2 x hx y hy
  · rcases List.mem_append.1 hx with hx | hx
    · exact h.ok x (by simp [hx])
    · rcases List.mem_cons.1 hx with rfl | hx
      · exact ⟨hn, hs⟩
      · exact h.ok x (by simp [hx])
theorem Iv.drop {a b : List Fi} {f : Fi} (h : Iv (a ++ f :: b)) : Iv (a ++ b) := by
  have h1 := List.pairwise_append.1 h.rise
  have h2 := List.pairwise_cons.1 h1.2.1
  refine ⟨List.pairwise_append.2 ⟨h1.1, h2.2, fun x hx y hy => h1.2.2 x hx y (by simp [hy])⟩, fun x hx => h.ok x ?_⟩
  rcases List.mem_append.1 hx with hx | hx <;> simp [hx]
theorem remove_mid {a b : List Fi} {f : Fi} (h : Iv (a ++ f :: b)) : remove (a ++ f :: b) f.no = a ++ b := by
  have hp := h.parts
  unfold remove
  rw [List.filter_append, List.filter_cons]
  have e1 : a.filter (fun g => !decide ((g.no : Int) = (f.no : Int))) = a := List.filter_eq_self.2 fun g hg => by
    have := hp.1 g hg
    simp; omega
  have e2 : b.filter (fun g => !decide ((g.no : Int) = (f.no : Int))) = b := List.filter_eq_self.2 fun g hg => by
    have := hp.2 g hg
    simp; omega
  rw [e1, e2]
  simp
theorem remove_none {s : List Fi} {no : Int} (h : seek no s = none) : remove s no = s := by
  unfold remove
  exact List.filter_eq_self.2 fun g hg => by simpa using seek_none h g hg
theorem crash1_le {draw : Nat} {f : Fi} (h : f.sure ≤ f.bs.length) : f.sure ≤ crash1 draw f ∧ crash1 draw f ≤ f.bs.length := by
  have := Nat.mod_lt draw (show 0 < f.bs.length - f.sure + 1 by omega)
  unfold crash1
  omega
/-- What a crash leaves. -/
theorem crash_mem {s : List Fi} : ∀ {draw : Nat} {g : Fi}, (∀ f ∈ s, f.sure ≤ f.bs.length) → g ∈ crash draw s → ∃ f ∈ s, g.no = f.no ∧ f.sure ≤ g.sure ∧ g.sure ≤ f.bs.length ∧ g.bs = f.bs.take g.sure ∧ g.sure = g.bs.length ∧ g.sure ≠ 0 := by
  induction s with
  | nil => intro draw g _ h; simp [crash] at h
  | cons f s ih =>
    intro draw g hs h
    rcases List.mem_append.1 h with h | h
    · unfold kept1 at h
      have := crash1_le (draw := draw) (hs f (by simp))
      by_cases e : crash1 draw f = 0
      · rw [if_pos e] at h; simp at h
      · rw [if_neg e] at h
        obtain rfl := List.mem_singleton.1 h
        exact ⟨f, by simp, rfl, this.1, this.2, rfl, by simp; omega, e⟩
    · obtain ⟨x, hx, hr⟩ := ih (fun y hy => hs y (by simp [hy])) h
      exact ⟨x, by simp [hx], hr⟩
theorem crash_rise {s : List Fi} : ∀ {draw : Nat}, Iv s → (crash draw s).Pairwise (fun a b => a.no < b.no) := by
  induction s with
  | nil => intro draw _; exact List.Pairwise.nil
  | cons f s ih =>
    intro draw h
    have hr := List.pairwise_cons.1 h.rise
    have hs : Iv s := ⟨hr.2, fun g hg => h.ok g (by simp [hg])⟩
    refine List.pairwise_append.2 ⟨?_, ih hs, fun a ha b hb => ?_⟩
    · unfold kept1; split <;> simp
    · obtain ⟨x, hx, e, _⟩ := crash_mem (fun y hy => (hs.ok y hy).2) hb
      have : a.no = f.no := by
        unfold kept1 at ha
        split at ha
        · simp at ha
        · rw [List.mem_singleton.1 ha]
      rw [this, e]
      exact hr.1 x hx
theorem Iv.crash {s : List Fi} (h : Iv s) (draw : Nat) : Iv (crash draw s) := ⟨crash_rise h, fun g hg => by
  obtain ⟨f, hf, e1, _, _, _, e2, _⟩ := crash_mem (fun y hy => (h.ok y hy).2) hg
  exact ⟨by rw [e1]; exact (h.ok f hf).1, by omega⟩⟩
theorem kept1_length (f : Fi) (n : Nat) : (kept1 f n).length ≤ 1 := by
  unfold kept1; split <;> simp
theorem crash_length (s : List Fi) : ∀ draw, (crash draw s).length ≤ s.length := by
  induction s with
  | nil => intro _; simp [crash]
  | cons f s ih =>
    intro draw
    have := ih (left1 draw f)
    have := kept1_length f (crash1 draw f)
    simp [crash]; omega
theorem Bd.crash {N : Nat} {s : List Fi} (h : Bd N s) (hi : Iv s) (draw : Nat) : Bd N (crash draw s) := ⟨Nat.le_trans (crash_length s draw) h.1, fun g hg => by
  obtain ⟨f, hf, _, _, e1, _, e2, _⟩ := crash_mem (fun y hy => (hi.ok y hy).2) hg
  have := h.2 f hf
  omega⟩
/-- A crash where all is sure takes nothing but what is empty. -/
theorem crash_sure {s : List Fi} : ∀ {draw : Nat}, (∀ f ∈ s, f.sure = f.bs.length ∧ f.sure ≠ 0) → crash draw s = s := by
  induction s with
  | nil => intro _ _; rfl
  | cons f s ih =>
    intro draw h
    obtain ⟨h1, h2⟩ := h f (by simp)
    have e1 : crash1 draw f = f.sure := by
      unfold crash1
      rw [h1, Nat.sub_self]
      simp [Nat.mod_one]
    rw [crash, ih (fun g hg => h g (by simp [hg])), e1]
    unfold kept1
    rw [if_neg h2, h1, List.take_length]
    cases f
    simp at h1
    simp [h1]
theorem crash_twice {s : List Fi} (h : Iv s) (x y : Nat) : DiskMath.crash y (DiskMath.crash x s) = DiskMath.crash x s := crash_sure fun g hg => by
  obtain ⟨f, _, _, _, _, _, e2, e3⟩ := crash_mem (fun y hy => (h.ok y hy).2) hg
  exact ⟨e2, e3⟩
/-- Files that stand in parts. -/
theorem crash_append (a b : List Fi) : ∀ draw, ∃ d, DiskMath.crash draw (a ++ b) = DiskMath.crash draw a ++ DiskMath.crash d b := by
  induction a with
  | nil => intro draw; exact ⟨draw, rfl⟩
  | cons f a ih =>
    intro draw
    obtain ⟨d, e⟩ := ih (left1 draw f)
    exact ⟨d, by simp [DiskMath.crash, e]⟩

theorem write_old {a b : List Fi} {f : Fi} (h : Iv (a ++ f :: b)) (c : List UInt8) : write (a ++ f :: b) f.no c = a ++ ⟨f.no, f.bs ++ c, f.sure⟩ :: b := by
  unfold write
  rw [seek_mid h]
  exact ins_mid h rfl
theorem write_new {s : List Fi} {no : Nat} (hn : seek no s = none) (c : List UInt8) : write s no c = ins ⟨no, c, 0⟩ s := by
  unfold write
  rw [hn]
  rfl
theorem sync_old {a b : List Fi} {f : Fi} (h : Iv (a ++ f :: b)) : sync (a ++ f :: b) f.no = a ++ ⟨f.no, f.bs, f.bs.length⟩ :: b := by
  unfold sync
  rw [seek_mid h]
  exact ins_mid h rfl
theorem sync_none {s : List Fi} {no : Int} (h : seek no s = none) : sync s no = s := by
  unfold sync
  rw [h]
theorem Iv.write {s : List Fi} (h : Iv s) {no : Nat} (hno : no ≤ 1099511627776) (c : List UInt8) : Iv (write s no c) := by
  cases e : seek no s with
  | none =>
    rw [write_new e]
    obtain ⟨a, b, rfl, e2, e3, e4⟩ := ins_new ⟨no, c, 0⟩ h (fun g hg h2 => seek_none e g hg (by simp at h2; omega))
    rw [e2]
    exact h.put e3 e4 hno (Nat.zero_le _)
  | some f =>
    obtain ⟨hf, e1⟩ := seek_some e
    obtain ⟨a, b, rfl⟩ := split_of hf
    obtain rfl : f.no = no := by omega
    rw [write_old h]
    have := h.ok f (by simp)
    exact h.mid rfl (by simp; omega)
theorem ins_length (f : Fi) (s : List Fi) : (ins f s).length ≤ s.length + 1 := by
  induction s with
  | nil => simp [ins]
  | cons g s ih =>
    rw [ins]
    split
    · simp
    · split
      · simp
      · simp; omega
theorem ins_mem {f : Fi} {s : List Fi} : ∀ {g : Fi}, g ∈ ins f s → g = f ∨ g ∈ s := by
  induction s with
  | nil => intro g h; simpa [ins] using h
  | cons x s ih =>
    intro g h
    rw [ins] at h
    split at h
    · exact (List.mem_cons.1 h).imp id id
    · split at h
      · rcases List.mem_cons.1 h with h | h
        · exact .inl h
        · exact .inr (by simp [h])
      · rcases List.mem_cons.1 h with h | h
        · exact .inr (by simp [h])
        · exact (ih h).imp id fun h => by simp [h]
theorem Bd.write {N M : Nat} {s : List Fi} (h : Bd N s) (no : Nat) (c : List UInt8) (h1 : N + 1 ≤ M) (h2 : N + c.length ≤ M) : Bd M (write s no c) := by
  refine ⟨Nat.le_trans (ins_length _ _) (by have := h.1; omega), fun g hg => ?_⟩
  rcases ins_mem hg with rfl | hg
  · cases e : seek no s with
    | none => simp; omega
    | some f =>
      have := h.2 f (seek_some e).1
      simp; omega
  · have := h.2 g hg; omega
theorem sync_length (s : List Fi) (no : Int) (h : Iv s) : (sync s no).length = s.length := by
  cases e : seek no s with
  | none => rw [sync_none e]
  | some f =>
    obtain ⟨hf, e1⟩ := seek_some e
    obtain ⟨a, b, rfl⟩ := split_of hf
    rw [← e1, sync_old h]
    simp
theorem Bd.sync {N : Nat} {s : List Fi} (h : Bd N s) (hi : Iv s) (no : Int) : Bd N (DiskMath.sync s no) := by
  refine ⟨by rw [sync_length s no hi]; exact h.1, fun g hg => ?_⟩
  unfold DiskMath.sync at hg
  cases e : seek no s with
  | none => rw [e] at hg; exact h.2 g hg
  | some f =>
    rw [e] at hg
    rcases ins_mem hg with rfl | hg
    · exact h.2 f (seek_some e).1
    · exact h.2 g hg
theorem Iv.sync {s : List Fi} (h : Iv s) (no : Int) : Iv (DiskMath.sync s no) := by
  cases e : seek no s with
  | none => rw [sync_none e]; exact h
  | some f =>
    obtain ⟨hf, e1⟩ := seek_some e
    obtain ⟨a, b, rfl⟩ := split_of hf
    rw [← e1, sync_old h]
    exact h.mid rfl (Nat.le_refl _)
theorem Iv.remove {s : List Fi} (h : Iv s) (no : Int) : Iv (DiskMath.remove s no) := ⟨h.rise.sublist List.filter_sublist, fun f hf => h.ok f (List.mem_filter.1 hf).1⟩
theorem Bd.remove {N : Nat} {s : List Fi} (h : Bd N s) (no : Int) : Bd N (DiskMath.remove s no) := ⟨Nat.le_trans (List.length_filter_le _ _) h.1, fun f hf => h.2 f (List.mem_filter.1 hf).1⟩
end Go.Proofs.DiskMath
