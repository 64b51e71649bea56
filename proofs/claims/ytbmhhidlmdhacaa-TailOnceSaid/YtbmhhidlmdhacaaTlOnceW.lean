/-
  Two rows of ints of the law's own beside a buffer.
-/
import Derived.Test.YtbmhhidlmdhacaaTlOnceM
import Derived.Test.YtbmhhidlmdhacaaTlArgs
namespace Go.Proofs.Ytbmhhidlmdhacaa
open Go.RowKit Go.Maps Go.Proofs.HeapMath Go.Proofs.TailMath

/-- Own rows, appended: whatever they hold. -/
theorem app_own {T Ts size bytes : Nat} {z : Value} {i0 : TypeInfo} (hu : Try.prog.underlying Ts = some (.slice T)) (hi : Try.prog.info? T = some i0) (hz0 : i0.zero = some z) (hz1 : i0.size = size) (hz2 : i0.bytes = bytes) (hzs : z.cells.size = size) (hsz : 0 < size)
    {w : World} {base base2 n m cap c : Nat} {A B : Option Addr} {ty : TypeId} {xs ys : List Value} (hown : w.ownsRow base T size (.slice A n cap) n xs) (hr : w.ownsRow base2 T size (.slice B m c) m ys) (h1 : ∀ u ∈ ys, u.oneCell' = true) (hb : n + m ≤ 1000) (hby : (n + m) * bytes ≤ 140737488355328) (hbase : base ≤ w.heap.size) :
    ∃ A' cap' w', (Builtin.append_ #[Ts, Ts] ty #[.slice A n cap, .slice B m c]).run Try.prog w = .ok (.slice A' (n + m) cap') w' ∧ w'.ownsRow base T size (.slice A' (n + m) cap') (n + m) (xs ++ ys) ∧ w.grownBy w' (Value.slice A n cap).ownBlock ∧ ∀ g, (Value.slice A' (n + m) cap').ownBlock = some g → (Value.slice A n cap).ownBlock = some g ∨ w.heap.size ≤ g := by
  by_cases h0 : m = 0
  · subst h0
    have hl2 : ys = [] := List.eq_nil_of_length_eq_zero (by simpa using hr.1)
    subst hl2
    rcases hr.2 with ⟨e, _⟩ | ⟨g, c', cur, e, _⟩
    · injection e with e1 _ e2
      subst e1 e2
      exact ⟨A, cap, w, run_append_owned_none (P := Try.prog) w base Ts ty T i0 size hu hi _ n _ hown, by simpa using hown, ⟨rfl, rfl, rfl, Nat.le_refl _, fun _ _ _ => rfl⟩, fun g hg => .inl hg⟩
    · injection e with e1 _ e2
      subst e1 e2
      obtain ⟨v', w', q1, q2, q3, _, q5⟩ := run_append_own_at (P := Try.prog) w base Ts ty T i0 z size bytes hu hi hz0 hz1 hz2 hzs hsz _ n _ hown ⟨g, 0, none⟩ 0 c [] (by simp) (by simp) (by simp) (by unfold maxLen; omega) hby hbase
      rcases q2.2 with ⟨e2, en2⟩ | ⟨g2, cap2, cur2, e2, _⟩
      · subst e2
        exact ⟨none, 0, w', by rw [q1, en2], by rw [en2] at q2 ⊢; simpa using q2, q3, fun g hg => by simp [Value.ownBlock] at hg⟩
      · subst e2
        exact ⟨some ⟨g2, 0, none⟩, cap2, w', q1, by simpa using q2, q3, fun g' hg' => by
          rcases q5 with h | h
          · exact .inl (by rw [← h]; exact hg')
          · rw [h] at hg'; injection hg' with hg'; exact .inr (by omega)⟩
  · obtain ⟨g, c', e, _, _⟩ := hr.form (by omega)
    injection e with e1 _ e2
    subst e1 e2
    obtain ⟨g2, cap2, w', q1, q2, q3, q4, _⟩ := run_append_lies (P := Try.prog) w Ts ty base T i0 z size bytes hu hi hz0 hz1 hz2 hzs hsz _ n _ hown ⟨g, 0, none⟩ m c ys hr.1 (hr.cells (g := g) rfl) h1 (by omega) (by unfold maxLen; omega) hby hbase _ rfl
    exact ⟨some ⟨g2, 0, none⟩, cap2, w', q1, q2, q3, fun x hx => by
      simp [Value.ownBlock] at hx
      subst hx
      rcases q4 with h | h
      · exact .inl h
      · exact .inr (by omega)⟩
theorem vI_one (l : List Int) : ∀ u ∈ vI l, u.oneCell' = true := fun u hu => by
  obtain ⟨x, _, rfl⟩ := List.mem_map.1 hu
  rfl
theorem app_ints {w : World} {ops : Array Oper} {rest : List Oper} {o : Oper} {a : Act} {Q : Exit → Act → World → Prop} (hgd : o.guard = none) (s x : Operand)
    (ho : o.op = .call { callee := .builtin .append, args := #[s, x], argTypes := #[26, 26] })
    (base base2 : Nat) (A B : Option Addr) (n cap m c nm : Nat) (hnm : n + m = nm) (xs ys : List Int) (hs : a.eval s = .slice A n cap) (hown : w.ownsRow base 3 1 (.slice A n cap) n (vI xs)) (hx : a.eval x = .slice B m c) (hr : w.ownsRow base2 3 1 (.slice B m c) m (vI ys))
    (hb : n + m ≤ 1000) (hbase : base ≤ w.heap.size)
    (h : ∀ A' cap' w', w'.ownsRow base 3 1 (.slice A' nm cap') nm (vI (xs ++ ys)) → w.grownBy w' (Value.slice A n cap).ownBlock → (∀ g, (Value.slice A' nm cap').ownBlock = some g → (Value.slice A n cap).ownBlock = some g ∨ w.heap.size ≤ g) → wpList Try.prog ops Q rest (a.put o.dst (.slice A' nm cap')) w') : wpList Try.prog ops Q (o :: rest) a w := by
  subst hnm
  obtain ⟨i0, hi, hz0, hz1, hz2⟩ := info_parts info_int'
  obtain ⟨A', cap', w', k1, k2, k3, k5⟩ := app_own (ty := o.type) Try.underlying26 hi hz0 hz1 hz2 rfl (by decide) hown hr (vI_one ys) hb (by omega) hbase
  rw [← vI_append] at k2
  refine wpList_plain hgd fun _ hK => ?_
  unfold Oper.wp execOp
  simp only [ho, resolve, invoke, builtin, Sem.run_bind, Sem.run_pure, Result.andThen_ok, List.map_toArray, List.map_cons, List.map_nil, hs, hx, k1]
  exact hK _ _ (h A' cap' w' k2 k3 k5)
structure OnW (B : Nat) (W : World) (A : Option Addr) (n cap : Nat) (ins : List Int) (A2 : Option Addr) (n2 cap2 : Nat) (outs : List Int) (bs : List Nat) : Prop where
  rowI : W.ownsRow B 3 1 (.slice A n cap) n (vI ins)
  rowO : W.ownsRow B 3 1 (.slice A2 n2 cap2) n2 (vI outs)
  farI : ∀ g, (Value.slice A n cap).ownBlock = some g → g ∉ bs
  farO : ∀ g, (Value.slice A2 n2 cap2).ownBlock = some g → g ∉ bs
  ne : ∀ g, (Value.slice A n cap).ownBlock = some g → (Value.slice A2 n2 cap2).ownBlock = some g → False
theorem OnW.nil (B : Nat) (W : World) (bs : List Nat) : OnW B W none 0 0 [] none 0 0 [] bs :=
  ⟨World.ownsRow_nil _ _ _ _, World.ownsRow_nil _ _ _ _, fun g hg => by simp [Value.ownBlock] at hg, fun g hg => by simp [Value.ownBlock] at hg, fun g hg => by simp [Value.ownBlock] at hg⟩
theorem OnW.lens {B : Nat} {W : World} {A A2 : Option Addr} {n cap n2 cap2 : Nat} {ins outs : List Int} {bs : List Nat} (h : OnW B W A n cap ins A2 n2 cap2 outs bs) : ins.length = n ∧ outs.length = n2 := by
  have h1 := h.rowI.1
  have h2 := h.rowO.1
  simp [vI] at h1 h2
  exact ⟨h1, h2⟩
theorem OnW.mut {B : Nat} {W W' : World} {A A2 : Option Addr} {n cap n2 cap2 : Nat} {ins outs : List Int} {bs bs' : List Nat} (h : OnW B W A n cap ins A2 n2 cap2 outs bs) (hm : Mut bs W W') (hx : Ext W bs bs') : OnW B W' A n cap ins A2 n2 cap2 outs bs' :=
  ⟨row_same h.rowI fun g hg => hm.block g (h.rowI.lt g hg).2 (h.farI g hg), row_same h.rowO fun g hg => hm.block g (h.rowO.lt g hg).2 (h.farO g hg), fun g hg => hx.not (h.farI g hg) (h.rowI.lt g hg).2, fun g hg => hx.not (h.farO g hg) (h.rowO.lt g hg).2, h.ne⟩
theorem OnW.later {B : Nat} {W W' : World} {A A2 : Option Addr} {n cap n2 cap2 : Nat} {ins outs : List Int} {bs : List Nat} (h : OnW B W A n cap ins A2 n2 cap2 outs bs) (hb : Below W.heap.size W W') : OnW B W' A n cap ins A2 n2 cap2 outs bs :=
  ⟨row_same h.rowI fun g hg => hb.block g (h.rowI.lt g hg).2, row_same h.rowO fun g hg => hb.block g (h.rowO.lt g hg).2, h.farI, h.farO, h.ne⟩
theorem OnW.pushI {B : Nat} {W W2 : World} {A A2 : Option Addr} {n cap n2 cap2 g cap' : Nat} {ins outs : List Int} {bs : List Nat} {x : Int} {o : Obj} (h : OnW B W A n cap ins A2 n2 cap2 outs bs) (hlt : ∀ k ∈ bs, k < W.heap.size) (hgr : (W.alloc o).grownBy W2 (Value.slice A n cap).ownBlock) (hown : W2.ownsRow B 3 1 (.slice (some ⟨g, 0, none⟩) (n + 1) cap') (n + 1) (vI ins ++ [.int .i64 x])) (hor : (Value.slice A n cap).ownBlock = some g ∨ (W.alloc o).heap.size ≤ g) :
    OnW B W2 (some ⟨g, 0, none⟩) (n + 1) cap' (ins ++ [x]) A2 n2 cap2 outs bs := by
  have hs : (W.alloc o).heap.size = W.heap.size + 1 := World.size_alloc _ _
  refine ⟨by rw [vI_append]; exact hown, row_same h.rowO fun k hk => ?_, fun k hk => ?_, h.farO, fun k hk hk2 => ?_⟩
  · have hl := (h.rowO.lt k hk).2
    exact (hgr.block k (by omega) fun e => h.ne k e.symm hk).trans (Below.heap_alloc _ _ _ hl)
  · simp [Value.ownBlock] at hk
    subst hk
    rcases hor with e | e
    · exact h.farI g e
    · intro hm
      have := hlt g hm
      omega
  · simp [Value.ownBlock] at hk
    subst hk
    rcases hor with e | e
    · exact h.ne g e hk2
    · have := (h.rowO.lt g hk2).2
      omega
theorem OnW.pushO {B : Nat} {W W2 : World} {A A2 A' : Option Addr} {n cap n2 cap2 m cap' : Nat} {ins outs ys : List Int} {bs : List Nat} (h : OnW B W A n cap ins A2 n2 cap2 outs bs) (hlt : ∀ k ∈ bs, k < W.heap.size) (hgr : W.grownBy W2 (Value.slice A2 n2 cap2).ownBlock) (hown : W2.ownsRow B 3 1 (.slice A' m cap') m (vI (outs ++ ys))) (hor : ∀ g, (Value.slice A' m cap').ownBlock = some g → (Value.slice A2 n2 cap2).ownBlock = some g ∨ W.heap.size ≤ g) :
    OnW B W2 A n cap ins A' m cap' (outs ++ ys) bs := by
  refine ⟨row_same h.rowI fun k hk => hgr.block k (h.rowI.lt k hk).2 fun e => h.ne k hk e.symm, hown, h.farI, fun k hk => ?_, fun k hk hk2 => ?_⟩
  · rcases hor k hk with e | e
    · exact h.farO k e
    · intro hm
      have := hlt k hm
      omega
  · rcases hor k hk2 with e | e
    · exact h.ne k hk e
    · have := (h.rowI.lt k hk).2
      omega
theorem OnW.besideI {B : Nat} {w W W2 : World} {S : Nat} {b : St} {A A2 : Option Addr} {n cap n2 cap2 : Nat} {ins outs : List Int} {bs : List Nat} {o : Obj} (h : OnW w.heap.size W A n cap ins A2 n2 cap2 outs bs) (hO : Ob w W S b bs) (hgr : (W.alloc o).grownBy W2 (Value.slice A n cap).ownBlock) (_ : B = 0) : Ob w W2 S b bs :=
  (hO.later (box_below o)).beside (mut_grown hgr (h.rowI.alloc o)) fun k hk => by
    have e : (Value.slice A n cap).ownBlock = some k := by simpa using hk
    exact ⟨h.farI k e, (h.rowI.lt k e).1⟩
theorem OnW.besideO {w W W2 : World} {S : Nat} {b : St} {A A2 : Option Addr} {n cap n2 cap2 : Nat} {ins outs : List Int} {bs : List Nat} (h : OnW w.heap.size W A n cap ins A2 n2 cap2 outs bs) (hO : Ob w W S b bs) (hgr : W.grownBy W2 (Value.slice A2 n2 cap2).ownBlock) : Ob w W2 S b bs :=
  hO.beside (mut_grown hgr h.rowO) fun k hk => by
    have e : (Value.slice A2 n2 cap2).ownBlock = some k := by simpa using hk
    exact ⟨h.farO k e, (h.rowO.lt k e).1⟩
def zeI (n : Nat) : Array Value := madeCells #[.int .i64 0] (n * 1)
theorem make_ints (n : Nat) (h : n ≤ 1000) (W : World) : (Instr.makeSlice 26 (.int .i64 (n : Int)) (.int .i64 (n : Int))).run Try.prog W = .ok (.slice (some ⟨W.heap.size, 0, none⟩) n n) (W.alloc (.cells (zeI n) 3)) := by
  obtain ⟨i0, hi, hz0, hz1, hz2⟩ := info_parts info_int'
  have := run_make (P := Try.prog) W 26 3 i0 (.int .i64 0) Try.underlying26 hi hz0 .i64 .i64 (n : Int) (n : Int) (by omega) (by omega) (by rw [hz2]; omega) (by omega)
  rw [this, hz1]
  simp only [Int.toNat_natCast]
  rfl
/-- What has been seen. -/
structure SeenC (N : Nat) (C : Array Value) (xs : List Int) : Prop where
  size : C.size = N
  at_ : ∀ x : Nat, x < N → C[x]? = some (.int .i64 (if (x : Int) ∈ xs then 1 else 0))
theorem SeenC.start (N : Nat) : SeenC N (zeI N) [] := ⟨by unfold zeI; rw [size_madeCells]; omega, fun x hx => by
  simp [zeI, madeCells, Nat.mod_one, hx]⟩
theorem SeenC.next {N x : Nat} {C : Array Value} {xs : List Int} (h : SeenC N C xs) (hx : x < N) : SeenC N (C.setIfInBounds x (.int .i64 1)) (xs ++ [(x : Int)]) := ⟨by simp [h.size], fun y hy => by
  have hs := h.size
  rw [Array.getElem?_setIfInBounds]
  by_cases e : x = y
  · subst e
    rw [if_pos rfl, if_pos (by omega), if_pos (by simp)]
  · rw [if_neg e, h.at_ y hy]
    have e2 : (y : Int) ≠ (x : Int) := by omega
    simp [e2]⟩
end Go.Proofs.Ytbmhhidlmdhacaa
