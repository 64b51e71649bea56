/-
  The document's own Add of layer 11: another row, in memory of its own.
-/
import Derived.Deep.RegionHeld
import Derived.Test.YtmjbdjcpjaeemaaPrRefDoc
namespace Go.Proofs.Ytmjbdjcpjaeemaa
open Go.RowKit Go.Proofs.PrioMath

def od (t : Of) : List Value := [.int .u64 (t.w : Int), .int .u64 (t.d : Int)]
/-- The cells of a row of the document's. -/
def ol (l : List Of) : List Value := l.flatMap od
theorem ol_nil : ol [] = [] := rfl
theorem ol_cons (t : Of) (l : List Of) : ol (t :: l) = .int .u64 (t.w : Int) :: .int .u64 (t.d : Int) :: ol l := rfl
theorem ol_append (a b : List Of) : ol (a ++ b) = ol a ++ ol b := by simp [ol]
theorem ol_length (l : List Of) : (ol l).length = l.length * 2 := by
  induction l with
  | nil => rfl
  | cons t r ih => rw [ol_cons]; simp [ih]; omega
theorem ol_at {l : List Of} : ∀ {i : Nat}, i < l.length → (ol l)[i * 2]? = some (.int .u64 ((at_ l i).w : Int)) ∧ (ol l)[i * 2 + 1]? = some (.int .u64 ((at_ l i).d : Int)) := by
  induction l with
  | nil => intro i h; simp at h
  | cons t r ih =>
    intro i h
    cases i with
    | zero => exact ⟨rfl, rfl⟩
    | succ j =>
      have := ih (i := j) (by simpa using h)
      rw [ol_cons, show (j + 1) * 2 = j * 2 + 1 + 1 by omega]
      simpa [at_, List.getD] using this
theorem ol_one (l : List Of) : ∀ u ∈ ol l, u.oneCell' = true := fun u hu => by
  simp only [ol, List.mem_flatMap, od] at hu
  obtain ⟨t, _, h⟩ := hu
  simp at h
  rcases h with rfl | rfl <;> rfl
theorem info_one : (Try.prog.info? 68).map (fun i => (i.zero, i.size, i.bytes)) = some (some (.agg #[.int .u64 0, .int .u64 0]), 2, 16) := by kernel_rfl
/-- A row of ones offered, each as it lies. -/
def Rd (W : World) (B : Option Addr) (m : Nat) (l : List Of) : Prop := l.length = m ∧ (0 < m → ∃ g off, B = some ⟨g, off, none⟩ ∧ ∀ j, j < m → W.cell? ⟨g, off + j * 2, none⟩ = some (.int .u64 ((at_ l j).w : Int)) ∧ W.cell? ⟨g, off + j * 2 + 1, none⟩ = some (.int .u64 ((at_ l j).d : Int)))
theorem ol_cell {W : World} {g off m : Nat} {l : List Of} (hl : l.length = m) (hc : ∀ j, j < m → W.cell? ⟨g, off + j * 2, none⟩ = some (.int .u64 ((at_ l j).w : Int)) ∧ W.cell? ⟨g, off + j * 2 + 1, none⟩ = some (.int .u64 ((at_ l j).d : Int))) : ∀ j u, (ol l)[j]? = some u → W.cell? ((⟨g, off, none⟩ : Addr).add j) = some u := by
  intro j u hu
  have hj : j < m * 2 := by
    have := (List.getElem?_eq_some_iff.1 hu).1
    rw [ol_length] at this
    omega
  have hp : (⟨g, off, none⟩ : Addr).add j = ⟨g, off + j, none⟩ := by unfold Addr.add; split <;> simp_all
  rw [hp]
  obtain ⟨q, rfl | rfl⟩ : ∃ q, j = q * 2 ∨ j = q * 2 + 1 := ⟨j / 2, by omega⟩
  · rw [(hc q (by omega)).1, ← hu, (ol_at (by omega)).1]
  · have := (hc q (by omega)).2
    rw [show off + (q * 2 + 1) = off + q * 2 + 1 by omega, this, ← hu, (ol_at (by omega)).2]
/-- 'append(x, y...)' of ones offered, x the call's own. -/
theorem app_ones {w : World} {ops : Array Oper} {rest : List Oper} {o : Oper} {a : Act} {Q : Exit → Act → World → Prop} (hgd : o.guard = none) (s x : Operand)
    (ho : o.op = .call { callee := .builtin .append, args := #[s, x], argTypes := #[40, 40] })
    (base : Nat) (A B : Option Addr) (n cap m c nm : Nat) (hnm : n + m = nm) (l1 l2 : List Of) (hs : a.eval s = .slice A n cap) (hown : w.ownsRow base 68 2 (.slice A n cap) n (ol l1)) (hx : a.eval x = .slice B m c) (hr : Rd w B m l2) (hBn : B = none → c = 0 ∧ m = 0)
    (hb : n + m ≤ 10001) (hbase : base ≤ w.heap.size)
    (h : ∀ A' cap' w', w'.ownsRow base 68 2 (.slice A' nm cap') nm (ol (l1 ++ l2)) → w.grownBy w' (Value.slice A n cap).ownBlock → (∀ g, (Value.slice A' nm cap').ownBlock = some g → (Value.slice A n cap).ownBlock = some g ∨ w.heap.size ≤ g) → wpList Try.prog ops Q rest (a.put o.dst (.slice A' nm cap')) w') : wpList Try.prog ops Q (o :: rest) a w := by
  subst hnm
  obtain ⟨i0, hi, hz0, hz1, hz2⟩ := info_parts info_one
  have hm10 : (10001 : Nat) ≤ maxLen := by decide
  have key : ∃ A' cap' w', (Builtin.append_ #[40, 40] o.type #[.slice A n cap, .slice B m c]).run Try.prog w = .ok (.slice A' (n + m) cap') w' ∧ w'.ownsRow base 68 2 (.slice A' (n + m) cap') (n + m) (ol (l1 ++ l2)) ∧ w.grownBy w' (Value.slice A n cap).ownBlock ∧ (∀ g, (Value.slice A' (n + m) cap').ownBlock = some g → (Value.slice A n cap).ownBlock = some g ∨ w.heap.size ≤ g) := by
    by_cases h0 : m = 0
    · subst h0
      have hl2 : l2 = [] := List.eq_nil_of_length_eq_zero hr.1
      subst hl2
      cases B with
      | none =>
        obtain ⟨rfl, _⟩ := hBn rfl
        refine ⟨A, cap, w, run_append_owned_none (P := Try.prog) w base 40 o.type 68 i0 2 Try.underlying40 hi _ n _ hown, by simpa using hown, ⟨rfl, rfl, rfl, Nat.le_refl _, fun _ _ _ => rfl⟩, fun g hg => .inl hg⟩
      | some b =>
        obtain ⟨v', w', q1, q2, q3, q4, q5⟩ := run_append_own_at (P := Try.prog) w base 40 o.type 68 i0 (.agg #[.int .u64 0, .int .u64 0]) 2 16 Try.underlying40 hi hz0 hz1 hz2 rfl (by decide) _ n _ hown b 0 c [] rfl (by simp) (by simp) (by omega) (by omega) hbase
        rcases hown.2 with ⟨e, en⟩ | ⟨g, cap', cur, e, _⟩
        · rcases q2.2 with ⟨e2, en2⟩ | ⟨g2, cap2, cur2, e2, _⟩
          · subst e2
            refine ⟨none, 0, w', by rw [q1, en], by rw [en] at q2 ⊢; simpa using q2, q3, fun g hg => by simp [Value.ownBlock] at hg⟩
          · subst e2
            refine ⟨some ⟨g2, 0, none⟩, cap2, w', q1, by simpa using q2, q3, fun g hg => ?_⟩
            rcases q5 with h | h
            · exact .inl (by rw [← h]; exact hg)
            · rw [h] at hg; injection hg with hg; exact .inr (by omega)
        · rcases q2.2 with ⟨e2, en2⟩ | ⟨g2, cap2, cur2, e2, _⟩
          · subst e2
            refine ⟨none, 0, w', by rw [q1, show n = 0 by omega], by rw [show n = 0 by omega] at q2 ⊢; simpa using q2, q3, fun g hg => by simp [Value.ownBlock] at hg⟩
          · subst e2
            refine ⟨some ⟨g2, 0, none⟩, cap2, w', q1, by simpa using q2, q3, fun g hg => ?_⟩
            rcases q5 with h | h
            · exact .inl (by rw [← h]; exact hg)
            · rw [h] at hg; injection hg with hg; exact .inr (by omega)
    · obtain ⟨g, off, rfl, hc⟩ := hr.2 (by omega)
      obtain ⟨g2, cap2, w', q1, q2, q3, q4, _⟩ := run_append_lies (P := Try.prog) w 40 o.type base 68 i0 (.agg #[.int .u64 0, .int .u64 0]) 2 16 Try.underlying40 hi hz0 hz1 hz2 rfl (by decide) _ n _ hown ⟨g, off, none⟩ m c (ol l2) (by rw [ol_length, hr.1]) (ol_cell hr.1 hc) (ol_one l2) (by omega) (by omega) (by omega) hbase _ rfl
      refine ⟨_, cap2, w', q1, by rw [ol_append]; exact q2, q3, fun x hx => ?_⟩
      simp [Value.ownBlock] at hx
      subst hx
      rcases q4 with h | h
      · exact .inl h
      · exact .inr (by omega)
  obtain ⟨A', cap', w', k1, k2, k3, k4⟩ := key
  refine wpList_plain hgd fun _ hK => ?_
  unfold Oper.wp execOp
  simp only [ho, resolve, invoke, builtin, Sem.run_bind, Sem.run_pure, Result.andThen_ok, List.map_toArray, List.map_cons, List.map_nil, hs, hx, k1]
  exact hK _ _ (h A' cap' w' k2 k3 k4)
theorem row_dc {W : World} {base n cap : Nat} {A : Option Addr} {s : List Of} {bs : List Nat} (h : W.ownsRow base 68 2 (.slice A n cap) n (ol s)) (hs : s.length = n) (h5 : n ≤ 5000) (hbs : ∀ k ∈ bs, k < base) : Dc W A n cap s bs := by
  have hcap : n ≤ cap ∧ cap ≤ 9223372036854775807 := by
    rcases h.2 with ⟨e, _⟩ | ⟨g, c, cur, e, _, _, h2, h3, _⟩
    · injection e with _ e1 e2; omega
    · injection e with _ e1 e2
      unfold maxLen at h3
      omega
  have hnil : A = none → cap = 0 := fun hA => by
    rcases h.2 with ⟨e, _⟩ | ⟨g, c, cur, e, _, _, h2, h3, _⟩
    · injection e with _ e1 e2
    · injection e with e1; rw [hA] at e1; cases e1
  refine ⟨hs, hcap, h5, hnil, fun h0 => ?_⟩
  obtain ⟨g, cap', e, hg1, hg2⟩ := h.form h0
  have hb := h.lt g (by rw [e]; rfl)
  injection e with e1 _ e2
  subst e1 e2
  refine ⟨g, rfl, hg2, fun hm => by have := hbs g hm; omega, fun j hj => ?_⟩
  have z : ∀ k, (⟨g, 0, none⟩ : Addr).add k = ⟨g, k, none⟩ := fun k => by unfold Addr.add; split <;> simp_all
  have r1 := h.cells (g := g) rfl _ _ (ol_at (l := s) (i := j) (by omega)).1
  have r2 := h.cells (g := g) rfl _ _ (ol_at (l := s) (i := j) (by omega)).2
  rw [z] at r1 r2
  exact ⟨r1, r2⟩
theorem grown_below {B : Nat} {W3 w w' : World} {v : Value} (h : Below B W3 w) (hs : B ≤ w.heap.size) (hg : w.grownBy w' v.ownBlock) (hv : ∀ g, v.ownBlock = some g → B ≤ g) : Below B W3 w' ∧ B ≤ w'.heap.size :=
  ⟨h.trans ⟨hg.os, hg.tape, hg.output, hg.size, fun k hk => hg.block k (by omega) (fun e => by have := hv k e.symm; omega)⟩, Nat.le_trans hs hg.size⟩
theorem rd_one (w : World) (n : Nat) (hn : w.heap.size = n) (p a b : Nat) : Rd (w.alloc (.cells #[.int .u64 (a : Int), .int .u64 (b : Int)] 68)) (some ⟨n, 0, none⟩) 1 [⟨p, a, b⟩] := by
  subst hn
  refine ⟨rfl, fun _ => ⟨_, 0, rfl, fun j hj => ?_⟩⟩
  obtain rfl : j = 0 := by omega
  have hb := blk_new w #[.int .u64 (a : Int), .int .u64 (b : Int)] 68
  exact ⟨hb.cell 0 rfl, hb.cell 1 rfl⟩
set_option linter.unusedSimpArgs false in
set_option maxRecDepth 100000 in
set_option maxHeartbeats 4000000 in
theorem refAdd_any {A : Option Addr} {n cap k m : Nat} {s : List Of} {bs : List Nat} (x d : Nat) (w : World) (h : Dc w A n cap s bs) (hbs : ∀ j ∈ bs, j < w.heap.size) (hx1 : 1 ≤ x) (hx2 : x ≤ 4294967296) (hd : d < 18446744073709551616) (hm : m < 18446744073709551616) (h5 : n ≤ 4999) :
    Calls Try.prog 12 #[.agg #[.int .i64 (k : Int), .int .u64 (m : Int), .slice A n cap], .int .u64 (x : Int), .int .u64 (d : Int)] w fun e w' => ∃ A' cap', e = .returned (.tuple #[.agg #[.int .i64 (k : Int), .int .u64 (m : Int), .slice A' (n + 1) cap'], .int .i64 (n : Int), .int .i64 0]) ∧ Hid (Below w.heap.size w w' ∧ Dc w' A' (n + 1) cap' (s ++ [⟨n, x, d % dr m⟩]) bs) := by
  obtain ⟨n0, hn0⟩ : ∃ n0, w.heap.size = n0 := ⟨_, rfl⟩
  have hl := h.len
  have hB : Below n0 w ((w.alloc (.cells #[.int .i64 (k : Int), .int .u64 (m : Int), .slice A n cap] 42)).alloc (.cells #[.int .i64 0, .int .u64 0, .slice none 0 0] 42)) := by
    rw [← hn0]
    exact (box_below _).alloc (by simp) _
  have hk0 := blk_new w #[.int .i64 (k : Int), .int .u64 (m : Int), .slice A n cap] 42
  have hk1 := blk_new (w.alloc (.cells #[.int .i64 (k : Int), .int .u64 (m : Int), .slice A n cap] 42)) #[.int .i64 0, .int .u64 0, .slice none 0 0] 42
  simp only [World.size_alloc, hn0] at hk0 hk1
  have hk0' := hk0.later (box_below (.cells #[.int .i64 0, .int .u64 0, .slice none 0 0] 42))
  obtain ⟨W2, hW2⟩ : ∃ W2, ((w.alloc (.cells #[.int .i64 (k : Int), .int .u64 (m : Int), .slice A n cap] 42)).alloc (.cells #[.int .i64 0, .int .u64 0, .slice none 0 0] 42)) = W2 := ⟨_, rfl⟩
  have hs2 : W2.heap.size = n0 + 2 := by rw [← hW2]; simp [hn0]
  rw [hW2] at hB hk0' hk1
  have HK0 := Lib.hid hk0'
  have HK1 := Lib.hid hk1
  have HB := Lib.hid hB
  have HN0 := Lib.hid hn0
  have HL := Lib.hid hl
  have HD := Lib.hid h
  have HBS := Lib.hid hbs
  have HBX : Hid (Below (n0 + 2) W2 W2 ∧ n0 + 2 ≤ W2.heap.size) := Lib.hid ⟨Below.refl _ _, by omega⟩
  have HRD : Hid (Rd W2 A n s) := Lib.hid ⟨hl, fun h0 => by
    obtain ⟨g, e, hg, _, hc⟩ := (h.later (hn0 ▸ hB)).cells h0
    exact ⟨g, 0, e, fun j hj => by rw [Nat.zero_add]; exact hc j hj⟩⟩
  have HAI : Hid (A = none → cap = 0 ∧ n = 0) := Lib.hid fun hA => ⟨h.nil_ hA, by have := h.nil_ hA; have := h.cap_.1; omega⟩
  have HKF : Hid (∀ W, Below (n0 + 2) W2 W → W.cell? ⟨n0, 0, none⟩ = some (.int .i64 (k : Int)) ∧ W.cell? ⟨n0, 1, none⟩ = some (.int .u64 (m : Int)) ∧ W.cell? ⟨n0, 2, none⟩ = some (.slice A n cap)) := Lib.hid fun W hW => ⟨(HK0.out.same (hW.block _ (by omega))).cell 0 rfl, (HK0.out.same (hW.block _ (by omega))).cell 1 rfl, (HK0.out.same (hW.block _ (by omega))).cell 2 rfl⟩
  have t1 : decide ((x : Int) < 1) = false := by simp; omega
  have t1' : decide (x < 1) = false := by simp; omega
  have t2 : decide ((4294967296 : Int) < (x : Int)) = false := by simp; omega
  have t2' : decide (4294967296 < x) = false := by simp; omega
  obtain ⟨D, hD⟩ : ∃ D, d % dr m = D := ⟨_, rfl⟩
  have hD2 : 0 < m → (d : Int) % (m : Int) = (D : Int) := fun h0 => by
    rw [← hD]
    unfold dr
    rw [if_neg (by omega)]
    simp
  have hD1 : m = 0 → d = D := fun h0 => by
    rw [← hD]
    unfold dr
    rw [if_pos h0]
    omega
  rw [hn0, hD]
  obtain ⟨y0, y1, y2⟩ := HKF.out _ HBX.out.1
  clear h hl hB hk0 hk0' hk1 hs2 hbs hD
  go_enter Try.func12, Try.ntmps12
  by_cases h0 : m = 0
  · have t3 : decide ((0 : Int) < (m : Int)) = false := by simp; omega
    have t3' : decide (0 < m) = false := by simp; omega
    obtain rfl := hD1 h0
    clear hD1 hD2 h0
    go_wp2_with (first
      | (at_builtin; refine app_ones rfl (.tmp 24) (.tmp 26) rfl (n0 + 2) none A 0 0 n cap n (Nat.zero_add _) [] s rfl (World.ownsRow_nil _ _ _ _) rfl HRD.out HAI.out (by omega) HBX.out.2 ?_; intro A1 cap1 w6 hown6 hgr6 hl6; have hb6 := grown_below HBX.out.1 HBX.out.2 hgr6 (fun g hg => by simp [Value.ownBlock] at hg); have HB6 := Lib.hid hb6; have HO6 := Lib.hid hown6; obtain ⟨n6, hn6⟩ : ∃ n6, w6.heap.size = n6 := ⟨_, rfl⟩; obtain ⟨y0, y1, y2⟩ := HKF.out _ hb6.1; clear hb6 hown6 hgr6 hl6)
      | (at_builtin; refine app_ones rfl (.tmp 28) (.tmp 32) rfl (n0 + 2) A1 (some ⟨n6, 0, none⟩) n cap1 1 1 (n + 1) rfl ([] ++ s) [⟨n, x, d⟩] rfl (HO6.out.alloc _) rfl (rd_one w6 n6 hn6 n x d) (fun h => by cases h) (by omega) (by rw [World.size_alloc]; have := HB6.out.2; omega) ?_; intro A7 cap7 w7 hown7 hgr7 hl7; have hb7 := grown_below (HB6.out.1.alloc HB6.out.2 _) (by rw [World.size_alloc]; have := HB6.out.2; omega) hgr7 (fun g hg => (HO6.out.lt g hg).1); have HB7 := Lib.hid hb7; have HO7 := Lib.hid hown7; obtain ⟨z0, z1, z2⟩ := HKF.out _ hb7.1; have hk7 := HK1.out.same (hb7.1.block _ (by omega)); have r0 := hk7.cell 0 rfl; have r1 := hk7.cell 1 rfl; have r2 := hk7.cell 2 rfl; have f0 := hk7.free 0; have f1 := hk7.free 1; have f2 := hk7.free 2; have HK7 := Lib.hid hk7; clear hb7 hown7 hgr7 hl7 hn6 y0 y1 y2 hk7))
    obtain ⟨W9, hW9⟩ : ∃ W9, ((w7.setCell ⟨n0 + 1, 0, none⟩ (.int .i64 (k : Int))).setCell ⟨n0 + 1, 1, none⟩ (.int .u64 (m : Int))).setCell ⟨n0 + 1, 2, none⟩ (.slice A7 (n + 1) cap7) = W9 := ⟨_, rfl⟩
    have hb7' : Below (n0 + 1) W2 w7 := HB7.out.1.mono (by omega)
    have hb9 : Below (n0 + 1) W2 W9 := by
      rw [← hW9]
      exact (((show Below (n0 + 1) W2 w7 from hb7').setCell (by simp) _).setCell (by simp) _).setCell (by simp) _
    have hk9 : Blk W9 (n0 + 1) #[.int .i64 (k : Int), .int .u64 (m : Int), .slice A7 (n + 1) cap7] 42 := by
      have hk7 : Blk w7 (n0 + 1) #[.int .i64 0, .int .u64 0, .slice none 0 0] 42 := HK7.out
      rw [← hW9]
      exact ((hk7.set 0 (.int .i64 (k : Int))).set 1 (.int .u64 (m : Int))).set 2 (.slice A7 (n + 1) cap7)
    have hS9 : W9.cell? ⟨n0, 0, none⟩ = some (.int .i64 (k : Int)) ∧ W9.cell? ⟨n0, 1, none⟩ = some (.int .u64 (m : Int)) ∧ W9.cell? ⟨n0, 2, none⟩ = some (.slice A n cap) := ⟨(hb9.cell (p := ⟨n0, 0, none⟩) (by simp)).trans y0, (hb9.cell (p := ⟨n0, 1, none⟩) (by simp)).trans y1, (hb9.cell (p := ⟨n0, 2, none⟩) (by simp)).trans y2⟩
    have hO9 : W9.ownsRow (n0 + 2) 68 2 (.slice A7 (n + 1) cap7) (n + 1) (ol ([] ++ s ++ [⟨n, x, d⟩])) := row_same HO7.out fun g hg => by
      have := (HO7.out.lt g hg).1
      rw [← hW9, Below.heap_setCell _ _ _ _ (by simp; omega), Below.heap_setCell _ _ _ _ (by simp; omega), Below.heap_setCell _ _ _ _ (by simp; omega)]
    have HB9 := Lib.hid hb9
    have HK9 := Lib.hid hk9
    have HO9 := Lib.hid hO9
    clear hb9 hk9 hO9 hb7'
    refine wp_region_held_drew (S := fun W => W.cell? ⟨n0, 0, none⟩ = some (.int .i64 (k : Int)) ∧ W.cell? ⟨n0, 1, none⟩ = some (.int .u64 (m : Int)) ∧ W.cell? ⟨n0, 2, none⟩ = some (.slice A n cap)) (by kernel_rfl) ?_ (fun hHeld => ?_)
    · exact ⟨z0, z1, z2⟩
    refine wpAnyH_take (i := 0) (v := ?_) rfl (by kernel_rfl) (by kernel_rfl) (by kernel_rfl) (fun _ _ _ h => h) (Or.inl ⟨by rfl, ?_⟩) (by assumption) ?_
    rotate_left
    · intro wq hSw; (try dsimp only at hSw); go_simp; (try with_reducible rfl)
    simp only [Act.put, List.getElem_toArray, List.getElem_cons_succ, List.getElem_cons_zero, List.setIfInBounds_toArray, List.set_cons_zero, List.set_cons_succ]
    refine wpAnyH_take (i := 1) (v := ?_) rfl (by kernel_rfl) (by kernel_rfl) (by kernel_rfl) (fun _ _ _ h => h) (Or.inl ⟨by rfl, ?_⟩) (by assumption) ?_
    rotate_left
    · intro wq hSw; (try dsimp only at hSw); obtain ⟨u0, u1, u2⟩ := hSw; go_simp; (try with_reducible rfl)
    simp only [Act.put, List.getElem_toArray, List.getElem_cons_succ, List.getElem_cons_zero, List.setIfInBounds_toArray, List.set_cons_zero, List.set_cons_succ]
    refine wpAnyH_take (i := 2) (v := ?_) rfl (by kernel_rfl) (by kernel_rfl) (by kernel_rfl) (fun _ _ _ h => h) (Or.inl ⟨by rfl, ?_⟩) (by assumption) ?_
    rotate_left
    · intro wq hSw; (try dsimp only at hSw); go_simp; (try with_reducible rfl)
    simp only [Act.put, List.getElem_toArray, List.getElem_cons_succ, List.getElem_cons_zero, List.setIfInBounds_toArray, List.set_cons_zero, List.set_cons_succ]
    refine wpAnyH_take (i := 3) (v := ?_) rfl (by kernel_rfl) (by kernel_rfl) (by kernel_rfl) (fun _ _ _ h => h) (Or.inl ⟨by rfl, ?_⟩) (by assumption) ?_
    rotate_left
    · intro wq hSw; (try dsimp only at hSw); obtain ⟨u0, u1, u2⟩ := hSw; go_simp; (try with_reducible rfl)
    simp only [Act.put, List.getElem_toArray, List.getElem_cons_succ, List.getElem_cons_zero, List.setIfInBounds_toArray, List.set_cons_zero, List.set_cons_succ]
    refine wpAnyH_take (i := 4) (v := ?_) rfl (by kernel_rfl) (by kernel_rfl) (by kernel_rfl) (fun _ _ _ h => h) (Or.inl ⟨by rfl, ?_⟩) (by assumption) ?_
    rotate_left
    · intro wq hSw; (try dsimp only at hSw); go_simp; (try with_reducible rfl)
    simp only [Act.put, List.getElem_toArray, List.getElem_cons_succ, List.getElem_cons_zero, List.setIfInBounds_toArray, List.set_cons_zero, List.set_cons_succ]
    refine wpAnyH_take (i := 5) (v := ?_) rfl (by kernel_rfl) (by kernel_rfl) (by kernel_rfl) (fun _ _ _ h => h) (Or.inl ⟨by rfl, ?_⟩) (by assumption) ?_
    rotate_left
    · intro wq hSw; (try dsimp only at hSw); go_simp; (try with_reducible rfl)
    simp only [Act.put, List.getElem_toArray, List.getElem_cons_succ, List.getElem_cons_zero, List.setIfInBounds_toArray, List.set_cons_zero, List.set_cons_succ]
    refine wpAnyH_take (i := 6) (v := ?_) rfl (by kernel_rfl) (by kernel_rfl) (by kernel_rfl) (fun _ _ _ h => h) (Or.inl ⟨by rfl, ?_⟩) (by assumption) ?_
    rotate_left
    · intro wq hSw; (try dsimp only at hSw); go_simp; (try with_reducible rfl)
    simp only [Act.put, List.getElem_toArray, List.getElem_cons_succ, List.getElem_cons_zero, List.setIfInBounds_toArray, List.set_cons_zero, List.set_cons_succ]
    refine wpAnyH_take (i := 7) (v := ?_) rfl (by kernel_rfl) (by kernel_rfl) (by kernel_rfl) (fun _ _ _ h => h) (Or.inl ⟨by rfl, ?_⟩) (by assumption) ?_
    rotate_left
    · intro wq hSw; (try dsimp only at hSw); obtain ⟨u0, u1, u2⟩ := hSw; go_simp; (try with_reducible rfl)
    simp only [Act.put, List.getElem_toArray, List.getElem_cons_succ, List.getElem_cons_zero, List.setIfInBounds_toArray, List.set_cons_zero, List.set_cons_succ]
    refine wpAnyH_take (i := 8) (v := ?_) rfl (by kernel_rfl) (by kernel_rfl) (by kernel_rfl) (fun _ _ _ h => h) (Or.inl ⟨by rfl, ?_⟩) (by assumption) ?_
    rotate_left
    · intro wq hSw; (try dsimp only at hSw); go_simp; (try with_reducible rfl)
    simp only [Act.put, List.getElem_toArray, List.getElem_cons_succ, List.getElem_cons_zero, List.setIfInBounds_toArray, List.set_cons_zero, List.set_cons_succ]
    refine wpAnyH_ready (rs := [9]) (by kernel_rfl) (by simp) ?_
    refine AllReadyH.cons rfl (fun K hK => ?_) AllReadyH.nil
    go_simp
    (try go_wp2_with fail)
    refine hK.out _ _ ?_ (fun hHeld => ?_)
    · exact hS9
    clear hK K
    try simp only [Act.put, List.getElem_toArray, List.getElem_cons_succ, List.getElem_cons_zero, List.setIfInBounds_toArray, List.set_cons_zero, List.set_cons_succ]
    refine wpAnyH_take (i := 10) (v := ?_) rfl (by kernel_rfl) (by kernel_rfl) (by kernel_rfl) (fun _ _ _ h => h) (Or.inl ⟨by rfl, ?_⟩) (by assumption) ?_
    rotate_left
    · intro wq hSw; (try dsimp only at hSw); go_simp; (try with_reducible rfl)
    simp only [Act.put, List.getElem_toArray, List.getElem_cons_succ, List.getElem_cons_zero, List.setIfInBounds_toArray, List.set_cons_zero, List.set_cons_succ]
    refine wpAnyH_take (i := 11) (v := ?_) rfl (by kernel_rfl) (by kernel_rfl) (by kernel_rfl) (fun _ _ _ h => h) (Or.inl ⟨by rfl, ?_⟩) (by assumption) ?_
    rotate_left
    · intro wq hSw; (try dsimp only at hSw); go_simp; (try with_reducible rfl)
    simp only [Act.put, List.getElem_toArray, List.getElem_cons_succ, List.getElem_cons_zero, List.setIfInBounds_toArray, List.set_cons_zero, List.set_cons_succ]
    refine wpAnyH_done (by kernel_rfl) ?_ _
    clear hHeld
    clear y0 y1 y2 z0 z1 z2 r0 r1 r2 f0 f1 f2 hS9
    go_wp2_with fail
    have hk9 : Blk W9.drew (n0 + 1) #[.int .i64 (k : Int), .int .u64 (m : Int), .slice A7 (n + 1) cap7] 42 := HK9.out.same rfl
    have hb9 : Below n0 w W9.drew := by
      have := HB.out.trans (HB9.out.mono (by omega))
      exact ⟨this.os, this.tape, this.output, this.size, this.block⟩
    have q0 := hk9.cell 0 rfl
    have q1 := hk9.cell 1 rfl
    have q2 := hk9.cell 2 rfl
    refine bodyPost_ret (v := .tuple #[.agg #[.int .i64 (k : Int), .int .u64 (m : Int), .slice A7 (n + 1) cap7], .int .i64 (n : Int), .int .i64 0]) (by simp [results, Try.results12, go_sem, q0, q1, q2]) rfl ⟨A7, cap7, rfl, Lib.hid ⟨hb9, row_dc (row_same HO9.out fun _ _ => rfl) (by simp [HL.out]) (by omega) (fun j hj => by have := HBS.out j hj; have := HN0.out; omega)⟩⟩
  · have t3 : decide ((0 : Int) < (m : Int)) = true := by simp; omega
    have t3' : decide (0 < m) = true := by simp; omega
    have t4 : ((m : Int) == 0) = false := by simp [h0]
    have e4 := hD2 (by omega)
    clear hD1 hD2
    go_wp2_with (first
      | (at_builtin; refine app_ones rfl (.tmp 24) (.tmp 26) rfl (n0 + 2) none A 0 0 n cap n (Nat.zero_add _) [] s rfl (World.ownsRow_nil _ _ _ _) rfl HRD.out HAI.out (by omega) HBX.out.2 ?_; intro A1 cap1 w6 hown6 hgr6 hl6; have hb6 := grown_below HBX.out.1 HBX.out.2 hgr6 (fun g hg => by simp [Value.ownBlock] at hg); have HB6 := Lib.hid hb6; have HO6 := Lib.hid hown6; obtain ⟨n6, hn6⟩ : ∃ n6, w6.heap.size = n6 := ⟨_, rfl⟩; obtain ⟨y0, y1, y2⟩ := HKF.out _ hb6.1; clear hb6 hown6 hgr6 hl6)
      | (at_builtin; refine app_ones rfl (.tmp 28) (.tmp 32) rfl (n0 + 2) A1 (some ⟨n6, 0, none⟩) n cap1 1 1 (n + 1) rfl ([] ++ s) [⟨n, x, D⟩] rfl (HO6.out.alloc _) rfl (rd_one w6 n6 hn6 n x D) (fun h => by cases h) (by omega) (by rw [World.size_alloc]; have := HB6.out.2; omega) ?_; intro A7 cap7 w7 hown7 hgr7 hl7; have hb7 := grown_below (HB6.out.1.alloc HB6.out.2 _) (by rw [World.size_alloc]; have := HB6.out.2; omega) hgr7 (fun g hg => (HO6.out.lt g hg).1); have HB7 := Lib.hid hb7; have HO7 := Lib.hid hown7; obtain ⟨z0, z1, z2⟩ := HKF.out _ hb7.1; have hk7 := HK1.out.same (hb7.1.block _ (by omega)); have r0 := hk7.cell 0 rfl; have r1 := hk7.cell 1 rfl; have r2 := hk7.cell 2 rfl; have f0 := hk7.free 0; have f1 := hk7.free 1; have f2 := hk7.free 2; have HK7 := Lib.hid hk7; clear hb7 hown7 hgr7 hl7 hn6 y0 y1 y2 hk7))
    obtain ⟨W9, hW9⟩ : ∃ W9, ((w7.setCell ⟨n0 + 1, 0, none⟩ (.int .i64 (k : Int))).setCell ⟨n0 + 1, 1, none⟩ (.int .u64 (m : Int))).setCell ⟨n0 + 1, 2, none⟩ (.slice A7 (n + 1) cap7) = W9 := ⟨_, rfl⟩
    have hb7' : Below (n0 + 1) W2 w7 := HB7.out.1.mono (by omega)
    have hb9 : Below (n0 + 1) W2 W9 := by
      rw [← hW9]
      exact (((show Below (n0 + 1) W2 w7 from hb7').setCell (by simp) _).setCell (by simp) _).setCell (by simp) _
    have hk9 : Blk W9 (n0 + 1) #[.int .i64 (k : Int), .int .u64 (m : Int), .slice A7 (n + 1) cap7] 42 := by
      have hk7 : Blk w7 (n0 + 1) #[.int .i64 0, .int .u64 0, .slice none 0 0] 42 := HK7.out
      rw [← hW9]
      exact ((hk7.set 0 (.int .i64 (k : Int))).set 1 (.int .u64 (m : Int))).set 2 (.slice A7 (n + 1) cap7)
    have hS9 : W9.cell? ⟨n0, 0, none⟩ = some (.int .i64 (k : Int)) ∧ W9.cell? ⟨n0, 1, none⟩ = some (.int .u64 (m : Int)) ∧ W9.cell? ⟨n0, 2, none⟩ = some (.slice A n cap) := ⟨(hb9.cell (p := ⟨n0, 0, none⟩) (by simp)).trans y0, (hb9.cell (p := ⟨n0, 1, none⟩) (by simp)).trans y1, (hb9.cell (p := ⟨n0, 2, none⟩) (by simp)).trans y2⟩
    have hO9 : W9.ownsRow (n0 + 2) 68 2 (.slice A7 (n + 1) cap7) (n + 1) (ol ([] ++ s ++ [⟨n, x, D⟩])) := row_same HO7.out fun g hg => by
      have := (HO7.out.lt g hg).1
      rw [← hW9, Below.heap_setCell _ _ _ _ (by simp; omega), Below.heap_setCell _ _ _ _ (by simp; omega), Below.heap_setCell _ _ _ _ (by simp; omega)]
    have HB9 := Lib.hid hb9
    have HK9 := Lib.hid hk9
    have HO9 := Lib.hid hO9
    clear hb9 hk9 hO9 hb7'
    refine wp_region_held_drew (S := fun W => W.cell? ⟨n0, 0, none⟩ = some (.int .i64 (k : Int)) ∧ W.cell? ⟨n0, 1, none⟩ = some (.int .u64 (m : Int)) ∧ W.cell? ⟨n0, 2, none⟩ = some (.slice A n cap)) (by kernel_rfl) ?_ (fun hHeld => ?_)
    · exact ⟨z0, z1, z2⟩
    refine wpAnyH_take (i := 0) (v := ?_) rfl (by kernel_rfl) (by kernel_rfl) (by kernel_rfl) (fun _ _ _ h => h) (Or.inl ⟨by rfl, ?_⟩) (by assumption) ?_
    rotate_left
    · intro wq hSw; (try dsimp only at hSw); go_simp; (try with_reducible rfl)
    simp only [Act.put, List.getElem_toArray, List.getElem_cons_succ, List.getElem_cons_zero, List.setIfInBounds_toArray, List.set_cons_zero, List.set_cons_succ]
    refine wpAnyH_take (i := 1) (v := ?_) rfl (by kernel_rfl) (by kernel_rfl) (by kernel_rfl) (fun _ _ _ h => h) (Or.inl ⟨by rfl, ?_⟩) (by assumption) ?_
    rotate_left
    · intro wq hSw; (try dsimp only at hSw); obtain ⟨u0, u1, u2⟩ := hSw; go_simp; (try with_reducible rfl)
    simp only [Act.put, List.getElem_toArray, List.getElem_cons_succ, List.getElem_cons_zero, List.setIfInBounds_toArray, List.set_cons_zero, List.set_cons_succ]
    refine wpAnyH_take (i := 2) (v := ?_) rfl (by kernel_rfl) (by kernel_rfl) (by kernel_rfl) (fun _ _ _ h => h) (Or.inl ⟨by rfl, ?_⟩) (by assumption) ?_
    rotate_left
    · intro wq hSw; (try dsimp only at hSw); go_simp; (try with_reducible rfl)
    simp only [Act.put, List.getElem_toArray, List.getElem_cons_succ, List.getElem_cons_zero, List.setIfInBounds_toArray, List.set_cons_zero, List.set_cons_succ]
    refine wpAnyH_take (i := 3) (v := ?_) rfl (by kernel_rfl) (by kernel_rfl) (by kernel_rfl) (fun _ _ _ h => h) (Or.inl ⟨by rfl, ?_⟩) (by assumption) ?_
    rotate_left
    · intro wq hSw; (try dsimp only at hSw); obtain ⟨u0, u1, u2⟩ := hSw; go_simp; (try with_reducible rfl)
    simp only [Act.put, List.getElem_toArray, List.getElem_cons_succ, List.getElem_cons_zero, List.setIfInBounds_toArray, List.set_cons_zero, List.set_cons_succ]
    refine wpAnyH_take (i := 4) (v := ?_) rfl (by kernel_rfl) (by kernel_rfl) (by kernel_rfl) (fun _ _ _ h => h) (Or.inl ⟨by rfl, ?_⟩) (by assumption) ?_
    rotate_left
    · intro wq hSw; (try dsimp only at hSw); go_simp; (try with_reducible rfl)
    simp only [Act.put, List.getElem_toArray, List.getElem_cons_succ, List.getElem_cons_zero, List.setIfInBounds_toArray, List.set_cons_zero, List.set_cons_succ]
    refine wpAnyH_take (i := 5) (v := ?_) rfl (by kernel_rfl) (by kernel_rfl) (by kernel_rfl) (fun _ _ _ h => h) (Or.inl ⟨by rfl, ?_⟩) (by assumption) ?_
    rotate_left
    · intro wq hSw; (try dsimp only at hSw); go_simp; (try with_reducible rfl)
    simp only [Act.put, List.getElem_toArray, List.getElem_cons_succ, List.getElem_cons_zero, List.setIfInBounds_toArray, List.set_cons_zero, List.set_cons_succ]
    refine wpAnyH_take (i := 6) (v := ?_) rfl (by kernel_rfl) (by kernel_rfl) (by kernel_rfl) (fun _ _ _ h => h) (Or.inl ⟨by rfl, ?_⟩) (by assumption) ?_
    rotate_left
    · intro wq hSw; (try dsimp only at hSw); go_simp; (try with_reducible rfl)
    simp only [Act.put, List.getElem_toArray, List.getElem_cons_succ, List.getElem_cons_zero, List.setIfInBounds_toArray, List.set_cons_zero, List.set_cons_succ]
    refine wpAnyH_take (i := 7) (v := ?_) rfl (by kernel_rfl) (by kernel_rfl) (by kernel_rfl) (fun _ _ _ h => h) (Or.inl ⟨by rfl, ?_⟩) (by assumption) ?_
    rotate_left
    · intro wq hSw; (try dsimp only at hSw); obtain ⟨u0, u1, u2⟩ := hSw; go_simp; (try with_reducible rfl)
    simp only [Act.put, List.getElem_toArray, List.getElem_cons_succ, List.getElem_cons_zero, List.setIfInBounds_toArray, List.set_cons_zero, List.set_cons_succ]
    refine wpAnyH_take (i := 8) (v := ?_) rfl (by kernel_rfl) (by kernel_rfl) (by kernel_rfl) (fun _ _ _ h => h) (Or.inl ⟨by rfl, ?_⟩) (by assumption) ?_
    rotate_left
    · intro wq hSw; (try dsimp only at hSw); go_simp; (try with_reducible rfl)
    simp only [Act.put, List.getElem_toArray, List.getElem_cons_succ, List.getElem_cons_zero, List.setIfInBounds_toArray, List.set_cons_zero, List.set_cons_succ]
    refine wpAnyH_ready (rs := [9]) (by kernel_rfl) (by simp) ?_
    refine AllReadyH.cons rfl (fun K hK => ?_) AllReadyH.nil
    go_simp
    (try go_wp2_with fail)
    refine hK.out _ _ ?_ (fun hHeld => ?_)
    · exact hS9
    clear hK K
    try simp only [Act.put, List.getElem_toArray, List.getElem_cons_succ, List.getElem_cons_zero, List.setIfInBounds_toArray, List.set_cons_zero, List.set_cons_succ]
    refine wpAnyH_take (i := 10) (v := ?_) rfl (by kernel_rfl) (by kernel_rfl) (by kernel_rfl) (fun _ _ _ h => h) (Or.inl ⟨by rfl, ?_⟩) (by assumption) ?_
    rotate_left
    · intro wq hSw; (try dsimp only at hSw); go_simp; (try with_reducible rfl)
    simp only [Act.put, List.getElem_toArray, List.getElem_cons_succ, List.getElem_cons_zero, List.setIfInBounds_toArray, List.set_cons_zero, List.set_cons_succ]
    refine wpAnyH_take (i := 11) (v := ?_) rfl (by kernel_rfl) (by kernel_rfl) (by kernel_rfl) (fun _ _ _ h => h) (Or.inl ⟨by rfl, ?_⟩) (by assumption) ?_
    rotate_left
    · intro wq hSw; (try dsimp only at hSw); go_simp; (try with_reducible rfl)
    simp only [Act.put, List.getElem_toArray, List.getElem_cons_succ, List.getElem_cons_zero, List.setIfInBounds_toArray, List.set_cons_zero, List.set_cons_succ]
    refine wpAnyH_done (by kernel_rfl) ?_ _
    clear hHeld
    clear y0 y1 y2 z0 z1 z2 r0 r1 r2 f0 f1 f2 hS9
    go_wp2_with fail
    have hk9 : Blk W9.drew (n0 + 1) #[.int .i64 (k : Int), .int .u64 (m : Int), .slice A7 (n + 1) cap7] 42 := HK9.out.same rfl
    have hb9 : Below n0 w W9.drew := by
      have := HB.out.trans (HB9.out.mono (by omega))
      exact ⟨this.os, this.tape, this.output, this.size, this.block⟩
    have q0 := hk9.cell 0 rfl
    have q1 := hk9.cell 1 rfl
    have q2 := hk9.cell 2 rfl
    refine bodyPost_ret (v := .tuple #[.agg #[.int .i64 (k : Int), .int .u64 (m : Int), .slice A7 (n + 1) cap7], .int .i64 (n : Int), .int .i64 0]) (by simp [results, Try.results12, go_sem, q0, q1, q2]) rfl ⟨A7, cap7, rfl, Lib.hid ⟨hb9, row_dc (row_same HO9.out fun _ _ => rfl) (by simp [HL.out]) (by omega) (fun j hj => by have := HBS.out j hj; have := HN0.out; omega)⟩⟩
end Go.Proofs.Ytmjbdjcpjaeemaa
