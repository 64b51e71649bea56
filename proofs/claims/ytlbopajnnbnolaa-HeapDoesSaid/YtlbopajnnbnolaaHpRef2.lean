/-
  The document's own First and Same of timers; laws of appends of rows of timers, and of what is cut off one.
-/
import Derived.Deep.RegionHeld
import Derived.Test.YtlbopajnnbnolaaHpRef
namespace Go.Proofs.Ytlbopajnnbnolaa
open Go.RowKit Go.Maps Go.Proofs.HeapMath

/-- The first one; a zero one, if there is none. -/
def hd (s : List Tm) : Tm := s.headD (0, 0)
theorem hd_at {s : List Tm} (h : 0 < s.length) : hd s = at_ s 0 := by
  cases s with
  | nil => simp at h
  | cons t r => rfl
/-- A row of timers, each as it lies. -/
def Rd (W : World) (B : Option Addr) (m : Nat) (l : List Tm) : Prop := l.length = m ∧ (0 < m → ∃ g off, B = some ⟨g, off, none⟩ ∧ ∀ j, j < m → W.cell? ⟨g, off + j * 2, none⟩ = some (.int .i64 (at_ l j).1) ∧ W.cell? ⟨g, off + j * 2 + 1, none⟩ = some (.int .i64 (at_ l j).2))
theorem cl_cell {W : World} {g off m : Nat} {l : List Tm} (hl : l.length = m) (hc : ∀ j, j < m → W.cell? ⟨g, off + j * 2, none⟩ = some (.int .i64 (at_ l j).1) ∧ W.cell? ⟨g, off + j * 2 + 1, none⟩ = some (.int .i64 (at_ l j).2)) : ∀ j u, (cl l)[j]? = some u → W.cell? ((⟨g, off, none⟩ : Addr).add j) = some u := by
  intro j u hu
  have hj : j < m * 2 := by
    have := (List.getElem?_eq_some_iff.1 hu).1
    rw [cl_length] at this
    omega
  have hp : (⟨g, off, none⟩ : Addr).add j = ⟨g, off + j, none⟩ := by unfold Addr.add; split <;> simp_all
  rw [hp]
  obtain ⟨q, rfl | rfl⟩ : ∃ q, j = q * 2 ∨ j = q * 2 + 1 := ⟨j / 2, by omega⟩
  · rw [(hc q (by omega)).1, ← hu, (cl_at (by omega)).1]
  · have := (hc q (by omega)).2
    rw [show off + (q * 2 + 1) = off + q * 2 + 1 by omega, this, ← hu, (cl_at (by omega)).2]
/-- 'append(x, y...)' of timers, x the call's own. -/
theorem app_tms {w : World} {ops : Array Oper} {rest : List Oper} {o : Oper} {a : Act} {Q : Exit → Act → World → Prop} (hgd : o.guard = none) (s x : Operand)
    (ho : o.op = .call { callee := .builtin .append, args := #[s, x], argTypes := #[38, 38] })
    (base : Nat) (A B : Option Addr) (n cap m c nm : Nat) (hnm : n + m = nm) (l1 l2 : List Tm) (hs : a.eval s = .slice A n cap) (hown : w.ownsRow base 31 2 (.slice A n cap) n (cl l1)) (hx : a.eval x = .slice B m c) (hr : Rd w B m l2) (hBn : B = none → c = 0 ∧ m = 0)
    (hb : n + m ≤ 10001) (hbase : base ≤ w.heap.size)
    (h : ∀ A' cap' w', w'.ownsRow base 31 2 (.slice A' nm cap') nm (cl (l1 ++ l2)) → w.grownBy w' (Value.slice A n cap).ownBlock → (∀ g, (Value.slice A' nm cap').ownBlock = some g → (Value.slice A n cap).ownBlock = some g ∨ w.heap.size ≤ g) → wpList Try.prog ops Q rest (a.put o.dst (.slice A' nm cap')) w') : wpList Try.prog ops Q (o :: rest) a w := by
  subst hnm
  obtain ⟨i0, hi, hz0, hz1, hz2⟩ := info_parts info_api
  have hm10 : (10001 : Nat) ≤ maxLen := by decide
  have key : ∃ A' cap' w', (Builtin.append_ #[38, 38] o.type #[.slice A n cap, .slice B m c]).run Try.prog w = .ok (.slice A' (n + m) cap') w' ∧ w'.ownsRow base 31 2 (.slice A' (n + m) cap') (n + m) (cl (l1 ++ l2)) ∧ w.grownBy w' (Value.slice A n cap).ownBlock ∧ (∀ g, (Value.slice A' (n + m) cap').ownBlock = some g → (Value.slice A n cap).ownBlock = some g ∨ w.heap.size ≤ g) := by
    by_cases h0 : m = 0
    · subst h0
      have hl2 : l2 = [] := List.eq_nil_of_length_eq_zero hr.1
      subst hl2
      cases B with
      | none =>
        obtain ⟨rfl, _⟩ := hBn rfl
        refine ⟨A, cap, w, run_append_owned_none (P := Try.prog) w base 38 o.type 31 i0 2 Try.underlying38 hi _ n _ hown, by simpa using hown, ⟨rfl, rfl, rfl, Nat.le_refl _, fun _ _ _ => rfl⟩, fun g hg => .inl hg⟩
      | some b =>
        obtain ⟨v', w', q1, q2, q3, q4, q5⟩ := run_append_own_at (P := Try.prog) w base 38 o.type 31 i0 (.agg #[.int .i64 0, .int .i64 0]) 2 16 Try.underlying38 hi hz0 hz1 hz2 rfl (by decide) _ n _ hown b 0 c [] rfl (by simp) (by simp) (by omega) (by omega) hbase
        rcases hown.2 with ⟨e, en⟩ | ⟨g, cap', cur, e, _⟩
        · rcases q2.2 with ⟨e2, en2⟩ | ⟨g2, cap2, cur2, e2, _⟩
          · subst e2
            refine ⟨none, 0, w', by rw [q1, en], by rw [en] at q2 ⊢; simpa using q2, q3, fun g hg => by simp [Value.ownBlock] at hg⟩
          · subst e2
            refine ⟨some ⟨g2, 0, none⟩, cap2, w', q1, by simpa using q2, q3, fun g hg => ?_⟩
            rcases q5 with h | h
            · exact .inl (by rw [← h]; exact hg)
            · rw [h] at hg; injection hg with hg; exact .inr (by omega)
        · rcases q2.2 with ⟨e2, en2⟩ | ⟨g2, cap2, cur2, e2, _⟩
          · subst e2
            refine ⟨none, 0, w', by rw [q1, show n = 0 by omega], by rw [show n = 0 by omega] at q2 ⊢; simpa using q2, q3, fun g hg => by simp [Value.ownBlock] at hg⟩
          · subst e2
            refine ⟨some ⟨g2, 0, none⟩, cap2, w', q1, by simpa using q2, q3, fun g hg => ?_⟩
            rcases q5 with h | h
            · exact .inl (by rw [← h]; exact hg)
            · rw [h] at hg; injection hg with hg; exact .inr (by omega)
    · obtain ⟨g, off, rfl, hc⟩ := hr.2 (by omega)
      obtain ⟨g2, cap2, w', q1, q2, q3, q4, _⟩ := run_append_lies (P := Try.prog) w 38 o.type base 31 i0 (.agg #[.int .i64 0, .int .i64 0]) 2 16 Try.underlying38 hi hz0 hz1 hz2 rfl (by decide) _ n _ hown ⟨g, off, none⟩ m c (cl l2) (by rw [cl_length, hr.1]) (cl_cell hr.1 hc) (cl_one l2) (by omega) (by omega) (by omega) hbase _ rfl
      refine ⟨_, cap2, w', q1, by rw [cl_append]; exact q2, q3, fun x hx => ?_⟩
      simp [Value.ownBlock] at hx
      subst hx
      rcases q4 with h | h
      · exact .inl h
      · exact .inr (by omega)
  obtain ⟨A', cap', w', k1, k2, k3, k4⟩ := key
  refine wpList_plain hgd fun _ hK => ?_
  unfold Oper.wp execOp
  simp only [ho, resolve, invoke, builtin, Sem.run_bind, Sem.run_pure, Result.andThen_ok, List.map_toArray, List.map_cons, List.map_nil, hs, hx, k1]
  exact hK _ _ (h A' cap' w' k2 k3 k4)
/-- 'l[i:]'. -/
theorem cut_from (A : Option Addr) (n cap i : Nat) (hi : i ≤ n) (W : World) (s : List Tm) (hs : s.length = n) (hc : 0 < n → ∃ g, A = some ⟨g, 0, none⟩ ∧ ∀ j, j < n → W.cell? ⟨g, j * 2, none⟩ = some (.int .i64 (at_ s j).1) ∧ W.cell? ⟨g, j * 2 + 1, none⟩ = some (.int .i64 (at_ s j).2)) (hcap : n ≤ cap) (hA : A = none → cap = 0) :
    ∃ A2, (∀ W', (Instr.slice 38 (.slice A n cap) (some (.int .i64 (i : Int))) none none).run Try.prog W' = .ok (.slice A2 (n - i) (cap - i)) W') ∧ Rd W A2 (n - i) (s.drop i) ∧ (A2 = none → cap - i = 0 ∧ n - i = 0) := by
  have hrun : ∀ W', (Instr.slice 38 (.slice A n cap) (some (.int .i64 (i : Int))) none none).run Try.prog W' = .ok (.slice (if cap = i then A else A.map (·.add (i * 2))) (n - i) (cap - i)) W' := fun W' => by
    rw [run_slice_l W' 38 A n cap (by kernel_rfl) .i64 (i : Int) (by omega) (by omega)]
    have hz : (sizeOf (Try.prog.elem 38)).run Try.prog W' = .ok 2 W' := by kernel_rfl
    rw [hz]
    simp only [sliced, Result.andThen, Int.toNat_natCast]
  refine ⟨_, hrun, ⟨by rw [List.length_drop, hs], fun h0 => ?_⟩, fun h => ?_⟩
  · obtain ⟨g, rfl, hcell⟩ := hc (by omega)
    rw [if_neg (by omega)]
    have hp : (⟨g, 0, none⟩ : Addr).add (i * 2) = ⟨g, i * 2, none⟩ := by unfold Addr.add; split <;> simp_all
    refine ⟨g, i * 2, by simp [hp], fun j hj => ?_⟩
    have hat : at_ (s.drop i) j = at_ s (i + j) := by simp [at_, List.getD]
    rw [hat, show i * 2 + j * 2 = (i + j) * 2 by omega]
    exact hcell (i + j) (by omega)
  · have hAn : A = none := by
      by_cases e : cap = i
      · rwa [if_pos e] at h
      · rw [if_neg e] at h
        cases A with
        | none => rfl
        | some x => cases h
    have := hA hAn
    omega
theorem Rd.take {W : World} {A : Option Addr} {n i : Nat} {s : List Tm} (hi : i ≤ n) (hs : s.length = n) (hc : 0 < n → ∃ g, A = some ⟨g, 0, none⟩ ∧ ∀ j, j < n → W.cell? ⟨g, j * 2, none⟩ = some (.int .i64 (at_ s j).1) ∧ W.cell? ⟨g, j * 2 + 1, none⟩ = some (.int .i64 (at_ s j).2)) : Rd W A i (s.take i) := by
  refine ⟨by rw [List.length_take]; omega, fun h0 => ?_⟩
  obtain ⟨g, rfl, hcell⟩ := hc (by omega)
  refine ⟨g, 0, rfl, fun j hj => ?_⟩
  have hat : at_ (s.take i) j = at_ s j := by simp [at_, List.getD, hj]
  rw [hat, Nat.zero_add]
  exact hcell j (by omega)

set_option maxRecDepth 100000 in
set_option maxHeartbeats 1000000 in
theorem refFirst_any {A : Option Addr} {n cap most : Nat} {s : List Tm} {bs : List Nat} (w : World) (h : Dc w A n cap s bs) :
    Calls Try.prog 18 #[.agg #[.slice A n cap, .int .i64 (most : Int)]] w fun e w' => e = .returned (.tuple #[.agg #[.int .i64 (hd s).1, .int .i64 (hd s).2], .bool (!s.isEmpty)]) ∧ Below w.heap.size w w' := by
  have hB : ∀ a b : Int, Below w.heap.size w ((w.alloc (.cells #[.slice A n cap, .int .i64 (most : Int)] 40)).alloc (.cells #[.int .i64 a, .int .i64 b] 31)) := fun a b => (box_below _).alloc (by simp) _
  have hk := blk_new w #[.slice A n cap, .int .i64 (most : Int)] 40
  have hk2 : ∀ a b : Int, Blk ((w.alloc (.cells #[.slice A n cap, .int .i64 (most : Int)] 40)).alloc (.cells #[.int .i64 a, .int .i64 b] 31)) w.heap.size #[.slice A n cap, .int .i64 (most : Int)] 40 := fun a b => hk.later (box_below _)
  have hk3 : ∀ a b : Int, Blk ((w.alloc (.cells #[.slice A n cap, .int .i64 (most : Int)] 40)).alloc (.cells #[.int .i64 a, .int .i64 b] 31)) (w.heap.size + 1) #[.int .i64 a, .int .i64 b] 31 := fun a b => by
    have := blk_new (w.alloc (.cells #[.slice A n cap, .int .i64 (most : Int)] 40)) #[.int .i64 a, .int .i64 b] 31
    rwa [World.size_alloc] at this
  have c0 := (hk2 0 0).cell 0 rfl
  have hl := h.len
  have h5 := h.five
  cases s with
  | nil =>
    obtain rfl : n = 0 := by simpa using hl.symm
    have q1 := Lib.hid ((hk3 0 0).cell 0 rfl)
    have q2 := Lib.hid ((hk3 0 0).cell 1 rfl)
    have HB := Lib.hid (hB 0 0)
    clear hB hk hk2 hk3 hl h
    go_enter Try.func18, Try.ntmps18
    go_wp2_with fail
    have k1 := q1.out
    have k2 := q2.out
    exact bodyPost_ret (v := .tuple #[.agg #[.int .i64 0, .int .i64 0], .bool false]) (by simp [results, Try.results18, go_sem, k1, k2]) rfl ⟨rfl, HB.out⟩
  | cons t r =>
    obtain ⟨g, rfl, hg, _, hc⟩ := h.cells (by rw [← hl]; simp)
    obtain ⟨d0, d1⟩ := hc 0 (by rw [← hl]; simp)
    have hn0 : 0 < n := by rw [← hl]; simp
    obtain ⟨a, b⟩ := t
    have e0 := ((hB 0 0).cell (p := ⟨g, 0, none⟩) hg).trans d0
    have e1 := ((hB 0 0).cell (p := ⟨g, 1, none⟩) hg).trans d1
    have e0' : ((w.alloc (.cells #[.slice (some ⟨g, 0, none⟩) n cap, .int .i64 (most : Int)] 40)).alloc (.cells #[.int .i64 0, .int .i64 0] 31)).cell? ⟨g, 0, none⟩ = some (.int .i64 a) := e0
    have e1' : ((w.alloc (.cells #[.slice (some ⟨g, 0, none⟩) n cap, .int .i64 (most : Int)] 40)).alloc (.cells #[.int .i64 0, .int .i64 0] 31)).cell? ⟨g, 1, none⟩ = some (.int .i64 b) := e1
    have q1 := Lib.hid ((hk3 a b).cell 0 rfl)
    have q2 := Lib.hid ((hk3 a b).cell 1 rfl)
    have HB := Lib.hid (hB a b)
    have dn : (n == 0) = false := by simp; omega
    have dn2 : ((n : Int) == 0) = false := by simp; omega
    clear hB hk hk2 hk3 hl h hc d0 d1 e0 e1
    go_enter Try.func18, Try.ntmps18
    go_wp2_with fail
    have k1 := q1.out
    have k2 := q2.out
    exact bodyPost_ret (v := .tuple #[.agg #[.int .i64 a, .int .i64 b], .bool true]) (by simp [results, Try.results18, go_sem, k1, k2]) rfl ⟨rfl, HB.out⟩

set_option maxRecDepth 100000 in
set_option maxHeartbeats 1000000 in
/-- Two rows of the same timers are alike. -/
theorem refSame_any {A B : Option Addr} {n c1 c2 : Nat} {l : List Tm} (w : World) (hA : Tms w.heap.size w A l) (hB : Rd w B n l) (h5 : n ≤ 5000) :
    Calls Try.prog 20 #[.slice A n c1, .slice B n c2] w fun e w' => e = .returned (.bool true) ∧ ∃ q, w' = w.drewN q := by
  obtain ⟨hl, hB2⟩ := hB
  have HA := Lib.hid hA
  have HB := Lib.hid hB2
  have HL := Lib.hid hl
  clear hA hB2 hl
  go_enter Try.func20, Try.ntmps20
  go_wp2_with fail
  go_loopw [5] (fun iv wr => ∃ i : Nat, i ≤ n ∧ iv = .int .i64 (i : Int) ∧ Hid (∃ q, wr = w.drewN q)) (fun iv _ => n - (intOf iv).toNat)
  case atStart => exact ⟨0, by omega, rfl, Lib.hid ⟨0, rfl⟩⟩
  case round =>
    obtain ⟨i, hi, rfl, HQ⟩ := hrel
    obtain ⟨q, hq⟩ := HQ.out
    by_cases hlt : i < n
    · have dl : decide (i < n) = true := by simp; omega
      obtain ⟨g1, o1, rfl, _, a1⟩ := HA.out (by rw [HL.out]; omega)
      obtain ⟨g2, o2, rfl, a2⟩ := HB.out (by omega)
      obtain ⟨p1, p2⟩ := a1 i (by rw [HL.out]; exact hlt)
      obtain ⟨r1, r2⟩ := a2 i hlt
      obtain ⟨⟨x, y⟩, hx⟩ : ∃ t, at_ l i = t := ⟨_, rfl⟩
      rw [hx] at p1 p2 r1 r2
      simp only at p1 p2 r1 r2
      have p1' : wr.cell? ⟨g1, o1 + i * 2, none⟩ = some (.int .i64 x) := by rw [hq]; exact p1
      have p2' : wr.cell? ⟨g1, o1 + i * 2 + 1, none⟩ = some (.int .i64 y) := by rw [hq]; exact p2
      have r1' : wr.cell? ⟨g2, o2 + i * 2, none⟩ = some (.int .i64 x) := by rw [hq]; exact r1
      have r2' : wr.cell? ⟨g2, o2 + i * 2 + 1, none⟩ = some (.int .i64 y) := by rw [hq]; exact r2
      have HW : Hid (∀ nq, ∃ q, wr.drewN nq = w.drewN q) := Lib.hid fun nq => ⟨q + nq, by rw [hq, World.drewN_drewN]⟩
      clear a1 a2 hx HQ p1 p2 r1 r2 hq
      go_wp2_with fail
      go_quiet (fail)
      go_wp2_with fail
      go_roundw
      case rel => exact ⟨i + 1, by omega, by go_num, Lib.hid (HW.out _)⟩
      case measure => simp [intOf]; omega
    · obtain rfl : i = n := by omega
      have dl : decide (i < i) = false := by simp
      go_wp2_with fail
      go_ret
      exact ⟨rfl, q, rfl⟩
end Go.Proofs.Ytlbopajnnbnolaa
