/-
  What a disk's apart, Read, Remove and Write do.
-/
import Derived.Laws.NewBlocks
import Derived.Maps.AppendAt
import Derived.Test.YtbfcjfeckonklaaDkEasy
namespace Go.Proofs.Ytbfcjfeckonklaa
open Go.RowKit Go.Maps Go.Proofs.DiskMath

def zeB (n : Nat) : Array Value := madeCells #[.int .u8 0] (n * 1)
theorem make_u8s (n : Nat) (h : n ≤ 2000000) (W : World) : (Instr.makeSlice 22 (.int .i64 (n : Int)) (.int .i64 (n : Int))).run Try.prog W = .ok (.slice (some ⟨W.heap.size, 0, none⟩) n n) (W.alloc (.cells (zeB n) 5)) := by
  obtain ⟨i0, hi, hz0, hz1, hz2⟩ := info_parts info_u8
  have := run_make (P := Try.prog) W 22 5 i0 (.int .u8 0) Try.underlying22 hi hz0 .i64 .i64 (n : Int) (n : Int) (by omega) (by omega) (by rw [hz2]; omega) (by omega)
  rw [this, hz1]
  simp only [Int.toNat_natCast]
  rfl
theorem size_zeB (n : Nat) : (zeB n).size = n := by unfold zeB; rw [size_madeCells]; omega
/-- A copy of bytes. -/
theorem copy_bytes {w : World} {ops : Array Oper} {rest : List Oper} {o : Oper} {a : Act} {Q : Exit → Act → World → Prop} (hgd : o.guard = none) (d s : Operand)
    (ho : o.op = .call { callee := .builtin .copy, args := #[d, s], argTypes := #[22, 22] }) {g n c : Nat} {A : Option Addr} {cs : List UInt8} (hd : a.eval d = .slice (some ⟨g, 0, none⟩) n n) (hs : a.eval s = .slice A n c) (hn : cs.length = n) (hc : n ≤ 2000000) (hg : Blk w g (zeB n) 5) (hh : Holds8 w.heap.size w A cs)
    (h : ∀ w', Mut [g] w w' → w'.ownsRow g 5 1 (.slice (some ⟨g, 0, none⟩) n n) cs.length (cs.map b8) → wpList Try.prog ops Q rest (a.put o.dst (.int .i64 (n : Int))) w') : wpList Try.prog ops Q (o :: rest) a w := by
  subst hn
  by_cases h0 : cs.length = 0
  · have hy : cs = [] := List.eq_nil_of_length_eq_zero h0
    subst hy
    refine wpList_plain hgd fun K hK => ?_
    have hrun := run_copy_none (P := Try.prog) w 22 22 o.type 5 (some ⟨g, 0, none⟩) A 0 0 0 c Try.underlying22 (by kernel_rfl) (by simp)
    unfold Oper.wp
    simp only [List.length_nil] at hd hs
    simp [execOp, ho, resolve, invoke, builtin, hd, hs, hrun, Result.andThen]
    exact hK _ _ (h w (Mut.refl _ _) ⟨by simp, .inr ⟨g, 0, _, rfl, Nat.le_refl _, hg, by simp, by unfold maxLen; omega, by rw [size_zeB]; simp, by simp⟩⟩)
  · obtain ⟨b, off, rfl, hb, hcell⟩ := hh (by omega)
    refine wpList_copy_own hgd d s 22 22 ho 5 Try.underlying22 (by kernel_rfl) g 0 cs.length cs.length ⟨b, off, none⟩ cs.length c hd hs _ _ hg (cs.map b8) (by simp) ?_ (by rw [size_zeB]; simp) (b8_one cs) ?_
    · intro j v hv
      have hj : j < cs.length := by
        have := (List.getElem?_eq_some_iff.1 hv).1
        simpa using this
      have hp : (⟨b, off, none⟩ : Addr).add j = ⟨b, off + j, none⟩ := by unfold Addr.add; split <;> simp_all
      rw [hp, hcell j hj, ← hv]
      simp [hj]
    · have hR : ((zeB cs.length).toList.take 0 ++ (cs.map b8 ++ (zeB cs.length).toList.drop (0 + (cs.map b8).length))).toArray = (cs.map b8).toArray := by
        rw [List.drop_of_length_le (by have := size_zeB cs.length; simp; omega)]
        simp
      rw [hR]
      have e : goInt ((cs.map b8).length : Nat) = .int .i64 (cs.length : Int) := by simp [goInt]
      rw [e]
      refine h _ ⟨rfl, rfl, rfl, by simp [World.setRow], fun i _ hn => setRow_other w g i _ (by simpa using hn)⟩ ⟨by simp, .inr ⟨g, cs.length, _, rfl, Nat.le_refl _, setRow_heap w _ _ _ _ _ hg, Nat.le_refl _, by unfold maxLen; omega, by simp, by simp; exact List.take_of_length_le (by simp)⟩⟩

set_option maxRecDepth 100000 in
set_option maxHeartbeats 1000000 in
theorem apart_any (n c : Nat) (A : Option Addr) (cs : List UInt8) (w : World) (h : Holds8 w.heap.size w A cs) (hn : cs.length = n) (hc : n ≤ 2000000) : Calls Try.prog 28 #[.slice A n c] w fun e w' => ∃ g, e = .returned (.slice (some ⟨g, 0, none⟩) n n) ∧ w.heap.size ≤ g ∧ w'.ownsRow g 5 1 (.slice (some ⟨g, 0, none⟩) n n) n (cs.map b8) ∧ Below w.heap.size w w' := by
  have hmk := fun W => make_u8s n hc W
  have hB := box_below (W := w) (.cells (zeB n) 5)
  have hbk := blk_new w (zeB n) 5
  have hH := h.later hB
  have HX := Lib.hid (show Blk (w.alloc (.cells (zeB n) 5)) w.heap.size (zeB n) 5 ∧ Holds8 (w.alloc (.cells (zeB n) 5)).heap.size (w.alloc (.cells (zeB n) 5)) A cs ∧ Below w.heap.size w (w.alloc (.cells (zeB n) 5)) ∧ cs.length = n from ⟨hbk, hH, hB, hn⟩)
  clear hB hbk hH h hn
  obtain ⟨n0, hn0⟩ : ∃ n0, w.heap.size = n0 := ⟨_, rfl⟩
  rw [hn0] at HX ⊢
  go_enter Try.func28, Try.ntmps28
  go_wp2_with (refine copy_bytes rfl _ _ rfl rfl rfl HX.out.2.2.2 hc HX.out.1 HX.out.2.1 ?_)
  intro w' hm ho
  have HY := Lib.hid (show w'.ownsRow n0 5 1 (.slice (some ⟨n0, 0, none⟩) n n) n (cs.map b8) ∧ Below n0 w w' from ⟨by rw [← HX.out.2.2.2]; rw [HX.out.2.2.2]; exact HX.out.2.2.2 ▸ ho, HX.out.2.2.1.trans (hm.below (by have := HX.out.2.2.1.size; omega) (by simp))⟩)
  clear hm ho
  go_wp2_with fail
  go_ret
  exact ⟨n0, rfl, Nat.le_refl _, HY.out.1, HY.out.2⟩

/-- 'append(b, ys...)', and where what it tells lies. -/
theorem app_u8s {w : World} {ops : Array Oper} {rest : List Oper} {o : Oper} {a : Act} {Q : Exit → Act → World → Prop} (hgd : o.guard = none) (s x : Operand)
    (ho : o.op = .call { callee := .builtin .append, args := #[s, x], argTypes := #[22, 22] })
    (v : Value) (xs ys : List UInt8) (k : Nat) (hk : xs.length + ys.length = k) (hs : a.eval s = v) (hown : w.ownsRow 0 5 1 v xs.length (xs.map b8))
    (A : Option Addr) (m c : Nat) (hx : a.eval x = .slice A m c) (hm : ys.length = m) (hr : Holds8 w.heap.size w A ys) (hA : A = none → c = 0) (hbound : k ≤ 2000000)
    (h : ∀ A' c' w', w'.ownsRow 0 5 1 (.slice A' k c') (xs ++ ys).length ((xs ++ ys).map b8) → w.grownBy w' v.ownBlock → ((Value.slice A' k c').ownBlock = v.ownBlock ∨ (Value.slice A' k c').ownBlock = some w.heap.size) → wpList Try.prog ops Q rest (a.put o.dst (.slice A' k c')) w') : wpList Try.prog ops Q (o :: rest) a w := by
  obtain ⟨i0, hi, hz0, hz1, hz2⟩ := info_parts info_u8
  subst hm
  have hkl : (xs ++ ys).length = k := by simp; omega
  have fin : ∀ v' w', w'.ownsRow 0 5 1 v' (xs ++ ys).length ((xs ++ ys).map b8) → w.grownBy w' v.ownBlock → (v'.ownBlock = v.ownBlock ∨ v'.ownBlock = some w.heap.size) → wpList Try.prog ops Q rest (a.put o.dst v') w' := fun v' w' h1 h2 h3 => by
    obtain ⟨A', c', e, _⟩ := holds_of_own h1
    rw [hkl] at e
    subst e
    exact h A' c' w' h1 h2 h3
  rcases A with _ | ad
  · have hy : ys = [] := by
      rcases Nat.eq_zero_or_pos ys.length with h0 | h0
      · exact List.eq_nil_of_length_eq_zero h0
      · obtain ⟨_, _, e, _⟩ := hr h0
        cases e
    subst hy
    obtain rfl := hA rfl
    refine wpList_append_own_none hgd s x 22 ho 0 5 i0 1 Try.underlying22 hi v _ _ hs hown hx (fin v w ?_ ⟨rfl, rfl, rfl, Nat.le_refl _, fun _ _ _ => rfl⟩ (.inl rfl))
    simpa using hown
  · obtain ⟨v', w', hrun, k1, k2, _, k3⟩ := run_append_own_at (P := Try.prog) w 0 22 o.type 5 i0 (.int .u8 0) 1 1 Try.underlying22 hi hz0 hz1 hz2 rfl (by decide) v _ _ hown ad ys.length c (ys.map b8) (by simp) (fun j u hu => by
        have hj : j < ys.length := by
          have := (List.getElem?_eq_some_iff.1 hu).1
          simpa using this
        obtain ⟨b, off, e, _, hc⟩ := hr (by omega)
        cases e
        have hp : (⟨b, off, none⟩ : Addr).add j = ⟨b, off + j, none⟩ := by unfold Addr.add; split <;> simp_all
        rw [hp, hc j hj, ← hu]
        simp [hj]) (b8_one ys) (by unfold maxLen; omega) (by omega) (Nat.zero_le _)
    refine wpList_plain hgd fun _ hK => ?_
    unfold Oper.wp execOp
    simp only [ho, resolve, invoke, builtin, Sem.run_bind, Sem.run_pure, Result.andThen_ok, List.map_toArray, List.map_cons, List.map_nil, hs, hx, hrun]
    exact hK _ _ (fin v' w' (by simpa using k1) k2 k3)

set_option maxRecDepth 100000 in
set_option maxHeartbeats 1000000 in
theorem read_no {bs : List Nat} {S : Nat} {s : List Fi} (no : Int) (w : World) (h : Dd w bs S s) (h1 : -9223372036854775808 ≤ no) (h2 : no ≤ 9223372036854775807) (hn : seek no s = none) :
    Calls Try.prog 15 #[.pointer (some ⟨S, 0, none⟩), .int .i64 no] w fun e w' => e = .returned (.tuple #[.slice none 0 0, .int .u16 71]) ∧ w = w' := by
  obtain ⟨M, F, hk, hbs⟩ := h
  have c0 : w.cell? ⟨S, 0, none⟩ = some (.map (some M)) := hk.blk.cell 0 rfl
  rcases hk.find h1 h2 with ⟨e, hl⟩ | ⟨A, x, B, rfl, e1, e, hl⟩
  · have l0 := hl 0
    change Sem.run _ _ w = .ok _ w at l0
    clear hk hl e hbs hn
    go_enter Try.func15, Try.ntmps15
    go_wp2_with fail
    exact bodyPost_ret (v := .tuple #[.slice none 0 0, .int .u16 71]) (by simp [results, Try.results15, go_sem]) rfl ⟨rfl, rfl⟩
  · rw [e] at hn; cases hn

set_option maxRecDepth 100000 in
set_option maxHeartbeats 1000000 in
theorem read_any {bs : List Nat} {S : Nat} {s : List Fi} (no : Int) (w : World) (h : Dd w bs S s) (h1 : -9223372036854775808 ≤ no) (h2 : no ≤ 9223372036854775807) (f : Fi) (hn : seek no s = some f) (n : Nat) (hfn : f.bs.length = n) (hb : n ≤ 2000000) :
    Calls Try.prog 15 #[.pointer (some ⟨S, 0, none⟩), .int .i64 no] w fun e w' => ∃ g, e = .returned (.tuple #[.slice (some ⟨g, 0, none⟩) n n, .int .u16 0]) ∧ w.heap.size ≤ g ∧ w'.ownsRow g 5 1 (.slice (some ⟨g, 0, none⟩) n n) n (f.bs.map b8) ∧ Below w.heap.size w w' := by
  obtain ⟨M, F, hk, hbs⟩ := h
  have c0 : w.cell? ⟨S, 0, none⟩ = some (.map (some M)) := hk.blk.cell 0 rfl
  rcases hk.find h1 h2 with ⟨e, hl⟩ | ⟨A, x, B, rfl, e1, e, hl⟩
  · rw [e] at hn; cases hn
  · have l0 := hl 0
    rw [e] at hn
    injection hn with hn
    subst hn
    change Sem.run _ _ w = .ok _ w at l0
    have hx := hk.each x (by simp)
    obtain ⟨A1, cap, hv, _, _, hH⟩ := hx.len
    have c1 : w.cell? ⟨x.p, 0, none⟩ = some (.slice A1 n cap) := hx.blk.cell 0 (by simp [hv, hfn])
    have HA := Lib.hid (apart_any n cap A1 x.f.bs w hH hfn hb)
    obtain ⟨⟨fno, fbs, fsure⟩, p, v⟩ := x
    dsimp only at *
    clear hk hl e e1 hbs hx hv hH hfn
    go_enter Try.func15, Try.ntmps15
    go_wp2_with fail
    refine HA.out.mono ?_
    rintro e w' ⟨g, rfl, hg, ho, hbel⟩
    have HY := Lib.hid (And.intro hg (And.intro ho hbel))
    clear hg ho hbel HA
    go_wp2_with fail
    exact bodyPost_ret (v := .tuple #[.slice (some ⟨g, 0, none⟩) n n, .int .u16 0]) (by simp [results, Try.results15, go_sem]) rfl ⟨g, rfl, HY.out⟩

theorem core_less {S M : Nat} {A B : List Fe} {x : Fe} {W : World} : Ext W (core S M (A ++ x :: B)) (core S M (A ++ B)) := fun k hk => .inl (by
  simp only [core, List.mem_cons, List.flatMap_append, List.flatMap_cons, List.mem_append] at hk ⊢
  rcases hk with e | e | e | e
  · exact .inl e
  · exact .inr (.inl e)
  · exact .inr (.inr (.inl e))
  · exact .inr (.inr (.inr (.inr e))))
theorem mut_map {M : Nat} {w w' : World} (h : w.grownBy w' (some M)) : Mut [M] w w' := (Mut.refl [M] w).grown h (by simp)

set_option maxRecDepth 100000 in
set_option maxHeartbeats 1000000 in
theorem remove_any {bs : List Nat} {S : Nat} {s : List Fi} (no : Int) (w : World) (h : Dd w bs S s) (h1 : -9223372036854775808 ≤ no) (h2 : no ≤ 9223372036854775807) (er : Nat) (her : (if (seek no s).isSome then 0 else 71) = er) :
    Calls Try.prog 19 #[.pointer (some ⟨S, 0, none⟩), .int .i64 no] w fun e w' => e = .returned (.int .u16 (er : Int)) ∧ DdTo w bs S (remove s no) w' := by
  obtain ⟨M, F, hk, hbs⟩ := h
  have c0 : w.cell? ⟨S, 0, none⟩ = some (.map (some M)) := hk.blk.cell 0 rfl
  rcases hk.find h1 h2 with ⟨e, hl⟩ | ⟨A, x, B, rfl, e1, e, hl⟩
  · have l0 := hl 0
    rw [e] at her
    subst her
    change Sem.run _ _ w = .ok _ w at l0
    have HX := Lib.hid (show DdTo w bs S (remove s no) w by rw [remove_none e]; exact DdTo.refl ⟨M, F, hk, hbs⟩)
    clear hk hl e hbs
    go_enter Try.func19, Try.ntmps19
    go_wp2_with fail
    go_ret
    exact ⟨rfl, HX.out⟩
  · have l0 := hl 0
    rw [e] at her
    simp at her
    subst her
    change Sem.run _ _ w = .ok _ w at l0
    have HM := Lib.hid hk.map
    have HE := Lib.hid (show fE (A ++ x :: B) = fE A ++ (kl no, .pointer (some ⟨x.p, 0, none⟩)) :: fE B by rw [fE_append, fE_cons, e1])
    have HK := Lib.hid (key_int h1 h2)
    have HX := Lib.hid (show ∀ w', Am w' 3 ptrElem M (fE A ++ fE B) → w.grownBy w' (some M) → DdTo w bs S (remove s no) w' from fun w' ha hg => by
      have hfl := hk.fl
      have hiv := hk.iv
      rw [← hfl] at hiv
      simp only [List.map_append, List.map_cons] at hiv
      have hk2 := hk.rem ((mut_map hg).wider (by simp)) ha
      rw [← hfl, ← e1]
      simp only [List.map_append, List.map_cons]
      rw [remove_mid hiv]
      subst hbs
      exact ⟨_, ⟨M, _, hk2, rfl⟩, (mut_map hg).wider (by simp [core]), core_less⟩)
    clear hk hl e e1 hbs h1 h2
    go_enter Try.func19, Try.ntmps19
    go_wp2_with (refine wpList_am_del rfl _ _ rfl law_int Try.underlying59 rfl HM.out HE.out rfl HK.out ?_)
    intro w' ha hg
    have HY := Lib.hid (HX.out w' ha hg)
    clear ha hg HX HM
    go_wp2_with fail
    go_ret
    exact ⟨rfl, HY.out⟩
end Go.Proofs.Ytbfcjfeckonklaa
