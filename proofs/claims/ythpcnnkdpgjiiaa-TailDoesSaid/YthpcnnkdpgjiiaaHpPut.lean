/-
  A heap of a law's own: Push, Pop, Drop.
-/
import Derived.Test.YthpcnnkdpgjiiaaHpOn
namespace Go.Proofs.Ythpcnnkdpgjiiaa
open Go.RowKit Go.Maps Go.Proofs.HeapMath

/-- The look-up of a number's place. -/
theorem look_at {W : World} {M : Nat} {l : List Tm} (h : Mp W M l) (no : Int) (h1 : -9223372036854775808 ≤ no) (h2 : no ≤ 9223372036854775807) :
    ∃ c : Int, (∀ q, (Instr.lookup 103 (.map (some M)) (.int .i64 no) true).run Try.prog (W.drewN q) = .ok (.tuple #[.int .i64 c, .bool (isin no l)]) (W.drewN q)) ∧ (isin no l = true → ∃ i, i < l.length ∧ (at_ l i).2 = no ∧ c = (i : Int)) := by
  obtain ⟨D, hD, hP⟩ := h
  have key : ∀ q, (Instr.lookup 103 (.map (some M)) (.int .i64 no) true).run Try.prog (W.drewN q) = .ok (.tuple #[.int .i64 (match D.atKey (kl no) z0 with | .lit (.int _ c) => c | _ => 0), .bool (isin no l)]) (W.drewN q) := fun q => by
    have hq : (W.drewN q).ownsMap Try.prog 3 (plainElem Try.prog 3) M l.length D := map_same hD rfl
    obtain ⟨v, ps, hr, hv⟩ := hq.look_ok law_int Try.underlying103 (zero_int _) (plainElem_int (a := 0) Try.underlying3 (by decide)) (key_int h1 h2)
    obtain ⟨c, rfl, hc, _⟩ := plainElem_int_inv Try.underlying3 hv
    have hc1 : D.atKey (kl no) z0 = .lit (.int .i64 c) := congrArg Prod.fst hc
    rw [hr, hP.is, hc1]
  refine ⟨_, key, fun hi => ?_⟩
  obtain ⟨a, ha, e⟩ := isin_true.1 hi
  obtain ⟨i, hi, e2⟩ := mem_at ha
  refine ⟨i, hi, by rw [e2, e], ?_⟩
  have := (hP.has i hi).2
  rw [e2, e] at this
  rw [this]

theorem quiet_left {P : Program} {f : FuncId} {args : Array Value} {w : World} {n : Nat} {v : Value}
    (h : Calls P f args (w.drewN n) fun e w' => e = .returned v ∧ w.drewN n = w') : Calls P f args (w.drewN n) fun e w'' => e = .returned v ∧ ∃ m, w'' = w.drewN m :=
  h.mono fun _ _ ⟨he, hm⟩ => ⟨he, n, hm.symm⟩
theorem Hp.drewN {W : World} {bs : List Nat} {S most : Nat} {s : List Tm} (h : Hp W bs S most s) (q : Nat) : Hp (W.drewN q) bs S most s := h.mut (cs := []) ⟨rfl, rfl, rfl, Nat.le_refl _, fun _ _ _ => rfl⟩ (by simp)
theorem Below.drewN' {B : Nat} {w W : World} (h : Below B w W) (q : Nat) : Below B w (W.drewN q) := ⟨h.os, h.tape, h.output, h.size, h.block⟩
theorem Hp.most_cell {W : World} {bs : List Nat} {S most : Nat} {s : List Tm} (h : Hp W bs S most s) : W.cell? ⟨S, 0, none⟩ = some (.int .i64 (most : Int)) := by
  obtain ⟨M, v, l, h1, _⟩ := h
  exact h1.own.cell 0 rfl

set_option maxRecDepth 100000 in
set_option maxHeartbeats 1000000 in
theorem hpush_arg {bs : List Nat} {S most : Nat} {s : List Tm} (t : Tm) (w : World) (h : Hp w bs S most s) (ht : In64 t) (hi : isin t.2 s = true) :
    Calls Try.prog 48 #[.pointer (some ⟨S, 0, none⟩), .agg #[.int .i64 t.1, .int .i64 t.2]] w fun e w' => e = .returned (.int .u16 1) ∧ Below w.heap.size w w' := by
  have hB : Below w.heap.size w (w.alloc (.cells #[.int .i64 t.1, .int .i64 t.2] 89)) := box_below _
  obtain ⟨M, v, l, h1, h2, h3, h4, h5, h6, h7, h8, h9, h10⟩ := h.later hB
  obtain ⟨c, hc, _⟩ := look_at h1.map t.2 ht.2.1 ht.2.2
  rw [isin_perm h3, hi] at hc
  have s2 := h1.own.cell 2 rfl
  have k2 := (blk_new w #[.int .i64 t.1, .int .i64 t.2] 89).cell 1 rfl
  obtain ⟨a, b⟩ := t
  simp only at k2 hc
  clear h h1 h2 h3 h4 h5 h6 h7 h8 h9 h10 ht hi
  have HB := Lib.hid hB
  clear hB
  simp only at HB s2 k2 hc
  obtain ⟨n0, hn0⟩ : ∃ n0, w.heap.size = n0 := ⟨_, rfl⟩
  rw [hn0] at k2 HB ⊢
  go_enter Try.func48, Try.ntmps48
  go_wp2_with fail
  go_quiet (fail)
  go_wp2_with fail
  go_ret
  exact ⟨rfl, Below.drewN' HB.out _⟩

set_option maxRecDepth 100000 in
set_option maxHeartbeats 1000000 in
theorem hpush_full {bs : List Nat} {S most : Nat} {s : List Tm} (t : Tm) (w : World) (h : Hp w bs S most s) (ht : In64 t) (hi : isin t.2 s = false) (hf : s.length = most) :
    Calls Try.prog 48 #[.pointer (some ⟨S, 0, none⟩), .agg #[.int .i64 t.1, .int .i64 t.2]] w fun e w' => e = .returned (.int .u16 70) ∧ Below w.heap.size w w' := by
  have hB : Below w.heap.size w (w.alloc (.cells #[.int .i64 t.1, .int .i64 t.2] 89)) := box_below _
  have hh := h.later hB
  have hL := fun q q2 => hlen_any _ ((hh.drewN q).drewN q2)
  have hM := fun q q2 => ((hh.drewN q).drewN q2).most_cell
  rw [hf] at hL
  obtain ⟨M, v, l, h1, h2, h3, h4, h5, h6, h7, h8, h9, h10⟩ := hh
  obtain ⟨c, hc, _⟩ := look_at h1.map t.2 ht.2.1 ht.2.2
  rw [isin_perm h3, hi] at hc
  have s2 := h1.own.cell 2 rfl
  have k2 := (blk_new w #[.int .i64 t.1, .int .i64 t.2] 89).cell 1 rfl
  obtain ⟨a, b⟩ := t
  simp only at k2 hc hL hM
  clear h h1 h2 h3 h4 h5 h6 h7 h8 h9 h10 ht hi hf
  have HB := Lib.hid hB
  have HL := Lib.hid hL
  have HM := Lib.hid hM
  clear hB hL hM
  simp only at HB s2 k2 hc HL HM
  obtain ⟨n0, hn0⟩ : ∃ n0, w.heap.size = n0 := ⟨_, rfl⟩
  rw [hn0] at k2 HB ⊢
  go_enter Try.func48, Try.ntmps48
  go_wp2_with fail
  go_quiet (fail)
  go_wp2_with fail
  have HB2 := Lib.hid (Below.drewN' HB.out nq)
  have HL2 := Lib.hid (HL.out nq)
  have HM2 := Lib.hid (HM.out nq)
  clear HB HL HM hc s2 k2 hn0
  generalize (w.alloc (.cells #[.int .i64 a, .int .i64 b] 89)).drewN nq = w2 at HB2 HL2 HM2 ⊢
  have m0 : w2.cell? ⟨S, 0, none⟩ = some (.int .i64 (most : Int)) := HM2.out 0
  go_quiet ((go_at_call 47; exact quiet_left (HL2.out _)))
  go_wp2_with fail
  go_ret
  exact ⟨rfl, Below.drewN' HB2.out _⟩

def PushE (w : World) (bs : List Nat) (S most : Nat) (s : List Tm) (t : Tm) (w' : World) : Prop := HpTo w bs S most (ins t s) w'
theorem push_to {w w1 w' : World} {bs : List Nat} {S most M : Nat} {v : Value} {s l : List Tm} {t : Tm} (h2 : l.Perm s) (hs : So s) (hlt : s.length < most) (h5 : 1 ≤ most ∧ most ≤ 5000) (hi : isin t.2 s = false) (hS : S ∈ bs) (hM : M ∈ bs) (hv : ∀ g, v.ownBlock = some g → g ∈ bs) (hkk : ∀ k ∈ bs, k < w1.heap.size)
    (hb : Below w.heap.size w w1) (ho : InE w1 S M (.int .i64 (most : Int)) v l t w') : HpTo w bs S most (ins t s) w' := by
  obtain ⟨l', g, cap, p1, p2, p3, p4, p5⟩ := ho
  have hsub : ∀ k ∈ S :: M :: v.ownBlock.toList, k ∈ bs := fun k hk => by
    rcases List.mem_cons.1 hk with rfl | hk
    · exact hS
    · rcases List.mem_cons.1 hk with rfl | hk
      · exact hM
      · exact hv k (by simpa using hk)
  refine ⟨g :: bs, ⟨M, _, l', p3, p2, ?_, ins_so hs fun a ha => isin_false.1 hi a ha, by rw [ins_length]; omega, h5, by simp [hS], by simp [hM], fun g' hg => by simp [Value.ownBlock] at hg; simp [hg], fun k hk => ?_⟩, (Mut.of_below hb).trans (p4.wider hsub), fun k hk => ?_⟩
  · exact p1.trans (List.perm_append_comm.trans ((List.Perm.cons t h2).trans (ins_perm t s).symm))
  · rcases List.mem_cons.1 hk with rfl | hk
    · exact (p3.row.lt _ rfl).2
    · exact Nat.lt_of_lt_of_le (hkk k hk) p4.size
  · rcases List.mem_cons.1 hk with rfl | hk
    · rcases p5 with h | h
      · exact .inl (hv _ h)
      · exact .inr (Nat.le_trans hb.size h)
    · exact .inl hk

set_option maxRecDepth 100000 in
set_option maxHeartbeats 1000000 in
theorem hpush_ok {bs : List Nat} {S most : Nat} {s : List Tm} (t : Tm) (w : World) (h : Hp w bs S most s) (ht : In64 t) (hi : isin t.2 s = false) (hf : s.length < most) :
    Calls Try.prog 48 #[.pointer (some ⟨S, 0, none⟩), .agg #[.int .i64 t.1, .int .i64 t.2]] w fun e w' => e = .returned (.int .u16 0) ∧ HpTo w bs S most (ins t s) w' := by
  have hB : Below w.heap.size w (w.alloc (.cells #[.int .i64 t.1, .int .i64 t.2] 89)) := box_below _
  have hh := h.later hB
  have hL := fun q q2 => hlen_any _ ((hh.drewN q).drewN q2)
  have hM := fun q q2 => ((hh.drewN q).drewN q2).most_cell
  obtain ⟨M, v, l, h1, h2, h3, h4, h5, h6, h7, h8, h9, h10⟩ := hh
  obtain ⟨c, hc, _⟩ := look_at h1.map t.2 ht.2.1 ht.2.2
  rw [isin_perm h3, hi] at hc
  have hP : ∀ W, Mut [] (w.alloc (.cells #[.int .i64 t.1, .int .i64 t.2] 89)) W → Calls Try.prog 51 #[.iface 126 (.pointer (some ⟨S, 1, none⟩)), .iface 123 (.agg #[.int .i64 t.1, .int .i64 t.2])] W fun e w' => e = .returned (.tuple #[]) ∧ HpTo w bs S most (ins t s) w' := fun W hW =>
    (cpush_any t W (h1.mut hW (by simp) (by simp) (by simp)) h2 ht (by rw [isin_perm h3]; exact hi) (by rw [h3.length_eq]; omega)).mono fun e w' ⟨x1, x2⟩ => ⟨x1, push_to h3 h4 hf h6 hi h7 h8 h9 (fun k hk => Nat.lt_of_lt_of_le (h10 k hk) hW.size) (hB.trans (hW.below (B := w.heap.size) (by simp) (by simp))) x2⟩
  have s2 := h1.own.cell 2 rfl
  have k1 := (blk_new w #[.int .i64 t.1, .int .i64 t.2] 89).cell 0 rfl
  have k2 := (blk_new w #[.int .i64 t.1, .int .i64 t.2] 89).cell 1 rfl
  obtain ⟨a, b⟩ := t
  obtain ⟨n, hn⟩ : ∃ n, s.length = n := ⟨_, rfl⟩
  rw [hn] at hL hf
  simp only at k1 k2 hc hL hM hP
  have h65 := h6.2
  clear h h1 h2 h3 h4 h5 h6 h7 h8 h9 h10 ht hi hn
  have HL := Lib.hid hL
  have HM := Lib.hid hM
  have HP := Lib.hid hP
  clear hB hL hM hP
  simp only at s2 k1 k2 hc HL HM HP
  obtain ⟨n0, hn0⟩ : ∃ n0, w.heap.size = n0 := ⟨_, rfl⟩
  rw [hn0] at k1 k2
  have K := Lib.hid (show (w.alloc (.cells #[.int .i64 a, .int .i64 b] 89)).cell? ⟨n0, 0, none⟩ = some (.int .i64 a) ∧ (w.alloc (.cells #[.int .i64 a, .int .i64 b] 89)).cell? ⟨n0, 1, none⟩ = some (.int .i64 b) from ⟨k1, k2⟩)
  have t1 : decide (n = most) = false := by simp; omega
  have t2 : ((n : Int) == (most : Int)) = false := by simp; omega
  have t3 : decide ((n : Int) = (most : Int)) = false := by simp; omega
  go_enter Try.func48, Try.ntmps48
  go_wp2_with fail
  go_quiet (fail)
  go_wp2_with fail
  have HL2 := Lib.hid (HL.out nq)
  have HM2 := Lib.hid (HM.out nq)
  have K2 : Hid (((w.alloc (.cells #[.int .i64 a, .int .i64 b] 89)).drewN nq).cell? ⟨n0, 0, none⟩ = some (.int .i64 a) ∧ ((w.alloc (.cells #[.int .i64 a, .int .i64 b] 89)).drewN nq).cell? ⟨n0, 1, none⟩ = some (.int .i64 b)) := Lib.hid K.out
  have HP2 : Hid (∀ W, Mut [] ((w.alloc (.cells #[.int .i64 a, .int .i64 b] 89)).drewN nq) W → Calls Try.prog 51 #[.iface 126 (.pointer (some ⟨S, 1, none⟩)), .iface 123 (.agg #[.int .i64 a, .int .i64 b])] W fun e w' => e = .returned (.tuple #[]) ∧ HpTo w bs S most (ins (a, b) s) w') := Lib.hid fun W hW => HP.out W (Mut.trans (b := (w.alloc (.cells #[.int .i64 a, .int .i64 b] 89)).drewN nq) ⟨rfl, rfl, rfl, Nat.le_refl _, fun _ _ _ => rfl⟩ hW)
  clear HL HM HP K hc s2 k1 k2 hn0
  generalize (w.alloc (.cells #[.int .i64 a, .int .i64 b] 89)).drewN nq = w2 at HP2 HL2 HM2 K2 ⊢
  have m0 : w2.cell? ⟨S, 0, none⟩ = some (.int .i64 (most : Int)) := HM2.out 0
  go_quiet ((go_at_call 47; exact quiet_left (HL2.out _)))
  go_wp2_with fail
  have K3 : Hid ((w2.drewN nq).cell? ⟨n0, 0, none⟩ = some (.int .i64 a) ∧ (w2.drewN nq).cell? ⟨n0, 1, none⟩ = some (.int .i64 b)) := Lib.hid K2.out
  have HP3 : Hid (∀ W, Mut [] (w2.drewN nq) W → Calls Try.prog 51 #[.iface 126 (.pointer (some ⟨S, 1, none⟩)), .iface 123 (.agg #[.int .i64 a, .int .i64 b])] W fun e w' => e = .returned (.tuple #[]) ∧ HpTo w bs S most (ins (a, b) s) w') := Lib.hid fun W hW => HP2.out W (Mut.trans (b := w2.drewN nq) ⟨rfl, rfl, rfl, Nat.le_refl _, fun _ _ _ => rfl⟩ hW)
  clear K2 HP2 m0 HM2 HL2
  generalize w2.drewN nq = w4 at HP3 K3 ⊢
  have k1 := K3.out.1
  have k2 := K3.out.2
  go_still_tail 7, (by kernel_rfl)
  change wpList _ _ _ _ _ w4.drew
  go_wp2_with fail
  refine (HP3.out _ ?_).mono ?_
  · exact ⟨rfl, rfl, rfl, Nat.le_refl _, fun _ _ _ => rfl⟩
  · rintro e w3 ⟨rfl, hp⟩
    have HX := Lib.hid hp
    clear hp
    go_wp2_with fail
    go_ret
    exact ⟨rfl, HX.out⟩

def OutTo (w : World) (bs : List Nat) (S most : Nat) (s : List Tm) (t : Tm) (w' : World) : Prop := HpTo w bs S most (del t.2 s) w'
theorem out_to {w w1 w' : World} {bs : List Nat} {S most M B cap : Nat} {s l : List Tm} {t : Tm} (h2 : l.Perm s) (hs : So s) (hn : Nn s) (hle : s.length ≤ most) (h5 : 1 ≤ most ∧ most ≤ 5000) (hS : S ∈ bs) (hM : M ∈ bs) (hB : B ∈ bs) (hkk : ∀ k ∈ bs, k < w1.heap.size)
    (hb : Below w.heap.size w w1) (ho : Out w1 S M B cap (.int .i64 (most : Int)) l t w') : HpTo w bs S most (del t.2 s) w' := by
  obtain ⟨l', p1, p2, p3, p4⟩ := ho
  have hp := del_perm (p1.trans h2) hn
  refine ⟨bs, ⟨M, _, l', p3, p2, hp, del_so hs, ?_, h5, hS, hM, fun g hg => by simp [Value.ownBlock] at hg; rw [← hg]; exact hB, fun k hk => Nat.lt_of_lt_of_le (hkk k hk) p4.size⟩, (Mut.of_below hb).trans (p4.wider fun k hk => ?_), Ext.refl _ _⟩
  · have : (del t.2 s).length ≤ s.length := List.length_filter_le _ _
    omega
  · rcases List.mem_cons.1 hk with rfl | hk
    · exact hS
    · rcases List.mem_cons.1 hk with rfl | hk
      · exact hB
      · rw [List.mem_singleton.1 hk]; exact hM

set_option maxRecDepth 100000 in
set_option maxHeartbeats 1000000 in
theorem hpop_no {bs : List Nat} {S most : Nat} (w : World) (h : Hp w bs S most []) :
    Calls Try.prog 42 #[.pointer (some ⟨S, 0, none⟩)] w fun e w' => e = .returned (.tuple #[.agg #[.int .i64 0, .int .i64 0], .bool false]) ∧ Below w.heap.size w w' := by
  have hB : Below w.heap.size w (w.alloc (.cells #[.int .i64 0, .int .i64 0] 89)) := box_below _
  have hL := hlen_any _ (h.later hB)
  have k1 := (blk_new w #[.int .i64 0, .int .i64 0] 89).cell 0 rfl
  have k2 := (blk_new w #[.int .i64 0, .int .i64 0] 89).cell 1 rfl
  have HB := Lib.hid hB
  have HL := Lib.hid hL
  have K1 := Lib.hid k1
  have K2 := Lib.hid k2
  clear hB hL k1 k2 h
  go_enter Try.func42, Try.ntmps42
  go_wp2_with fail
  refine HL.out.mono ?_
  rintro e w' ⟨rfl, rfl⟩
  go_wp2_with fail
  have q1 := K1.out
  have q2 := K2.out
  exact bodyPost_ret (v := .tuple #[.agg #[.int .i64 0, .int .i64 0], .bool false]) (by simp [results, Try.results42, go_sem, q1, q2]) rfl ⟨rfl, HB.out⟩

def PopEnd (w : World) (bs : List Nat) (S most : Nat) (r : List Tm) (a b : Int) (w2 : World) : Prop :=
  w2.cell? ⟨w.heap.size, 0, none⟩ = some (.int .i64 0) ∧ w2.cell? ⟨w.heap.size, 1, none⟩ = some (.int .i64 0) ∧ w2.frozen? ⟨w.heap.size, 0, none⟩ = false ∧ w2.frozen? ⟨w.heap.size, 1, none⟩ = false ∧
  w.heap.size < w2.heap.size ∧
  (((w2.setCell ⟨w.heap.size, 0, none⟩ (.int .i64 a)).setCell ⟨w.heap.size, 1, none⟩ (.int .i64 b)).alloc (.cells #[.int .i64 a, .int .i64 b] 123)).cell? ⟨w.heap.size, 0, none⟩ = some (.int .i64 a) ∧
  (((w2.setCell ⟨w.heap.size, 0, none⟩ (.int .i64 a)).setCell ⟨w.heap.size, 1, none⟩ (.int .i64 b)).alloc (.cells #[.int .i64 a, .int .i64 b] 123)).cell? ⟨w.heap.size, 1, none⟩ = some (.int .i64 b) ∧
  HpTo w bs S most r (((w2.setCell ⟨w.heap.size, 0, none⟩ (.int .i64 a)).setCell ⟨w.heap.size, 1, none⟩ (.int .i64 b)).alloc (.cells #[.int .i64 a, .int .i64 b] 123))
theorem pop_end {w : World} {bs : List Nat} {S most : Nat} {r : List Tm} {a b : Int} (w2 : World) (hbs : ∀ k ∈ bs, k < w.heap.size) (h : HpTo (w.alloc (.cells #[.int .i64 0, .int .i64 0] 89)) bs S most r w2) : PopEnd w bs S most r a b w2 := by
  obtain ⟨bs', h1, h2, h3⟩ := h
  have hs := h2.size
  rw [World.size_alloc] at hs
  have hnb : w.heap.size ∉ bs := fun hm => by have := hbs _ hm; omega
  have hb2 : Blk w2 w.heap.size #[.int .i64 0, .int .i64 0] 89 := (blk_new w _ _).mut h2 hnb
  have hb3 := ((hb2.set 0 (.int .i64 a)).set 1 (.int .i64 b)).later (box_below (.cells #[.int .i64 a, .int .i64 b] 123))
  have hm : Mut [w.heap.size] w2 (((w2.setCell ⟨w.heap.size, 0, none⟩ (.int .i64 a)).setCell ⟨w.heap.size, 1, none⟩ (.int .i64 b)).alloc (.cells #[.int .i64 a, .int .i64 b] 123)) :=
    (((Mut.refl _ w2).setCell (by simp) _).setCell (by simp) _).trans (Mut.of_below (box_below _))
  refine ⟨hb2.cell 0 rfl, hb2.cell 1 rfl, hb2.free 0, hb2.free 1, by omega, hb3.cell 0 rfl, hb3.cell 1 rfl, bs', h1.mut hm fun k hk hc => ?_, ((Mut.of_below (box_below _)).trans h2).onto hm fun k hk => .inr (by rw [List.mem_singleton.1 hk]; exact Nat.le_refl _), fun k hk => ?_⟩
  · rw [List.mem_singleton.1 hc] at hk
    rcases h3 _ hk with h | h
    · exact hnb h
    · rw [World.size_alloc] at h; omega
  · rcases h3 k hk with h | h
    · exact .inl h
    · rw [World.size_alloc] at h; exact .inr (by omega)

set_option maxRecDepth 100000 in
set_option maxHeartbeats 1000000 in
theorem hpop_any {bs : List Nat} {S most : Nat} {t : Tm} {r : List Tm} (w : World) (h : Hp w bs S most (t :: r)) :
    Calls Try.prog 42 #[.pointer (some ⟨S, 0, none⟩)] w fun e w' => e = .returned (.tuple #[.agg #[.int .i64 t.1, .int .i64 t.2], .bool true]) ∧ HpTo w bs S most r w' := by
  have hB : Below w.heap.size w (w.alloc (.cells #[.int .i64 0, .int .i64 0] 89)) := box_below _
  have hh := h.later hB
  have hso := h.so
  have hL := hlen_any _ hh
  obtain ⟨M, v, l, h1, h2, h3, h4, h5, h6, h7, h8, h9, h10⟩ := hh
  have h0 := first_of h2 h3 h4
  have hl := h3.length_eq
  simp only [List.length_cons] at hl hL
  obtain ⟨n, hn⟩ : ∃ n, r.length = n := ⟨_, rfl⟩
  rw [hn] at hl hL
  obtain ⟨B, cap, rfl, c1, c2, c3⟩ := h1.slice (by omega)
  rw [hl] at h1 h2
  have hR : Calls Try.prog 49 #[.iface 126 (.pointer (some ⟨S, 1, none⟩))] (w.alloc (.cells #[.int .i64 0, .int .i64 0] 89)) fun e w' => e = .returned (.iface 123 (.agg #[.int .i64 t.1, .int .i64 t.2])) ∧ HpTo (w.alloc (.cells #[.int .i64 0, .int .i64 0] 89)) bs S most r w' :=
    (cpop_any _ h1 h2).mono fun e w' ⟨x1, x2⟩ => ⟨by rw [x1, h0], by
      have := out_to h3 h4 hso.2.1 h5 h6 h7 h8 (h9 B rfl) h10 (Below.refl _ _) x2
      rwa [h0, del_first hso.2.1] at this⟩
  have hm := h1.most
  rw [hl] at hm
  have hn0b : ∀ k ∈ bs, k < w.heap.size := h.lt
  obtain ⟨a, b⟩ := t
  simp only at hR
  have hend : ∀ w2, HpTo (w.alloc (.cells #[.int .i64 0, .int .i64 0] 89)) bs S most r w2 → PopEnd w bs S most r a b w2 := fun w2 hp => pop_end w2 hn0b hp
  have HE := Lib.hid hend
  have HL := Lib.hid hL
  have HR := Lib.hid hR
  have has := as_tm
  clear hL h1 h2 h3 h4 h5 h6 h7 h8 h9 h10 h0 hl hn hso hR hn0b hB h c1 c2 c3 hend
  go_enter Try.func42, Try.ntmps42
  go_wp2_with fail
  refine HL.out.mono ?_
  rintro e w' ⟨rfl, rfl⟩
  go_wp2_with fail
  refine HR.out.mono ?_
  rintro e w2 ⟨rfl, hp⟩
  have HX := Lib.hid (HE.out _ hp)
  clear hp
  have x1 := HX.out.1
  have x2 := HX.out.2.1
  have x3 := HX.out.2.2.1
  have x4 := HX.out.2.2.2.1
  have x5 := HX.out.2.2.2.2.1
  have x6 := HX.out.2.2.2.2.2.1
  have x7 := HX.out.2.2.2.2.2.2.1
  have x8 := HX.out.2.2.2.2.2.2.2
  obtain ⟨n0, hn0⟩ : ∃ n0, w.heap.size = n0 := ⟨_, rfl⟩
  obtain ⟨n2, hn2⟩ : ∃ n2, w2.heap.size = n2 := ⟨_, rfl⟩
  rw [hn0] at x1 x2 x3 x4 x5 x6 x7 x8
  rw [hn2] at x5
  have X6 := Lib.hid x6
  have X7 := Lib.hid x7
  have X8 := Lib.hid x8
  clear x6 x7 x8 HX
  rw [hn0]
  have k1 : (w2.alloc (.cells #[.int .i64 a, .int .i64 b] 123)).cell? ⟨n2, 0, none⟩ = some (.int .i64 a) := by rw [← hn2]; exact (blk_new w2 _ _).cell 0 rfl
  have k2 : (w2.alloc (.cells #[.int .i64 a, .int .i64 b] 123)).cell? ⟨n2, 1, none⟩ = some (.int .i64 b) := by rw [← hn2]; exact (blk_new w2 _ _).cell 1 rfl
  go_wp2_with fail
  have q1 := X6.out
  have q2 := X7.out
  exact bodyPost_ret (v := .tuple #[.agg #[.int .i64 a, .int .i64 b], .bool true]) (by simp [results, Try.results42, go_sem, q1, q2]) rfl ⟨rfl, X8.out⟩
end Go.Proofs.Ythpcnnkdpgjiiaa
