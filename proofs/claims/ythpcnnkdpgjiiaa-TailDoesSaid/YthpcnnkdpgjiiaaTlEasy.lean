/-
  What a buffer's easy calls do: reach, Len, traceOf, within, Known, Next.
-/
import Derived.Handy
import Derived.Test.YthpcnnkdpgjiiaaTl0
namespace Go.Proofs.Ythpcnnkdpgjiiaa
open Go.RowKit Go.Maps Go.Proofs.HeapMath Go.Proofs.TailMath

/-- Another block, all else as it was. -/
theorem Bf.rest {W W' : World} {S T N M H : Nat} {v : Value} {hbs : List Nat} {G : List Ge} {b b' : St} {s : List Tm} (h : Bf W S T N M H v hbs G b s) {cs : List Nat} (hb : Mut cs W W') (hc : ∀ k ∈ core S T N M v G, k ≠ S → k ∉ cs) (hh : ∀ k ∈ hbs, k ∉ cs)
    (hblk : Blk W' S (bfC b' T N M H v) 79) (e1 : b'.K = b.K) (e2 : b'.L = b.L) (e3 : b'.sp = b.sp) : Bf W' S T N M H v hbs G b' s := by
  have hnd := h.nd
  have n0 : ∀ k, k ∈ T :: N :: M :: (v.ownBlock.toList ++ G.flatMap Ge.own) → k ∉ cs := fun k hk => hc k (by unfold core; exact List.mem_cons_of_mem _ hk) (fun e => by
    unfold core at hnd
    exact (List.nodup_cons.1 hnd).1 (e ▸ hk))
  refine ⟨hblk, ?_, ?_, ?_, ?_, h.grps.same (hb.block _ h.grps.lt (n0 M (by simp))), fun x hx => (h.each x hx).mut hb fun k hk => n0 k ?_, by rw [e2]; exact h.gl, h.nd, h.hnd⟩
  · rw [e1]; exact h.told.same (hb.block _ h.told.lt (n0 T (by simp)))
  · rw [e1]; exact h.row.mut hb fun g hg => n0 g (by simp [hg])
  · rw [e3]; exact h.heap.mut hb hh
  · rw [e2]; exact h.nums.same (hb.block _ h.nums.lt (n0 N (by simp)))
  · simp only [List.mem_cons, List.mem_append, List.mem_flatMap]
    exact .inr (.inr (.inr (.inr ⟨x, hx, hk⟩)))
theorem Bf.apartS {W : World} {S T N M H : Nat} {v : Value} {hbs : List Nat} {G : List Ge} {b : St} {s : List Tm} (h : Bf W S T N M H v hbs G b s) : S ∉ hbs := h.hnd S (by simp [core])
theorem Bf.setTime {W : World} {S T N M H : Nat} {v : Value} {hbs : List Nat} {G : List Ge} {b : St} {s : List Tm} (h : Bf W S T N M H v hbs G b s) (t : Nat) : Bf (W.setCell ⟨S, 10, none⟩ (.int .i64 (t : Int))) S T N M H v hbs G (at_ b t) s :=
  h.rest (cs := [S]) ((Mut.refl [S] W).setCell (by simp) _) (fun k _ hk => by simpa using hk) (fun k hk e => h.apartS (by rw [← List.mem_singleton.1 e]; exact hk)) (h.blk.set 10 _) rfl rfl rfl

set_option maxRecDepth 100000 in
set_option maxHeartbeats 1000000 in
theorem within_any (a m : Int) (w : World) : Calls Try.prog 24 #[.int .i64 a, .int .i64 m] w fun e w' => e = .returned (.bool (decide (1 ≤ a ∧ a ≤ m))) ∧ w = w' := by
  by_cases h1 : 1 ≤ a
  · by_cases h2 : a ≤ m
    · rw [show decide (1 ≤ a ∧ a ≤ m) = true by simp [h1, h2]]
      have t1 : decide ((1 : Int) ≤ a) = true := by simpa using h1
      have t2 : decide (a ≤ m) = true := by simpa using h2
      go_enter Try.func24, Try.ntmps24
      go_wp2_with fail
      go_ret
      exact ⟨rfl, rfl⟩
    · rw [show decide (1 ≤ a ∧ a ≤ m) = false by simp [h1, h2]]
      have t1 : decide ((1 : Int) ≤ a) = true := by simpa using h1
      have t2 : decide (a ≤ m) = false := by simpa using h2
      go_enter Try.func24, Try.ntmps24
      go_wp2_with fail
      go_ret
      exact ⟨rfl, rfl⟩
  · rw [show decide (1 ≤ a ∧ a ≤ m) = false by simp [h1]]
    have t1 : decide ((1 : Int) ≤ a) = false := by simpa using h1
    go_enter Try.func24, Try.ntmps24
    go_wp2_with fail
    go_ret
    exact ⟨rfl, rfl⟩

set_option maxRecDepth 100000 in
set_option maxHeartbeats 1000000 in
theorem traceOf_any (s : Sp) (w : World) : Calls Try.prog 27 #[spV s] w fun e w' => e = .returned (.agg #[.int .u64 (s.hi : Int), .int .u64 (s.lo : Int)]) ∧ Below w.heap.size w w' := by
  obtain ⟨n0, hn0⟩ : ∃ n0, w.heap.size = n0 := ⟨_, rfl⟩
  have hB : Below n0 w ((w.alloc (.cells (spA s) 35)).alloc (.cells #[.int .u64 (s.hi : Int), .int .u64 (s.lo : Int)] 83)) := hn0 ▸ (box_below _).alloc (by simp) _
  have k1 := (blk_new (w.alloc (.cells (spA s) 35)) #[.int .u64 (s.hi : Int), .int .u64 (s.lo : Int)] 83).cell 0 rfl
  have k2 := (blk_new (w.alloc (.cells (spA s) 35)) #[.int .u64 (s.hi : Int), .int .u64 (s.lo : Int)] 83).cell 1 rfl
  rw [World.size_alloc, hn0] at k1 k2
  rw [hn0]
  obtain ⟨hi, lo, id, parent, name, start, stop, bad, rv⟩ := s
  unfold spV
  unfold spA at hB k1 k2
  dsimp only at hB k1 k2 ⊢
  have HB := Lib.hid hB
  have K1 := Lib.hid k1
  have K2 := Lib.hid k2
  clear hB k1 k2
  go_enter Try.func27, Try.ntmps27
  go_wp2_with fail
  have q1 := K1.out
  have q2 := K2.out
  exact bodyPost_ret (v := .agg #[.int .u64 (hi : Int), .int .u64 (lo : Int)]) (by simp [results, Try.results27, go_sem, q1, q2]) rfl ⟨rfl, HB.out⟩

set_option maxRecDepth 100000 in
set_option maxHeartbeats 1000000 in
theorem tlen_any {bs : List Nat} {S : Nat} {b : St} (w : World) (h : Tb w bs S b) : Calls Try.prog 15 #[.pointer (some ⟨S, 0, none⟩)] w fun e w' => e = .returned (.int .i64 (tot b.L : Int)) ∧ w = w' := by
  obtain ⟨T, N, M, H, v, hbs, G, h1, _, _⟩ := h
  have c5 : w.cell? ⟨S, 5, none⟩ = some (.int .i64 (tot b.L : Int)) := h1.blk.cell 5 rfl
  clear h1
  go_enter Try.func15, Try.ntmps15
  go_wp2_with fail
  go_ret
  exact ⟨rfl, rfl⟩

set_option maxRecDepth 100000 in
set_option maxHeartbeats 1000000 in
theorem reach_no {S T N M H : Nat} {v : Value} {hbs : List Nat} {G : List Ge} {b : St} {s : List Tm} {now : Int} (w : World) (h : Bf w S T N M H v hbs G b s) (ht : okT b now = false) : Calls Try.prog 26 #[.pointer (some ⟨S, 0, none⟩), .int .i64 now] w fun e w' => e = .returned (.int .u16 60) ∧ w = w' := by
  have c : w.cell? ⟨S, 10, none⟩ = some (.int .i64 (b.time : Int)) := h.blk.cell 10 rfl
  have h2 : now < (b.time : Int) ∨ 1099511627776 < now := by simp [okT] at ht; omega
  obtain ⟨t, htt⟩ : ∃ t, b.time = t := ⟨_, rfl⟩
  rw [htt] at c h2
  clear h ht htt
  by_cases h3 : now < (t : Int)
  · have t1 : decide (now < (t : Int)) = true := by simpa using h3
    clear h2 h3
    go_enter Try.func26, Try.ntmps26
    go_wp2_with fail
    go_ret
    exact ⟨rfl, rfl⟩
  · have t1 : decide (now < (t : Int)) = false := by simpa using h3
    have t2 : decide ((1099511627776 : Int) < now) = true := by simp; omega
    clear h2
    go_enter Try.func26, Try.ntmps26
    go_wp2_with fail
    go_ret
    exact ⟨rfl, rfl⟩

set_option maxRecDepth 100000 in
set_option maxHeartbeats 1000000 in
theorem reach_ok {S T N M H : Nat} {v : Value} {hbs : List Nat} {G : List Ge} {b : St} {s : List Tm} (t : Nat) (w : World) (h : Bf w S T N M H v hbs G b s) (h1 : b.time ≤ t) (h2 : t ≤ 1099511627776) : Calls Try.prog 26 #[.pointer (some ⟨S, 0, none⟩), .int .i64 (t : Int)] w fun e w' => e = .returned (.int .u16 0) ∧ Bf w' S T N M H v hbs G (at_ b t) s ∧ Mut [S] w w' := by
  have c : w.cell? ⟨S, 10, none⟩ = some (.int .i64 (b.time : Int)) := h.blk.cell 10 rfl
  have f := h.blk.free 10
  have HX := Lib.hid (show Bf (w.setCell ⟨S, 10, none⟩ (.int .i64 (t : Int))) S T N M H v hbs G (at_ b t) s ∧ Mut [S] w (w.setCell ⟨S, 10, none⟩ (.int .i64 (t : Int))) from ⟨h.setTime t, (Mut.refl [S] w).setCell (by simp) _⟩)
  obtain ⟨t0, htt⟩ : ∃ t, b.time = t := ⟨_, rfl⟩
  rw [htt] at c h1
  have t1 : decide ((t : Int) < (t0 : Int)) = false := by simp; omega
  have t1n : decide (t < t0) = false := by simp; omega
  have t2 : decide ((1099511627776 : Int) < (t : Int)) = false := by simp; omega
  clear h htt
  go_enter Try.func26, Try.ntmps26
  go_wp2_with fail
  go_ret
  exact ⟨rfl, HX.out⟩

theorem zero_u8 (w : World) : (zeroValue 5).run Try.prog w = .ok (.int .u8 0) w := by kernel_rfl
theorem told_look {W : World} {T : Nat} {K : List Kn} {most : Nat} (h : Am W 83 (plainElem Try.prog 5) T (kE K)) (hK : Kv most K) {hi lo : Nat} (h1 : u64 hi) (h2 : u64 lo) (q : Nat) :
    (Instr.lookup 68 (.map (some T)) (.agg #[.int .u64 (hi : Int), .int .u64 (lo : Int)]) true).run Try.prog (W.drewN q) = .ok (.tuple #[.int .u8 (((askK hi lo K).map (·.ay)).getD 0 : Nat), .bool (askK hi lo K).isSome]) (W.drewN q) := by
  have hl := h.look (rd_int Try.underlying5) law_tr Try.underlying68 zero_u8 (plainElem_int (a := 0) Try.underlying5 (by decide)) (key_tr h1 h2) q
  cases e : askK hi lo K with
  | none =>
    refine hl.2 fun p hp he => ?_
    obtain ⟨k, hk, rfl⟩ := List.mem_map.1 hp
    obtain ⟨g1, g2, _⟩ := hK.ok k hk
    exact askK_none e k hk (tk_inj g1 g2 h1 h2 he)
  | some k =>
    obtain ⟨hk, e1, e2⟩ := askK_some e
    exact hl.1 _ (List.mem_map.2 ⟨k, hk, by rw [e1, e2]; rfl⟩)

set_option maxRecDepth 100000 in
set_option maxHeartbeats 1000000 in
theorem kept_any {bs : List Nat} {S : Nat} {b : St} (hi lo : Nat) (w : World) (h : Tb w bs S b) (h1 : u64 hi) (h2 : u64 lo) : Calls Try.prog 23 #[.pointer (some ⟨S, 0, none⟩), .int .u64 (hi : Int), .int .u64 (lo : Int)] w fun e w' => e = .returned (.tuple #[.bool (((askK hi lo b.K).map (·.ay)).getD 0 == 4), .bool (askK hi lo b.K).isSome]) ∧ w = w' := by
  obtain ⟨T, N, M, H, v, hbs, G, hf, hiv, _⟩ := h
  have c1 : w.cell? ⟨S, 1, none⟩ = some (.map (some T)) := hf.blk.cell 1 rfl
  have hl := told_look hf.told hiv.K h1 h2 0
  obtain ⟨a, ha⟩ : ∃ a, ((askK hi lo b.K).map (·.ay)).getD 0 = a := ⟨_, rfl⟩
  obtain ⟨r, hr⟩ : ∃ r, (askK hi lo b.K).isSome = r := ⟨_, rfl⟩
  rw [ha, hr] at hl ⊢
  have hl2 : (Instr.lookup 68 (.map (some T)) (.agg #[.int .u64 (hi : Int), .int .u64 (lo : Int)]) true).run Try.prog w = .ok (.tuple #[.int .u8 (a : Int), .bool r]) w := hl
  have t1 : ((a : Int) == 4) = (a == 4) := by
    by_cases e : a = 4
    · subst e; rfl
    · rw [show (a == 4) = false by simpa using e]; simp; omega
  clear hf hl ha hr hiv h1 h2
  go_enter Try.func23, Try.ntmps23
  go_wp2_with fail
  go_ret2
  exact ⟨rfl, rfl⟩

/-- When the first one is due. -/
def nextOf (L : List Gr) : Nat × Bool := match L with
  | [] => (0, false)
  | g :: _ => (g.due, true)
set_option maxRecDepth 100000 in
set_option maxHeartbeats 1000000 in
theorem next_any {bs : List Nat} {S : Nat} {b : St} (w : World) (h : Tb w bs S b) : Calls Try.prog 18 #[.pointer (some ⟨S, 0, none⟩)] w fun e w' => e = .returned (.tuple #[.int .i64 ((nextOf b.L).1 : Int), .bool (nextOf b.L).2]) ∧ Below w.heap.size w w' := by
  obtain ⟨T, N, M, H, v, hbs, G, hf, hiv, _⟩ := h
  have hB : Below w.heap.size w (w.alloc (.cells #[.int .i64 0, .int .i64 0] 89)) := box_below _
  have c3 : (w.alloc (.cells #[.int .i64 0, .int .i64 0] 89)).cell? ⟨S, 3, none⟩ = some (.pointer (some ⟨H, 0, none⟩)) := (hf.later hB).blk.cell 3 rfl
  have c30 : w.cell? ⟨S, 3, none⟩ = some (.pointer (some ⟨H, 0, none⟩)) := hf.blk.cell 3 rfl
  obtain ⟨n0, hn0⟩ : ∃ n0, w.heap.size = n0 := ⟨_, rfl⟩
  have hF : ∀ W, Below n0 w W → Calls Try.prog 37 #[.pointer (some ⟨H, 0, none⟩)] W fun e w' => ∃ c : Int, e = .returned (.tuple #[.agg #[.int .i64 ((nextOf b.L).1 : Int), .int .i64 c], .bool (nextOf b.L).2]) ∧ Below W.heap.size W w' := fun W hW => by
    have hh : Hp W hbs H b.sp (tms b.L) := hf.heap.later (hn0 ▸ hW)
    cases e : b.L with
    | nil =>
      rw [e] at hh
      exact (hfirst_no W hh).mono fun e w' ⟨x1, x2⟩ => ⟨0, x1, x2⟩
    | cons g l =>
      rw [e] at hh
      exact (hfirst_any W hh).mono fun e w' ⟨x1, x2⟩ => ⟨_, x1, x2⟩
  obtain ⟨⟨a, r⟩, hr⟩ : ∃ x, nextOf b.L = x := ⟨_, rfl⟩
  rw [hr] at hF ⊢
  dsimp only at hF ⊢
  have HF := Lib.hid hF
  have HB := Lib.hid hB
  rw [hn0] at HB ⊢
  clear hf hF hB hr hiv
  go_enter Try.func18, Try.ntmps18
  go_wp2_with fail
  refine (HF.out w (Below.refl _ _)).mono ?_
  rintro e w1 ⟨c, rfl, hb⟩
  rw [hn0] at hb
  have hB1 := hb.trans ((box_below (.cells #[.int .i64 (a : Int), .int .i64 c] 89)).mono (hn0 ▸ hb.size))
  have HB1 := Lib.hid hB1
  clear hb hB1
  go_wp2_with fail
  go_ret2
  exact ⟨rfl, HB1.out⟩
end Go.Proofs.Ythpcnnkdpgjiiaa
