/-
  A decision is told: known, known anew, or with the oldest one known no more.
-/
import Derived.StillTailTactics
import Derived.Deep.DeepCutAuto
import Derived.Test.YthpcnnkdpgjiiaaRegionBut
import Derived.Test.YthpcnnkdpgjiiaaTlEasy
namespace Go.Proofs.Ythpcnnkdpgjiiaa
open Go.RowKit Go.Maps Go.Proofs.HeapMath Go.Proofs.TailMath

/-- Behind the choice: the row without that trace, and with room. -/
structure TeMid (w : World) (S T N M H n0 : Nat) (v : Value) (b : St) (hi lo ay : Nat) (A : Option Addr) (n cap : Nat) (K2 : List Kn) (E : List (Lit × Value)) (wx : World) : Prop where
  len : K2.length = n
  five : n < 5000
  cap_ : n ≤ cap ∧ cap ≤ maxLen
  blk : Blk wx S (bfC b T N M H (.slice A n cap)) 79
  row : Qu wx (.slice A n cap) (kT K2)
  told : Am wx 83 (plainElem Try.prog 5) T E
  but : But (tk hi lo) E (kE K2)
  dec_ : dec b.most hi lo ay b.K = K2 ++ [⟨hi, lo, ay⟩]
  mut_ : Mut (S :: T :: v.ownBlock.toList) w wx
  own : ∀ g, (Value.slice A n cap).ownBlock = some g → v.ownBlock = some g
  box : Blk wx n0 #[.int .u64 (hi : Int), .int .u64 (lo : Int)] 83
theorem kT_length (K : List Kn) : (kT K).length = K.length := by simp [kT]
theorem kE_but_known {hi lo as0 : Nat} {a b : List Kn} : But (tk hi lo) (kE (a ++ ⟨hi, lo, as0⟩ :: b)) (kE (a ++ b)) := .inr ⟨kE a, kE b, .int .u8 (as0 : Int), by simp [kE], by simp [kE]⟩
theorem kE_but_new {hi lo most : Nat} {K : List Kn} (hK : Kv most K) (h1 : u64 hi) (h2 : u64 lo) (h : ∀ k ∈ K, ¬ (k.hi = hi ∧ k.lo = lo)) : But (tk hi lo) (kE K) (kE K) := .inl ⟨rfl, fun p hp e => by
  obtain ⟨k, hk, rfl⟩ := List.mem_map.1 hp
  obtain ⟨g1, g2, _⟩ := hK.ok k hk
  exact h k hk (tk_inj g1 g2 h1 h2 e)⟩
theorem askK_split {hi lo : Nat} {K : List Kn} {k : Kn} (h : askK hi lo K = some k) : ∃ a b, K = a ++ ⟨hi, lo, k.ay⟩ :: b := by
  obtain ⟨h1, h2, h3⟩ := askK_some h
  obtain ⟨a, b, e⟩ := List.append_of_mem h1
  exact ⟨a, b, by rw [e, ← h2, ← h3]⟩

theorem Bf.neS {W : World} {S T N M H : Nat} {v : Value} {hbs : List Nat} {G : List Ge} {b : St} {s : List Tm} (h : Bf W S T N M H v hbs G b s) : S ≠ T ∧ (∀ g, v.ownBlock = some g → g ≠ S ∧ g ≠ T) := by
  have hnd := h.nd
  simp only [core, List.nodup_cons, List.mem_cons, List.mem_append, not_or] at hnd
  refine ⟨hnd.1.1, fun g hg => ⟨fun e => ?_, fun e => ?_⟩⟩
  · exact hnd.1.2.2.2.1 (by rw [← e]; simpa using hg)
  · exact hnd.2.1.2.2.1 (by rw [← e]; simpa using hg)
theorem core_nd {S T N M : Nat} {v v' : Value} {G : List Ge} (h : (core S T N M v G).Nodup) (hv : ∀ g, v'.ownBlock = some g → v.ownBlock = some g ∨ ∀ k ∈ core S T N M v G, k ≠ g) : (core S T N M v' G).Nodup := by
  cases e : v'.ownBlock with
  | none =>
    refine h.sublist ?_
    unfold core
    rw [e]
    exact ((((List.sublist_append_right _ _).cons_cons M).cons_cons N).cons_cons T).cons_cons S
  | some g =>
    rcases hv g e with h1 | h1
    · unfold core at *
      rw [e, ← h1]
      exact h
    · have hg : ∀ k, k ∈ core S T N M (.slice none 0 0) G → k ≠ g := fun k hk => h1 k (by
        simp only [core, Value.ownBlock, Option.toList_none, List.nil_append, List.mem_cons, List.mem_append] at hk ⊢
        rcases hk with e | e | e | e | e
        · exact .inl e
        · exact .inr (.inl e)
        · exact .inr (.inr (.inl e))
        · exact .inr (.inr (.inr (.inl e)))
        · exact .inr (.inr (.inr (.inr (.inr e)))))
      have h2 : (core S T N M (.slice none 0 0) G).Nodup := h.sublist (by
        unfold core
        exact ((((List.sublist_append_right _ _).cons_cons M).cons_cons N).cons_cons T).cons_cons S)
      have h3 : (g :: core S T N M (.slice none 0 0) G).Nodup := List.nodup_cons.2 ⟨fun hm => hg g hm rfl, h2⟩
      refine (List.Perm.nodup_iff ?_).1 h3
      unfold core
      rw [e]
      simp only [Value.ownBlock, Option.toList_none, Option.toList_some, List.nil_append, List.cons_append]
      exact (List.Perm.swap S g _).trans (((List.Perm.swap T g _).trans (((List.Perm.swap N g _).trans ((List.Perm.swap M g _).cons N)).cons T)).cons S)
theorem te_fin {w W : World} {S T N M H hi lo ay : Nat} {v v' : Value} {hbs : List Nat} {G : List Ge} {b : St} {s : List Tm} {K2 : List Kn} (h : Bf w S T N M H v hbs G b s) (hm : Mut (S :: T :: v.ownBlock.toList) w W) (hblk : Blk W S (bfC b T N M H v') 79)
    (hrow : Qu W v' (kT (K2 ++ [⟨hi, lo, ay⟩]))) (htold : Am W 83 (plainElem Try.prog 5) T (kE K2 ++ [(tk hi lo, .int .u8 (ay : Int))])) (hdec : dec b.most hi lo ay b.K = K2 ++ [⟨hi, lo, ay⟩]) (hown : ∀ g, v'.ownBlock = some g → v.ownBlock = some g ∨ w.heap.size ≤ g) :
    Bf W S T N M H v' hbs G (decided b hi lo ay) s := by
  have hnd := h.nd
  have hlt := h.lt
  have hhlt := h.heap.lt
  have ndx := hnd
  have oth : ∀ k, (k = N ∨ k = M ∨ k ∈ G.flatMap Ge.own) → k ∉ S :: T :: v.ownBlock.toList := fun k hk => by
    simp only [core, List.nodup_cons, List.mem_cons, List.mem_append, not_or] at ndx
    obtain ⟨⟨s1, s2, s3, s4, s5⟩, ⟨t2, t3, t4, t5⟩, ⟨n3, n4, n5⟩, ⟨m4, m5⟩, n6⟩ := ndx
    simp only [List.mem_cons, not_or]
    rcases hk with rfl | rfl | hk
    · exact ⟨fun e => s2 e.symm, fun e => t2 e.symm, n4⟩
    · exact ⟨fun e => s3 e.symm, fun e => t3 e.symm, m4⟩
    · exact ⟨fun e => s5 (e ▸ hk), fun e => t5 (e ▸ hk), fun e => (List.nodup_append.1 n6).2.2 k e k hk rfl⟩
  have hN := oth N (.inl rfl)
  have hM := oth M (.inr (.inl rfl))
  refine ⟨hblk, ?_, ?_, h.heap.mut hm fun k hk hc => ?_, h.nums.same (hm.block _ h.nums.lt hN), h.grps.same (hm.block _ h.grps.lt hM), fun x hx => (h.each x hx).mut hm fun k hk => oth k (.inr (.inr (List.mem_flatMap.2 ⟨x, hx, hk⟩))), h.gl, ?_, ?_⟩
  · show Am W _ _ T (kE (dec b.most hi lo ay b.K))
    rw [hdec]
    simpa [kE] using htold
  · show Qu W v' (kT (dec b.most hi lo ay b.K))
    rw [hdec]
    exact hrow
  · refine h.hnd k ?_ hk
    simp only [core, List.mem_cons, List.mem_append] at hc ⊢
    rcases hc with e | e | e
    · exact .inl e
    · exact .inr (.inl e)
    · exact .inr (.inr (.inr (.inr (.inl e))))
  · exact core_nd hnd fun g hg => (hown g hg).imp id fun hge k hk e => by have := hlt k hk; omega
  · intro k hk hm2
    have hk2 : k ∈ core S T N M v G ∨ w.heap.size ≤ k := by
      simp only [core, List.mem_cons, List.mem_append] at hk ⊢
      rcases hk with e | e | e | e | e | e
      · exact .inl (.inl e)
      · exact .inl (.inr (.inl e))
      · exact .inl (.inr (.inr (.inl e)))
      · exact .inl (.inr (.inr (.inr (.inl e))))
      · rcases hown k (by simpa using e) with e2 | e2
        · exact .inl (.inr (.inr (.inr (.inr (.inl (by simpa using e2))))))
        · exact .inr e2
      · exact .inl (.inr (.inr (.inr (.inr (.inr e)))))
    rcases hk2 with e | e
    · exact h.hnd k e hm2
    · have := hhlt k hm2; omega
theorem step_push_q {ops : Array Oper} {o : Oper} {a : Act} {w : World} {K : Act → World → Prop} {Q : Exit → Act → World → Prop} {X : Prop} (hgd : o.guard = none) (s x : Operand)
    (ho : o.op = .call { callee := .builtin .append, args := #[s, x], argTypes := #[69, 69] }) (v : Value) (q : List Tr) (t : Tr) (n : Nat) (hn : q.length = n) (hs : a.eval s = v) (h : Qu w v q) (ad : Addr) (c : Nat) (hx : a.eval x = .slice (some ad) 1 c)
    (hnews : ∀ j u, (trC [t])[j]? = some u → w.cell? (ad.add j) = some u) (hl : n ≤ 5000)
    (hK : ∀ A cap w', Qu w' (.slice A (n + 1) cap) (q ++ [t]) → w.grownBy w' v.ownBlock → (∀ g, (Value.slice A (n + 1) cap).ownBlock = some g → v.ownBlock = some g ∨ w.heap.size ≤ g) → K (a.put o.dst (.slice A (n + 1) cap)) w') :
    if Region.wanted o (yielded ops a.tmps) = true then Oper.wp Try.prog o a w K Q else X := by
  subst hn
  have hw : Region.wanted o (yielded ops a.tmps) = true := by simp [Region.wanted, hgd]
  rw [if_pos hw]
  obtain ⟨A, cap, w', hr, k1, k2, k3⟩ := h.push (t := t) o.type ad c hnews hl
  unfold Oper.wp execOp
  simp only [ho, resolve, invoke, builtin, Sem.run_bind, Sem.run_pure, Result.andThen_ok, List.map_toArray, List.map_cons, List.map_nil, hs, hx, hr]
  exact hK A cap w' k1 k2 k3
theorem te_mid {w W3 W4 : World} {S T N M H n0 hi lo ay n cap : Nat} {v : Value} {hbs : List Nat} {G : List Ge} {b : St} {s : List Tm} {A : Option Addr} {K2 : List Kn} {E : List (Lit × Value)} (h : Bf W3 S T N M H v hbs G b s) (hm : Mut [] w W3)
    (hbx : Blk W3 n0 #[.int .u64 (hi : Int), .int .u64 (lo : Int)] 83) (hlt : ∀ k ∈ core S T N M v G, k < n0) (h4 : Mut (T :: v.ownBlock.toList) W3 W4) (hlen : K2.length = n) (hc : n ≤ cap ∧ cap ≤ maxLen) (h5 : n < 5000) (hrow : Qu W4 (.slice A n cap) (kT K2))
    (htold : Am W4 83 (plainElem Try.prog 5) T E) (hbut : But (tk hi lo) E (kE K2)) (hdec : dec b.most hi lo ay b.K = K2 ++ [⟨hi, lo, ay⟩]) (hown : ∀ g, (Value.slice A n cap).ownBlock = some g → v.ownBlock = some g) :
    TeMid w S T N M H n0 v b hi lo ay A n cap K2 E (W4.setCell ⟨S, 2, none⟩ (.slice A n cap)) := by
  obtain ⟨hST, hv⟩ := h.neS
  have hS4 : S ∉ T :: v.ownBlock.toList := by
    simp only [List.mem_cons, not_or]
    exact ⟨hST, fun e => (hv S (by simpa using e)).1 rfl⟩
  have hSn : S < n0 := hlt S (by simp [core])
  have hn4 : n0 ∉ T :: v.ownBlock.toList := by
    simp only [List.mem_cons, not_or]
    have h1 := hlt T (by simp [core])
    refine ⟨by omega, fun e => ?_⟩
    have := hlt n0 (by simp [core]; exact .inr (.inr (.inr (.inr (.inl (by simpa using e))))))
    omega
  have b4 := (h.blk.mut h4 hS4).set 2 (.slice A n cap)
  refine ⟨hlen, h5, hc, b4, hrow.same fun g hg => Below.heap_setCell _ _ _ _ (hv g (hown g hg)).1, htold.same (Below.heap_setCell _ _ _ _ hST.symm), hbut, hdec, ?_, hown, (hbx.mut h4 hn4).same (Below.heap_setCell _ _ _ _ (by simp; omega))⟩
  exact ((hm.wider (by simp)).trans (h4.wider fun k hk => List.mem_cons_of_mem _ hk)).setCell (by simp) _

set_option linter.unusedSimpArgs false in
set_option maxRecDepth 100000 in
set_option maxHeartbeats 2000000 in
theorem tell_any {S T N M H : Nat} {v : Value} {hbs : List Nat} {G : List Ge} {b : St} {s : List Tm} (hi lo ay : Nat) (w : World) (h : Bf w S T N M H v hbs G b s) (hiv : Iv b) (h1 : u64 hi) (h2 : u64 lo) (h3 : ay = 3 ∨ ay = 4) :
    Calls Try.prog 31 #[.pointer (some ⟨S, 0, none⟩), .agg #[.int .u64 (hi : Int), .int .u64 (lo : Int)], .int .u8 (ay : Int)] w fun e w' => e = .returned (.tuple #[]) ∧ ∃ v', Bf w' S T N M H v' hbs G (decided b hi lo ay) s ∧ Mut (S :: T :: v.ownBlock.toList) w w' ∧ ∀ g, v'.ownBlock = some g → v.ownBlock = some g ∨ w.heap.size ≤ g := by
  obtain ⟨n0, hn0⟩ : ∃ n0, w.heap.size = n0 := ⟨_, rfl⟩
  have hb := blk_new w #[.int .u64 (hi : Int), .int .u64 (lo : Int)] 83
  have hB : Below w.heap.size w (w.alloc (.cells #[.int .u64 (hi : Int), .int .u64 (lo : Int)] 83)) := box_below _
  have hf1 := h.later hB
  have hlt := h.lt
  rw [hn0] at hb hB hlt ⊢
  have hsz1 : (w.alloc (.cells #[.int .u64 (hi : Int), .int .u64 (lo : Int)] 83)).heap.size = n0 + 1 := by rw [World.size_alloc, hn0]
  have c1 : (w.alloc (.cells #[.int .u64 (hi : Int), .int .u64 (lo : Int)] 83)).cell? ⟨S, 1, none⟩ = some (.map (some T)) := hf1.blk.cell 1 rfl
  have k0 := hb.cell 0 rfl
  have k1 := hb.cell 1 rfl
  obtain ⟨r, hr⟩ : ∃ r, (askK hi lo b.K).isSome = r := ⟨_, rfl⟩
  obtain ⟨a0, ha0⟩ : ∃ a, ((askK hi lo b.K).map (·.ay)).getD 0 = a := ⟨_, rfl⟩
  have hl := fun q => told_look hf1.told hiv.K h1 h2 q
  rw [hr, ha0] at hl
  have HF := Lib.hid hf1
  have HB := Lib.hid (show Below n0 w (w.alloc (.cells #[.int .u64 (hi : Int), .int .u64 (lo : Int)] 83)) ∧ Blk (w.alloc (.cells #[.int .u64 (hi : Int), .int .u64 (lo : Int)] 83)) n0 #[.int .u64 (hi : Int), .int .u64 (lo : Int)] 83 ∧ (w.alloc (.cells #[.int .u64 (hi : Int), .int .u64 (lo : Int)] 83)).heap.size = n0 + 1 from ⟨hB, hb, hsz1⟩)
  have HI := Lib.hid hiv
  have HR := Lib.hid hr
  have HLT := Lib.hid hlt
  have HU := Lib.hid (show u64 hi ∧ u64 lo ∧ (ay = 3 ∨ ay = 4) from ⟨h1, h2, h3⟩)
  have HN0 := Lib.hid hn0
  have HF0 := Lib.hid h
  clear h hf1 hb hB hsz1 hiv hr ha0 hlt h1 h2 h3
  go_enter Try.func31, Try.ntmps31
  go_wp2_with fail
  clear hn0
  generalize w.alloc (.cells #[.int .u64 (hi : Int), .int .u64 (lo : Int)] 83) = w1 at HF HB c1 k0 k1 hl ⊢
  go_quiet (fail)
  have HF2 := Lib.hid (HF.out.drewN nq)
  have HB2 := Lib.hid (show Mut [] w (w1.drewN nq) ∧ Blk (w1.drewN nq) n0 #[.int .u64 (hi : Int), .int .u64 (lo : Int)] 83 ∧ (w1.drewN nq).heap.size = n0 + 1 from ⟨⟨HB.out.1.os, HB.out.1.tape, HB.out.1.output, HB.out.1.size, fun k hk _ => HB.out.1.block k (HN0.out ▸ hk)⟩, HB.out.2.1, HB.out.2.2⟩)
  clear HF HB c1 k0 k1 hl
  generalize w1.drewN nq = w2 at HF2 HB2 ⊢
  go_upto_if 18 with fail
  go_cut [] (fun wx => ∃ A n cap K2 E, Hid (TeMid w S T N M H n0 v b hi lo ay A n cap K2 E wx))
  case first =>
    cases hask : askK hi lo b.K with
    | some k =>
      obtain rfl : r = true := by rw [← HR.out, hask]; rfl
      obtain ⟨ka, kb, hK⟩ := askK_split hask
      have hrow := HF2.out.row
      have hkv := HI.out.K
      rw [hK] at hrow hkv
      have hk5 : (ka ++ ⟨hi, lo, k.ay⟩ :: kb).length ≤ 5000 := Nat.le_trans hkv.len HI.out.most.2
      have hT : kT (ka ++ ⟨hi, lo, k.ay⟩ :: kb) = kT ka ++ (hi, lo) :: kT kb := by simp [kT]
      rw [hT] at hrow
      have hlT : (kT ka ++ (hi, lo) :: kT kb).length ≤ 5000 := by rw [← hT, kT_length]; exact hk5
      have hnT : ∀ x ∈ kT ka, x ≠ (hi, lo) := fun x hx e => by
        obtain ⟨y, hy, rfl⟩ := List.mem_map.1 hx
        injection e with e1 e2
        exact (List.pairwise_append.1 hkv.nd).2.2 y hy ⟨hi, lo, k.ay⟩ (by simp) ⟨e1, e2⟩
      obtain ⟨A, cap, hv, hc1, hc2⟩ := hrow.len
      have hlen0 : (kT ka ++ (hi, lo) :: kT kb).length = (ka ++ kb).length + 1 := by simp [kT]; omega
      rw [hlen0] at hv hc1 hlT
      obtain ⟨n, hn⟩ : ∃ n, (ka ++ kb).length = n := ⟨_, rfl⟩
      rw [hn] at hv hc1 hlT
      obtain ⟨i, hi0⟩ : ∃ i, (kT ka).length = i := ⟨_, rfl⟩
      have hi5 : i ≤ 5000 := by rw [← hi0, kT_length]; simp at hn; omega
      subst hv
      have hidx : ∀ W, Below (n0 + 1) w2 W → Calls Try.prog 44 #[.slice A (n + 1) cap, .agg #[.int .u64 (hi : Int), .int .u64 (lo : Int)]] W fun e w' => e = .returned (.int .i64 (i : Int)) ∧ Below (n0 + 1) w2 w' := fun W hW => by
        have := index_any (t := (hi, lo)) W (hrow.same fun g hg => hW.block g (HB2.out.2.2 ▸ hrow.lt g hg)) hnT (by rw [hlen0, hn]; exact hlT)
        rw [hi0] at this
        exact this.mono fun e w' ⟨x, y⟩ => ⟨x, hW.trans (y.mono (Nat.le_trans (by rw [HB2.out.2.2]; exact Nat.le_refl _) hW.size))⟩
      have hdel : ∀ W, Below (n0 + 1) w2 W → Calls Try.prog 45 #[.slice A (n + 1) cap, .int .i64 (i : Int), .int .i64 ((i : Int) + 1)] W fun e w' => e = .returned (.slice A n cap) ∧ Hid (TeMid w S T N M H n0 (.slice A (n + 1) cap) b hi lo ay A n cap (ka ++ kb) (kE b.K) (w'.setCell ⟨S, 2, none⟩ (.slice A n cap))) ∧ Hid (w'.cell? ⟨S, 2, none⟩ = some (.slice A (n + 1) cap) ∧ w'.frozen? ⟨S, 2, none⟩ = false) := fun W hW => by
        have hle : Below w2.heap.size w2 W := HB2.out.2.2 ▸ hW
        have hd := delete_any (t := (hi, lo)) W (hrow.same fun g hg => hW.block g (HB2.out.2.2 ▸ hrow.lt g hg)) (by rw [hlen0, hn]; exact hlT)
        rw [hi0] at hd
        have hab : (kT ka ++ kT kb).length = n := by rw [← hn]; simp [kT]
        rw [hab] at hd
        refine hd.mono fun e w' ⟨x, y, z⟩ => ⟨x, ?_⟩
        have hbf := HF2.out.later hle
        have hz : Mut (T :: (Value.slice A (n + 1) cap).ownBlock.toList) W w' := z.wider fun k hk => List.mem_cons_of_mem _ hk
        obtain ⟨hST, hvS⟩ := hbf.neS
        have hSz : Blk w' S (bfC b T N M H (.slice A (n + 1) cap)) 79 := hbf.blk.mut z fun e => (hvS S (by simpa using e)).1 rfl
        refine ⟨Lib.hid (te_mid hbf (HB2.out.1.trans (Mut.of_below hle)) (HB2.out.2.1.later hle) HLT.out hz (by rw [hn]) ⟨by omega, hc2⟩ (by omega) (by rw [show kT (ka ++ kb) = kT ka ++ kT kb by simp [kT]]; exact y) ?_ (by rw [hK]; exact kE_but_known) (by rw [hK]; exact dec_known hkv) (fun g hg => by cases A <;> exact hg)), Lib.hid ⟨hSz.cell 2 rfl, hSz.free 2⟩⟩
        exact hbf.told.same (z.block _ hbf.told.lt fun e => (hvS T (by simpa using e)).2 rfl)
      have HX := Lib.hid hidx
      have HD := Lib.hid hdel
      have HS : Hid (∀ W, Below (n0 + 1) w2 W → W.cell? ⟨S, 2, none⟩ = some (.slice A (n + 1) cap) ∧ W.cell? ⟨n0, 0, none⟩ = some (.int .u64 (hi : Int)) ∧ W.cell? ⟨n0, 1, none⟩ = some (.int .u64 (lo : Int))) := Lib.hid fun W hW => by
        have hle : Below w2.heap.size w2 W := HB2.out.2.2 ▸ hW
        exact ⟨(HF2.out.later hle).blk.cell 2 rfl, (HB2.out.2.1.later hle).cell 0 rfl, (HB2.out.2.1.later hle).cell 1 rfl⟩
      have hBd : Below (n0 + 1) w2 w2.drew := Mut.below (Mut.refl [] w2).drew (by rw [HB2.out.2.2]; exact Nat.le_refl _) (by simp)
      clear hask hK hrow hkv hk5 hT hlT hnT hc1 hlen0 hn hi0 hidx hdel
      go_wp2_with fail
      refine wp_region_held_drew (S := fun W => Below (n0 + 1) w2 W) (by kernel_rfl) ?_ (fun hHeld => ?_)
      · exact hBd
      refine wpAnyH_take (i := 0) (v := ?_) rfl (by kernel_rfl) (by kernel_rfl) (by kernel_rfl) (fun _ _ _ h => h) (Or.inl ⟨by rfl, ?_⟩) (by assumption) ?_
      rotate_left
      · intro wq hSw; (try dsimp only at hSw); go_simp; (try with_reducible rfl)
      simp only [Act.put, List.getElem_toArray, List.getElem_cons_succ, List.getElem_cons_zero, List.setIfInBounds_toArray, List.set_cons_zero, List.set_cons_succ]
      refine wpAnyH_take (i := 1) (v := ?_) rfl (by kernel_rfl) (by kernel_rfl) (by kernel_rfl) (fun _ _ _ h => h) (Or.inl ⟨by rfl, ?_⟩) (by assumption) ?_
      rotate_left
      · intro wq hSw; (try dsimp only at hSw); go_simp; (try with_reducible rfl)
      simp only [Act.put, List.getElem_toArray, List.getElem_cons_succ, List.getElem_cons_zero, List.setIfInBounds_toArray, List.set_cons_zero, List.set_cons_succ]
      refine wpAnyH_take (i := 2) (v := ?_) rfl (by kernel_rfl) (by kernel_rfl) (by kernel_rfl) (fun _ _ _ h => h) (Or.inl ⟨by rfl, ?_⟩) (by assumption) ?_
      rotate_left
      · intro wq hSw; (try dsimp only at hSw); go_simp; (try with_reducible rfl)
      simp only [Act.put, List.getElem_toArray, List.getElem_cons_succ, List.getElem_cons_zero, List.setIfInBounds_toArray, List.set_cons_zero, List.set_cons_succ]
      refine wpAnyH_take (i := 3) (v := ?_) rfl (by kernel_rfl) (by kernel_rfl) (by kernel_rfl) (fun _ _ _ h => h) (Or.inl ⟨by rfl, ?_⟩) (by assumption) ?_
      rotate_left
      · intro wq hSw; (try dsimp only at hSw); have u0 := (HS.out _ hSw).1; go_simp; (try with_reducible rfl)
      simp only [Act.put, List.getElem_toArray, List.getElem_cons_succ, List.getElem_cons_zero, List.setIfInBounds_toArray, List.set_cons_zero, List.set_cons_succ]
      refine wpAnyH_take (i := 4) (v := ?_) rfl (by kernel_rfl) (by kernel_rfl) (by kernel_rfl) (fun _ _ _ h => h) (Or.inl ⟨by rfl, ?_⟩) (by assumption) ?_
      rotate_left
      · intro wq hSw; (try dsimp only at hSw); have u0 := (HS.out _ hSw).2.1; have u1 := (HS.out _ hSw).2.2; go_simp; (try with_reducible rfl)
      simp only [Act.put, List.getElem_toArray, List.getElem_cons_succ, List.getElem_cons_zero, List.setIfInBounds_toArray, List.set_cons_zero, List.set_cons_succ]
      refine wpAnyH_ready (rs := [5]) (by kernel_rfl) (by simp) ?_
      refine AllReadyH.cons rfl (fun K hK => ?_) AllReadyH.nil
      go_simp
      refine (HX.out _ hHeld).mono ?_
      rintro e w5 ⟨rfl, hb5⟩
      (try go_wp2_with fail)
      refine hK.out _ _ ?_ (fun hHeld => ?_)
      · exact hb5
      clear hK K
      try simp only [Act.put, List.getElem_toArray, List.getElem_cons_succ, List.getElem_cons_zero, List.setIfInBounds_toArray, List.set_cons_zero, List.set_cons_succ]
      refine wpAnyH_take (i := 6) (v := ?_) rfl (by kernel_rfl) (by kernel_rfl) (by kernel_rfl) (fun _ _ _ h => h) (Or.inl ⟨by rfl, ?_⟩) (by assumption) ?_
      rotate_left
      · intro wq hSw; (try dsimp only at hSw); go_simp; (try with_reducible rfl)
      simp only [Act.put, List.getElem_toArray, List.getElem_cons_succ, List.getElem_cons_zero, List.setIfInBounds_toArray, List.set_cons_zero, List.set_cons_succ]
      refine wpAnyH_done (by kernel_rfl) ?_ _
      clear hHeld
      have u0 := (HS.out _ hb5).1
      have hcall := HD.out _ hb5
      have HC := Lib.hid hcall
      clear hcall
      go_wp2_with fail
      refine HC.out.mono ?_
      rintro e w6 ⟨rfl, HM6, HS6⟩
      have u1 := HS6.out.1
      have u2 := HS6.out.2
      go_wp2_with fail
      go_meet
      exact ⟨A, n, cap, _, _, HM6⟩
    | none =>
      obtain rfl : r = false := by rw [← HR.out, hask]; rfl
      have hno := askK_none hask
      have hrow := HF2.out.row
      have hkv := HI.out.K
      have hbut := kE_but_new hkv HU.out.1 HU.out.2.1 hno
      obtain ⟨A, cap, hv, hc1, hc2⟩ := hrow.len
      rw [kT_length] at hv hc1
      obtain ⟨n, hn⟩ : ∃ n, b.K.length = n := ⟨_, rfl⟩
      obtain ⟨mo, hmo⟩ : ∃ n, b.most = n := ⟨_, rfl⟩
      have hnm : n ≤ mo := by rw [← hn, ← hmo]; exact hkv.len
      have hm5 : 1 ≤ mo ∧ mo ≤ 5000 := by rw [← hmo]; exact HI.out.most
      rw [hn] at hv hc1
      subst hv
      have u0 : w2.cell? ⟨S, 2, none⟩ = some (.slice A n cap) := HF2.out.blk.cell 2 rfl
      have u1 : w2.cell? ⟨S, 0, none⟩ = some (.int .i64 (mo : Int)) := hmo ▸ HF2.out.blk.cell 0 rfl
      have HV := Lib.hid (show (∀ k ∈ b.K, ¬ (k.hi = hi ∧ k.lo = lo)) ∧ Kv b.most b.K ∧ b.K.length = n ∧ b.most = mo from ⟨hno, hkv, hn, hmo⟩)
      have HBUT := Lib.hid hbut
      clear hask hno hkv hrow hbut hn hmo
      by_cases hfull : n = mo
      · subst hfull
        go_wp2_with fail
        go_quiet (fail)
        obtain ⟨n', hn'⟩ : ∃ n', n - 1 = n' := ⟨n - 1, rfl⟩
        have h0n : 0 < n := by omega
        have hn1 : n = n' + 1 := by omega
        have HN1 := Lib.hid hn1
        have HF3 := Lib.hid (HF2.out.drewN nq)
        have HB3 := Lib.hid (show Mut [] w (w2.drewN nq) ∧ Blk (w2.drewN nq) n0 #[.int .u64 (hi : Int), .int .u64 (lo : Int)] 83 ∧ (w2.drewN nq).heap.size = n0 + 1 from ⟨⟨HB2.out.1.os, HB2.out.1.tape, HB2.out.1.output, HB2.out.1.size, HB2.out.1.block⟩, HB2.out.2.1, HB2.out.2.2⟩)
        clear u0 u1
        generalize w2.drewN nq = w3 at HF3 HB3 ⊢
        obtain ⟨k, K2, hK⟩ : ∃ k K2, b.K = k :: K2 := by
          cases e : b.K with
          | nil => have := HV.out.2.2.1; rw [e] at this; simp at this; omega
          | cons k K2 => exact ⟨k, K2, rfl⟩
        have hKl : K2.length = n' := by have := HV.out.2.2.1; rw [hK] at this; simp at this; omega
        have hrow := HF3.out.row
        rw [hK] at hrow
        obtain ⟨g, o, cap', hA, _, _, hg⟩ := hrow.some_ (by simp [kT])
        injection hA with hA hnn hcc
        clear hnn
        subst hA hcc
        obtain ⟨r0, r1⟩ := hrow.cell (i := 0) (by simp [kT])
        obtain ⟨x1, hx1⟩ : ∃ x, k.hi = x := ⟨_, rfl⟩
        obtain ⟨x2, hx2⟩ : ∃ x, k.lo = x := ⟨_, rfl⟩
        have r0' : w3.cell? ⟨g, o, none⟩ = some (.int .u64 (x1 : Int)) := by rw [← hx1]; exact r0
        have r1' : w3.cell? ⟨g, o + 1, none⟩ = some (.int .u64 (x2 : Int)) := by rw [← hx2]; exact r1
        have hku : u64 x1 ∧ u64 x2 := by
          have := HV.out.2.1.ok k (by rw [hK]; simp)
          rw [hx1, hx2] at this
          exact ⟨this.1, this.2.1⟩
        have u0 : w3.cell? ⟨S, 2, none⟩ = some (.slice (some ⟨g, o, none⟩) n cap) := HF3.out.blk.cell 2 rfl
        have u1 : w3.cell? ⟨S, 1, none⟩ = some (.map (some T)) := HF3.out.blk.cell 1 rfl
        have hcap1 : 1 ≤ cap := by omega
        have hone : 1 ≤ n := by omega
        obtain ⟨B, hB, hBq⟩ : ∃ B, (if cap = 1 then some (⟨g, o, none⟩ : Addr) else some ⟨g, o + 2, none⟩) = some B ∧ B = ⟨g, if cap = 1 then o else o + 2, none⟩ := by
          by_cases h : cap = 1
          · exact ⟨⟨g, o, none⟩, by rw [if_pos h], by rw [if_pos h]⟩
          · exact ⟨⟨g, o + 2, none⟩, by rw [if_neg h], by rw [if_neg h]⟩
        have hT3 := HF3.out.told
        obtain ⟨D, hD, hAs⟩ := hT3
        have hD2 : w3.drew.ownsMap Try.prog 83 (plainElem Try.prog 5) T (kE b.K).length D := hD
        have hdel : As (plainElem Try.prog 5) (D.del (tk x1 x2)) (kE K2) := by
          have hAs2 := hAs
          rw [hK] at hAs2
          have := As.del (a := []) (b := kE K2) (k := tk x1 x2) (v0 := .int .u8 (k.ay : Int)) (by rw [← hx1, ← hx2]; exact hAs2) (hD.tidy law_tr)
          simpa using this
        have HDEL := Lib.hid hdel
        have HBQ := Lib.hid hBq
        have HKK := Lib.hid (show b.K = k :: K2 ∧ K2.length = n' from ⟨hK, hKl⟩)
        have HG := Lib.hid hg
        clear hn1 hAs hD hdel hrow hg r0 r1 hx1 hx2 hKl hBq hK
        go_wp2_with fail
        go_still_tail 10, (by kernel_rfl)
        change wpList _ _ _ _ _ w3.drew
        refine wpList_delete_own _ rfl _ _ 68 83 rfl 5 law_tr Try.underlying68 _ T _ D rfl hD2 _ _ rfl (key_tr hku.1 hku.2) ?_
        intro w4 hown4 hturn4
        have hg4 := hturn4.grown
        have hm4 : Mut [T] w3 w4 := (Mut.refl [T] w3).drew.grown hg4 (by simp)
        obtain ⟨hST, hvS⟩ := HF3.out.neS
        have hb4 : Blk w4 S (bfC b T N M H (.slice (some ⟨g, o, none⟩) n cap)) 79 := HF3.out.blk.mut hm4 (by simpa using hST)
        have u2 : w4.cell? ⟨S, 2, none⟩ = some (.slice (some ⟨g, o, none⟩) n cap) := hb4.cell 2 rfl
        have u3 : w4.frozen? ⟨S, 2, none⟩ = false := hb4.free 2
        have hrow4 : Qu w4 (.slice (some B) n' (cap - 1)) (kT K2) := by
          have h4 := HF3.out.row.mut hm4 fun g' hg' => by simpa using (hvS g' hg').2
          rw [HKK.out.1, HN1.out] at h4
          rw [HBQ.out]
          exact h4.tail
        have hmid := te_mid (hi := hi) (lo := lo) (ay := ay) HF3.out HB3.out.1 HB3.out.2.1 HLT.out (hm4.wider (by simp)) HKK.out.2 ⟨by omega, by omega⟩ (by omega) hrow4 (Am.of hown4 HDEL.out)
          (by have hno := HV.out.1
              have hkv := HV.out.2.1
              rw [HKK.out.1] at hno hkv
              exact kE_but_new (most := n) ⟨(List.pairwise_cons.1 hkv.nd).2, by rw [HKK.out.2]; omega, fun y hy => hkv.ok y (by simp [hy])⟩ HU.out.1 HU.out.2.1 fun y hy => hno y (by simp [hy]))
          (by have hno := HV.out.1
              have hl := HV.out.2.2.1
              rw [HKK.out.1] at hno hl ⊢
              exact dec_full hno (by rw [hl, HV.out.2.2.2]))
          (fun g' hg' => by rw [HBQ.out] at hg'; exact hg')
        have HMID := Lib.hid hmid
        clear hmid hrow4 hb4 hST hvS hm4 hg4 hturn4 hown4 u0 u1 r0' r1' hD2
        dsimp only [Act.put]
        go_wp2_with fail
        go_meet
        exact ⟨some B, n', cap - 1, K2, kE K2, HMID⟩
      · have hne : ((n : Int) == (mo : Int)) = false := by simp; omega
        have hnen : (n == mo) = false := by simp; omega
        go_wp2_with fail
        go_quiet (fail)
        have HF3 := Lib.hid (HF2.out.drewN nq)
        have HB3 := Lib.hid (show Mut [] w (w2.drewN nq) ∧ Blk (w2.drewN nq) n0 #[.int .u64 (hi : Int), .int .u64 (lo : Int)] 83 from ⟨⟨HB2.out.1.os, HB2.out.1.tape, HB2.out.1.output, HB2.out.1.size, HB2.out.1.block⟩, HB2.out.2.1⟩)
        clear u0 u1
        generalize w2.drewN nq = w3 at HF3 HB3 ⊢
        go_wp2_with fail
        go_meet
        exact ⟨A, n, cap, b.K, kE b.K, Lib.hid ⟨HV.out.2.2.1, by omega, ⟨hc1, hc2⟩, HF3.out.blk, HF3.out.row, HF3.out.told, HBUT.out, dec_room HV.out.1 (by rw [HV.out.2.2.1, HV.out.2.2.2]; omega), HB3.out.1.wider (by simp), fun _ h => h, HB3.out.2⟩⟩
  case rest =>
    clear HF2 HB2
    obtain ⟨A, n, cap, K2, E, HM⟩ := hcut
    obtain ⟨hST, hvS⟩ := HF0.out.neS
    have hvown : ∀ g, (Value.slice A n cap).ownBlock = some g → g ≠ S ∧ g ≠ T ∧ g < n0 := fun g hg => by
      have h1 := HM.out.own g hg
      exact ⟨(hvS g h1).1, (hvS g h1).2, HLT.out g (by simp only [core, List.mem_cons, List.mem_append]; exact .inr (.inr (.inr (.inr (.inl (by simpa using h1))))))⟩
    have hn5 := HM.out.five
    have hSn : S < n0 := HLT.out S (by simp [core])
    have hTn : T < n0 := HLT.out T (by simp [core])
    have hnx : n0 < wc.heap.size := HM.out.box.lt
    obtain ⟨n1, hn1⟩ : ∃ n1, wc.heap.size = n1 := ⟨_, rfl⟩
    have hn1d : wc.drew.heap.size = n1 := hn1
    rw [hn1] at hnx
    have hszA : (wc.alloc (.cells #[.int .u64 (hi : Int), .int .u64 (lo : Int)] 83)).drew.heap.size = n1 + 1 := by show (wc.alloc _).heap.size = _; rw [World.size_alloc, hn1]
    have HSZ := Lib.hid hszA
    clear hszA
    have z1 : wc.drew.cell? ⟨S, 2, none⟩ = some (.slice A n cap) := HM.out.blk.cell 2 rfl
    have z2 : Blk wc.drew n0 #[.int .u64 (hi : Int), .int .u64 (lo : Int)] 83 := HM.out.box
    have HV := Lib.hid hvown
    have HST := Lib.hid (show S ≠ T ∧ T ≠ n0 ∧ S ≠ n0 from ⟨hST, by omega, by omega⟩)
    clear hvown hvS hST
    go_wp2_with fail
    refine RegionBut.region_but 10 (S := fun W => W.cell? ⟨S, 2, none⟩ = some (.slice A n cap) ∧ Blk W n0 #[.int .u64 (hi : Int), .int .u64 (lo : Int)] 83) (by kernel_rfl) ?_ (fun hHeld => ?_)
    · exact ⟨z1, z2⟩
    refine RegionBut.but_take (i := 0) (v := ?_) rfl (by kernel_rfl) (by kernel_rfl) (by kernel_rfl) (by kernel_rfl) (fun _ _ _ h => h) (Or.inl ⟨by rfl, ?_⟩) (by assumption) ?_
    rotate_left
    · intro wq hSw; (try dsimp only at hSw); go_simp; (try with_reducible rfl)
    simp only [Act.put, List.getElem_toArray, List.getElem_cons_succ, List.getElem_cons_zero, List.setIfInBounds_toArray, List.set_cons_zero, List.set_cons_succ]
    refine RegionBut.but_take (i := 1) (v := ?_) rfl (by kernel_rfl) (by kernel_rfl) (by kernel_rfl) (by kernel_rfl) (fun _ _ _ h => h) (Or.inl ⟨by rfl, ?_⟩) (by assumption) ?_
    rotate_left
    · intro wq hSw; (try dsimp only at hSw); go_simp; (try with_reducible rfl)
    simp only [Act.put, List.getElem_toArray, List.getElem_cons_succ, List.getElem_cons_zero, List.setIfInBounds_toArray, List.set_cons_zero, List.set_cons_succ]
    refine RegionBut.but_take (i := 2) (v := ?_) rfl (by kernel_rfl) (by kernel_rfl) (by kernel_rfl) (by kernel_rfl) (fun _ _ _ h => h) (Or.inl ⟨by rfl, ?_⟩) (by assumption) ?_
    rotate_left
    · intro wq hSw; (try dsimp only at hSw); go_simp; (try with_reducible rfl)
    simp only [Act.put, List.getElem_toArray, List.getElem_cons_succ, List.getElem_cons_zero, List.setIfInBounds_toArray, List.set_cons_zero, List.set_cons_succ]
    refine RegionBut.but_take (i := 3) (v := ?_) rfl (by kernel_rfl) (by kernel_rfl) (by kernel_rfl) (by kernel_rfl) (fun _ _ _ h => h) (Or.inl ⟨by rfl, ?_⟩) (by assumption) ?_
    rotate_left
    · intro wq hSw; (try dsimp only at hSw); go_simp; (try with_reducible rfl)
    simp only [Act.put, List.getElem_toArray, List.getElem_cons_succ, List.getElem_cons_zero, List.setIfInBounds_toArray, List.set_cons_zero, List.set_cons_succ]
    refine RegionBut.but_take (i := 4) (v := ?_) rfl (by kernel_rfl) (by kernel_rfl) (by kernel_rfl) (by kernel_rfl) (fun _ _ _ h => h) (Or.inl ⟨by rfl, ?_⟩) (by assumption) ?_
    rotate_left
    · intro wq hSw; (try dsimp only at hSw); have hq := hSw.1; go_simp; (try with_reducible rfl)
    simp only [Act.put, List.getElem_toArray, List.getElem_cons_succ, List.getElem_cons_zero, List.setIfInBounds_toArray, List.set_cons_zero, List.set_cons_succ]
    refine RegionBut.but_take (i := 5) (v := ?_) rfl (by kernel_rfl) (by kernel_rfl) (by kernel_rfl) (by kernel_rfl) (fun _ _ _ h => h) (Or.inl ⟨by rfl, ?_⟩) (by assumption) ?_
    rotate_left
    · intro wq hSw; (try dsimp only at hSw); have q0 := hSw.2.cell 0 rfl; have q1 := hSw.2.cell 1 rfl; go_simp; (try with_reducible rfl)
    simp only [Act.put, List.getElem_toArray, List.getElem_cons_succ, List.getElem_cons_zero, List.setIfInBounds_toArray, List.set_cons_zero, List.set_cons_succ]
    refine RegionBut.but_ready (rs := [6]) (by kernel_rfl) (by simp) ?_
    refine RegionBut.Nexts.cons rfl (fun K hK => ?_) RegionBut.Nexts.nil
    go_simp
    (try go_wp2_with fail)
    refine hK.out _ _ ?_ (fun hHeld => ?_)
    · exact ⟨(World.cell?_alloc_lt _ _ _ (by show S < wc.heap.size; omega)).trans z1, z2.later (box_below _)⟩
    clear hK K
    try simp only [Act.put, List.getElem_toArray, List.getElem_cons_succ, List.getElem_cons_zero, List.setIfInBounds_toArray, List.set_cons_zero, List.set_cons_succ]
    refine RegionBut.but_ready (rs := [7]) (by kernel_rfl) (by simp) ?_
    refine RegionBut.Nexts.cons rfl (fun K hK => ?_) RegionBut.Nexts.nil
    refine step_push_q rfl (.tmp 68) (.tmp 70) rfl (.slice A n cap) (kT K2) (hi, lo) n (by rw [kT_length, HM.out.len]) rfl (HM.out.row.mut (((Mut.refl [] wc).drew).trans (Mut.of_below (box_below _))) (by simp)) ⟨n1, 0, none⟩ 1 rfl (by rw [← hn1]; exact World.news_of_block (blk_new wc.drew #[.int .u64 (hi : Int), .int .u64 (lo : Int)] 83)) (by omega) ?_
    intro A' cap' w3 hrow3 hgr3 hown3
    have hsz3 : n1 + 1 ≤ w3.heap.size := by have := hgr3.size; rw [HSZ.out] at this; exact this
    have hfar : ∀ k, k < n1 → (∀ g, (Value.slice A n cap).ownBlock = some g → g ≠ k) → w3.heap[k]? = wc.heap[k]? := fun k hk hne => (hgr3.block k (by rw [HSZ.out]; omega) (fun e => hne k e.symm rfl)).trans (Below.heap_alloc wc _ _ (by rw [hn1]; exact hk))
    have y0 : Blk w3 S (bfC b T N M H (.slice A n cap)) 79 := HM.out.blk.same (hfar S (by omega) fun g hg => (HV.out g hg).1)
    have y1 : w3.cell? ⟨S, 2, none⟩ = some (.slice A n cap) := y0.cell 2 rfl
    have y2 : Blk w3 n0 #[.int .u64 (hi : Int), .int .u64 (lo : Int)] 83 := HM.out.box.same (hfar n0 (by omega) fun g hg e => by have := (HV.out g hg).2.2; omega)
    have hT3 := HM.out.told.same (hfar T (by omega) fun g hg => (HV.out g hg).2.1)
    have hm3 : Mut (S :: T :: v.ownBlock.toList) w w3 := HM.out.mut_.trans ⟨hgr3.os, hgr3.tape, hgr3.output, by omega, fun k hk hn => hfar k (hn1 ▸ hk) fun g hg e => hn (by simp only [List.mem_cons]; exact .inr (.inr (by rw [← e]; simpa using HM.out.own g hg)))⟩
    have HY := Lib.hid (show Blk w3 S (bfC b T N M H (.slice A n cap)) 79 ∧ Blk w3 n0 #[.int .u64 (hi : Int), .int .u64 (lo : Int)] 83 ∧ Am w3 83 (plainElem Try.prog 5) T E ∧ Mut (S :: T :: v.ownBlock.toList) w w3 ∧ Qu w3 (.slice A' (n + 1) cap') (kT K2 ++ [(hi, lo)]) from ⟨y0, y2, hT3, hm3, hrow3⟩)
    have HO := Lib.hid (show ∀ g, (Value.slice A' (n + 1) cap').ownBlock = some g → v.ownBlock = some g ∨ n0 ≤ g ∧ g ≠ n0 from fun g hg => (hown3 g hg).elim (fun h => .inl (HM.out.own g h)) fun h => .inr (by rw [HSZ.out] at h; omega))
    clear y0 hT3 hm3 hrow3 hgr3 hown3 hfar
    refine hK.out _ _ ?_ (fun hHeld => ?_)
    · exact ⟨y1, y2⟩
    clear hK K
    try simp only [Act.put, List.getElem_toArray, List.getElem_cons_succ, List.getElem_cons_zero, List.setIfInBounds_toArray, List.set_cons_zero, List.set_cons_succ]
    refine RegionBut.but_ready (rs := [8]) (by kernel_rfl) (by simp) ?_
    refine RegionBut.Nexts.cons rfl (fun K hK => ?_) RegionBut.Nexts.nil
    go_simp
    (try go_wp2_with fail)
    refine hK.out _ _ ?_ (fun hHeld => ?_)
    · exact hHeld
    clear hK K
    try simp only [Act.put, List.getElem_toArray, List.getElem_cons_succ, List.getElem_cons_zero, List.setIfInBounds_toArray, List.set_cons_zero, List.set_cons_succ]
    refine RegionBut.but_take (i := 9) (v := ?_) rfl (by kernel_rfl) (by kernel_rfl) (by kernel_rfl) (by kernel_rfl) (fun _ _ _ h => h) (Or.inl ⟨by rfl, ?_⟩) (by assumption) ?_
    rotate_left
    · intro wq hSw; (try dsimp only at hSw); go_simp; (try with_reducible rfl)
    simp only [Act.put, List.getElem_toArray, List.getElem_cons_succ, List.getElem_cons_zero, List.setIfInBounds_toArray, List.set_cons_zero, List.set_cons_succ]
    refine RegionBut.but_ready (rs := [10]) (by kernel_rfl) (by simp) ?_
    refine RegionBut.Nexts.last rfl (fun K hK => ?_)
    have f1 : w3.frozen? ⟨S, 2, none⟩ = false := HY.out.1.free 2
    go_simp
    (try go_wp2_with fail)
    refine hK.out _ _ trivial (fun _ => ?_)
    clear hK K
    try simp only [Act.put, List.getElem_toArray, List.getElem_cons_succ, List.getElem_cons_zero, List.setIfInBounds_toArray, List.set_cons_zero, List.set_cons_succ]
    refine RegionBut.but_done (by kernel_rfl) ?_ _
    clear hHeld
    clear z1 z2 y1 y2 hHeld
    have hS4 : Blk (w3.setCell ⟨S, 2, none⟩ (.slice A' (n + 1) cap')) S (bfC b T N M H (.slice A' (n + 1) cap')) 79 := HY.out.1.set 2 _
    have h04 : Blk (w3.setCell ⟨S, 2, none⟩ (.slice A' (n + 1) cap')) n0 #[.int .u64 (hi : Int), .int .u64 (lo : Int)] 83 := HY.out.2.1.same (Below.heap_setCell _ _ _ _ HST.out.2.2.symm)
    have hT4 : Am (w3.setCell ⟨S, 2, none⟩ (.slice A' (n + 1) cap')) 83 (plainElem Try.prog 5) T E := HY.out.2.2.1.same (Below.heap_setCell _ _ _ _ HST.out.1.symm)
    have hm4 : Mut (S :: T :: v.ownBlock.toList) w (w3.setCell ⟨S, 2, none⟩ (.slice A' (n + 1) cap')) := HY.out.2.2.2.1.setCell (by simp) _
    have hgS : ∀ g, (Value.slice A' (n + 1) cap').ownBlock = some g → g ≠ S ∧ g ≠ T := fun g hg => by rcases HO.out g hg with h | h; exact HF0.out.neS.2 g h; exact ⟨by omega, by omega⟩
    have hr4 : Qu (w3.setCell ⟨S, 2, none⟩ (.slice A' (n + 1) cap')) (.slice A' (n + 1) cap') (kT K2 ++ [(hi, lo)]) := HY.out.2.2.2.2.same fun g hg => Below.heap_setCell _ _ _ _ (hgS g hg).1
    generalize w3.setCell ⟨S, 2, none⟩ (.slice A' (n + 1) cap') = w4 at hS4 h04 hT4 hm4 hr4 ⊢
    have u1 : w4.cell? ⟨S, 1, none⟩ = some (.map (some T)) := hS4.cell 1 rfl
    have u2 : w4.cell? ⟨n0, 0, none⟩ = some (.int .u64 (hi : Int)) := h04.cell 0 rfl
    have u3 : w4.cell? ⟨n0, 1, none⟩ = some (.int .u64 (lo : Int)) := h04.cell 1 rfl
    obtain ⟨D, hD, hAs⟩ := hT4
    have hput := hAs.put HM.out.but (hD.tidy law_tr) (tk_key hi lo) (plainElem_int (a := (ay : Int)) Try.underlying5 (by rcases HU.out.2.2 with h | h <;> subst h <;> decide))
    have hD2 : w4.drew.ownsMap Try.prog 83 (plainElem Try.prog 5) T E.length D := hD
    have HE := Lib.hid (show Blk w4 S (bfC b T N M H (.slice A' (n + 1) cap')) 79 ∧ Mut (S :: T :: v.ownBlock.toList) w w4 ∧ Qu w4 (.slice A' (n + 1) cap') (kT K2 ++ [(hi, lo)]) from ⟨hS4, hm4, hr4⟩)
    have HP := Lib.hid hput
    have HGS := Lib.hid hgS
    have hEl : E.length ≤ 5000 := by have := HM.out.len; rcases HM.out.but with ⟨h, _⟩ | ⟨a, c, v0, h, h2⟩; rw [h, show (kE K2).length = K2.length by simp [kE]]; omega; have h3 : (a ++ c).length = n := (by rw [← h2, show (kE K2).length = K2.length by simp [kE]]; exact this); rw [h]; simp at h3 ⊢; omega
    have HEL := Lib.hid hEl
    clear hAs hput hD hS4 h04 hm4 hr4 hgS hEl
    go_wp2_with fail
    go_still_tail 6, (by kernel_rfl)
    change wpList _ _ _ _ _ w4.drew
    refine wpList_mapUpdate_own _ rfl _ _ _ 68 rfl 83 5 law_tr Try.underlying68 _ T _ D rfl hD2 (by have := HEL.out; unfold maxLen; omega) _ _ _ rfl rfl (key_tr HU.out.1 HU.out.2.1) _ [] (plainElem_int Try.underlying5 (by rcases HU.out.2.2 with h | h <;> subst h <;> decide)) ?_
    intro w5 hown5 hg5
    have hm5 : Mut [T] w4 w5 := (Mut.refl [T] w4).drew.grown hg5 (by simp)
    have hfin := te_fin HF0.out (HE.out.2.1.trans (hm5.wider (by simp))) (HE.out.1.mut hm5 (by simpa using HST.out.1)) (by rw [show kT (K2 ++ [⟨hi, lo, ay⟩]) = kT K2 ++ [(hi, lo)] by simp [kT]]; exact HE.out.2.2.mut hm5 fun g hg => by simpa using (HGS.out g hg).2) (Am.of hown5 HP.out) HM.out.dec_ (fun g hg => (HO.out g hg).imp id fun h => by rw [HN0.out]; exact h.1)
    have HFIN := Lib.hid (show Bf w5 S T N M H (.slice A' (n + 1) cap') hbs G (decided b hi lo ay) s ∧ Mut (S :: T :: v.ownBlock.toList) w w5 from ⟨hfin, HE.out.2.1.trans (hm5.wider (by simp))⟩)
    clear hfin hm5 hown5 hg5 hD2 u1 u2 u3
    dsimp only [Act.put]
    go_wp2_with fail
    go_end0
    exact ⟨rfl, _, HFIN.out.1, HFIN.out.2, fun g hg => (HO.out g hg).imp id fun h => h.1⟩
end Go.Proofs.Ythpcnnkdpgjiiaa
