/-
  The document's own members of layer 4 (telemeterref04), whatever the text: two rows of texts of the call's own.
-/
import Derived.Deep.QuietTactic
import Derived.BigQuiet
import Derived.Test.YtkfidolbbnmjfaaDoorCtxRefSplit
namespace Go.Proofs.YtkfidolbbnmjfaaDoor
open Go.RowKit Go.Shelf Go.Proofs.CtxState Go.Proofs.SeqOwn

theorem run_append_where {P : Program} (w : World) (base : Nat) (t ty e : TypeId) (i : TypeInfo) (z : Value) (size bytes : Nat) (ht : P.underlying t = some (.slice e)) (hi : P.info? e = some i) (hz : i.zero = some z)
    (hsize : i.size = size) (hby : i.bytes = bytes) (hzs : z.cells.size = size) (hsz : 0 < size)
    (v : Value) (n : Nat) (xs : List Value) (hown : w.ownsRow base e size v n xs)
    (a : Addr) (m c : Nat) (news : List Value) (hl : news.length = m * size) (hnews : ∀ j u, news[j]? = some u → w.cell? (a.add j) = some u) (h1 : ∀ u ∈ news, u.oneCell' = true)
    (h63 : n + m ≤ maxLen) (hbytes : (n + m) * bytes ≤ 140737488355328) (hbase : base ≤ w.heap.size) :
    ∃ v' w', (Builtin.append_ #[t, t] ty #[v, .slice (some a) m c]).run P w = .ok v' w' ∧ w'.ownsRow base e size v' (n + m) (xs ++ news) ∧ w.grownBy w' v.ownBlock ∧
      (∀ g, v'.ownBlock = some g → v.ownBlock = some g ∨ w.heap.size ≤ g) := by
  rcases hown.2 with ⟨rfl, rfl⟩ | ⟨g, cap, cur, rfl, hbg, hg, hnc, hcm, hcs, htake⟩
  · have hx : xs = [] := List.eq_nil_of_length_eq_zero (by simpa using hown.1)
    subst hx
    obtain ⟨v', w', hr, h2, h3, _⟩ := run_append_own (P := P) w w.heap.size t ty e i z size bytes ht hi hz hsize hby hzs hsz _ 0 [] (World.ownsRow_nil _ _ _ _) a m c news hl hnews h1 h63 hbytes (Nat.le_refl _)
    refine ⟨v', w', hr, ⟨h2.1, ?_⟩, h3, fun g hg => .inr (h2.lt g hg).1⟩
    rcases h2.2 with h | ⟨g, cap, cur, e1, e2, e3⟩
    · exact .inl h
    · exact .inr ⟨g, cap, cur, e1, by omega, e3⟩
  · obtain ⟨v', w', hr, h2, h3, _⟩ := run_append_own (P := P) w base t ty e i z size bytes ht hi hz hsize hby hzs hsz _ n xs hown a m c news hl hnews h1 h63 hbytes hbase
    refine ⟨v', w', hr, h2, h3, ?_⟩
    subst hsize
    subst hby
    by_cases hroom : n + m ≤ cap
    · have hfit : n * i.size + news.length ≤ cur.size := by rw [hl, hcs, ← Nat.add_mul]; exact Nat.mul_le_mul_right _ hroom
      have hr2 := run_append_room (P := P) w t ty e i ht hi g n cap cur hg a m c news hl hnews h1 hroom hfit
      rw [hr] at hr2
      injection hr2 with e1 _
      subst e1
      exact fun g' hg' => .inl hg'
    · have hr2 := run_append_grow (P := P) w t ty e i z ht hi hz ⟨g, 0, none⟩ n cap xs hown.1 (hown.cells (g := g) rfl) a m c news hl hnews (by omega) (by simp only [maxLen] at h63; omega) (growslice_fits (by omega) hbytes)
      rw [hr] at hr2
      injection hr2 with e1 _
      subst e1
      intro g' hg'
      refine .inr ?_
      simp [Value.ownBlock] at hg'
      omega

/-- 'append(b, y)' of a text: b the call's own; the new slice lies where b did, or in a new block. -/
theorem app_text {w : World} {ops : Array Oper} {rest : List Oper} {o : Oper} {a : Act} {Q : Exit → Act → World → Prop} (hgd : o.guard = none) (s x : Operand)
    (ho : o.op = .call { callee := .builtin .append, args := #[s, x], argTypes := #[53, 53] })
    (base b2 : Nat) (v sl : Value) (xs : List (List UInt8)) (y : List UInt8) (hs : a.eval s = v) (hv : SL w base v xs) (hx : a.eval x = sl) (hsl : SL w b2 sl [y]) (hbound : xs.length ≤ 9999) (hbase : base ≤ w.heap.size)
    (h : ∀ v' w', SL w' base v' (xs ++ [y]) → w.grownBy w' v.ownBlock → (∀ g, v'.ownBlock = some g → v.ownBlock = some g ∨ w.heap.size ≤ g) → wpList Tryd.prog ops Q rest (a.put o.dst v') w') : wpList Tryd.prog ops Q (o :: rest) a w := by
  obtain ⟨i0, hi, hz0, hz1, hz2⟩ := info_parts infoStr
  have hm : (10000 : Nat) ≤ maxLen := by decide
  rcases slice_of hsl with rfl | ⟨g, cap, k, rfl⟩
  · rcases hsl.2 with ⟨_, h0⟩ | ⟨_, _, _, e, _⟩
    · cases h0
    · cases e
  · obtain ⟨rfl, hc, hg, hcell⟩ := hsl.cells
    obtain ⟨v', w', hr, h2, h3, h4⟩ := run_append_where (P := Tryd.prog) w base 53 o.type 9 i0 (.string ⟨#[]⟩) 1 16 Tryd.underlying53 hi hz0 hz1 hz2 rfl (by decide) v _ _ hv ⟨g, 0, none⟩ 1 cap [strV y] (by simp)
      (by
        intro j u hu
        have hp : (⟨g, 0, none⟩ : Addr).add j = ⟨g, j, none⟩ := by unfold Addr.add; split <;> simp_all
        rw [hp]
        exact hcell j u hu)
      (by
        intro u hu
        rw [List.mem_singleton.1 hu]; rfl) (by omega) (by omega) hbase
    refine wpList_plain hgd fun _ hK => ?_
    unfold Oper.wp execOp
    simp only [ho, resolve, invoke, builtin, Sem.run_bind, Sem.run_pure, Result.andThen_ok, List.map_toArray, List.map_cons, List.map_nil, hs, hx]
    have hr' : (Builtin.append_ #[53, 53] o.type #[v, .slice (some ⟨g, 0, none⟩) [y].length cap]).run Tryd.prog w = .ok v' w' := hr
    simp only [hr']
    refine hK _ _ (h v' w' ?_ h3 h4)
    unfold SL
    rw [List.length_append, List.map_append]
    exact h2

theorem below_draws {B : Nat} {a w : World} (h : Below B a w) (n : Nat) : Below B a (w.drewN n) := ⟨h.os, h.tape, h.output, h.size, h.block⟩
def Apart (u v : Value) : Prop := ∀ g, u.ownBlock = some g → v.ownBlock ≠ some g
/-- Two rows of texts of the call's own, each in its own memory. -/
structure Mems (w1 W : World) (kv vv : Value) (ks vs : List (List UInt8)) : Prop where
  b : Below w1.heap.size w1 W
  k : SL W w1.heap.size kv ks
  v : SL W w1.heap.size vv vs
  apart : Apart kv vv
theorem Mems.start (w1 : World) : Mems w1 w1 (.slice none 0 0) (.slice none 0 0) [] [] := ⟨Below.refl _ _, SL.nil _ _, SL.nil _ _, fun g h => by cases h⟩
theorem Mems.later {w1 W W' : World} {kv vv : Value} {ks vs : List (List UInt8)} (h : Mems w1 W kv vv ks vs) (hb : Below W.heap.size W W') : Mems w1 W' kv vv ks vs :=
  ⟨h.b.trans (hb.mono h.b.size), h.k.later hb, h.v.later hb, h.apart⟩
theorem Mems.putK {w1 W W' : World} {kv vv kv' : Value} {ks vs ks' : List (List UInt8)} (h : Mems w1 W kv vv ks vs) (hk : SL W' w1.heap.size kv' ks') (hg : W.grownBy W' kv.ownBlock) (hf : ∀ g, kv'.ownBlock = some g → kv.ownBlock = some g ∨ W.heap.size ≤ g) : Mems w1 W' kv' vv ks' vs := by
  refine ⟨h.b.grown hg h.b.size (fun j e => (World.ownsRow.lt h.k j e).1), hk, SL.grown h.v hg ?_, fun g hg' hv => ?_⟩
  · cases hv : vv.ownBlock with
    | none => exact .inl rfl
    | some g => exact .inr fun e => h.apart g e.symm hv
  · rcases hf g hg' with e | e
    · exact h.apart g e hv
    · have := (World.ownsRow.lt h.v g hv).2
      omega
theorem Mems.putV {w1 W W' : World} {kv vv vv' : Value} {ks vs vs' : List (List UInt8)} (h : Mems w1 W kv vv ks vs) (hk : SL W' w1.heap.size vv' vs') (hg : W.grownBy W' vv.ownBlock) (hf : ∀ g, vv'.ownBlock = some g → vv.ownBlock = some g ∨ W.heap.size ≤ g) : Mems w1 W' kv vv' ks vs' := by
  refine ⟨h.b.grown hg h.b.size (fun j e => (World.ownsRow.lt h.v j e).1), SL.grown h.k hg ?_, hk, fun g hk' hg' => ?_⟩
  · cases hv : kv.ownBlock with
    | none => exact .inl rfl
    | some g => exact .inr fun e => h.apart g hv e.symm
  · rcases hf g hg' with e | e
    · exact h.apart g hk' e
    · have := (World.ownsRow.lt h.k g hk').2
      omega
/-- What stands at a place of a row of texts. -/
theorem SL.at {W : World} {b : Nat} {sl : Value} {ys : List (List UInt8)} (h : SL W b sl ys) {i : Nat} {y : List UInt8} (hi : ys[i]? = some y) : ∃ g cap, sl = .slice (some ⟨g, 0, none⟩) ys.length cap ∧ W.cell? ⟨g, i, none⟩ = some (strV y) := by
  rcases slice_of h with rfl | ⟨g, cap, k, rfl⟩
  · have : ys = [] := by
      rcases h.2 with ⟨_, h0⟩ | ⟨_, _, _, e, _⟩
      · exact List.eq_nil_of_length_eq_zero h0
      · cases e
    subst this
    cases hi
  · obtain ⟨rfl, _, _, hcell⟩ := h.cells
    exact ⟨g, cap, rfl, hcell i _ (by rw [List.getElem?_map, hi]; rfl)⟩
theorem SL.len {W : World} {b : Nat} {sl : Value} {ys : List (List UInt8)} (h : SL W b sl ys) : ∃ A cap, sl = .slice A ys.length cap := by
  rcases slice_of h with rfl | ⟨g, cap, k, rfl⟩
  · have : ys = [] := by
      rcases h.2 with ⟨_, h0⟩ | ⟨_, _, _, e, _⟩
      · exact List.eq_nil_of_length_eq_zero h0
      · cases e
    subst this
    exact ⟨_, _, rfl⟩
  · obtain ⟨rfl, _⟩ := h.cells
    exact ⟨_, _, rfl⟩
def memPost (w w' : World) (R : Option (List (List UInt8 × List UInt8))) (kv vv : Value) (b : Bool) : Prop :=
  match R with
  | none => b = false
  | some l => b = true ∧ SL w' w.heap.size kv (l.map Prod.fst) ∧ SL w' w.heap.size vv (l.map Prod.snd)
theorem bad_key {acc : List (List UInt8 × List UInt8)} {kv : List UInt8 × List UInt8} (h : rightKey kv.1 = false) : badKv acc kv = true := by simp [badKv, h]
theorem bad_val {acc : List (List UInt8 × List UInt8)} {kv : List UInt8 × List UInt8} (h : rightVal kv.2 = false) : badKv acc kv = true := by simp [badKv, h]
theorem bad_seen {acc : List (List UInt8 × List UInt8)} {kv : List UInt8 × List UInt8} {j : Nat} (h : (acc.map Prod.fst)[j]? = some kv.1) : badKv acc kv = true := by
  have := List.mem_of_getElem? h
  have h2 : (acc.map Prod.fst).contains kv.1 = true := by simpa using this
  unfold badKv; rw [h2]; rfl
theorem bad_none {acc : List (List UInt8 × List UInt8)} {kv : List UInt8 × List UInt8} (h1 : rightKey kv.1 = true) (h2 : rightVal kv.2 = true) (h3 : ∀ (j : Nat) (y : List UInt8), (acc.map Prod.fst)[j]? = some y → y ≠ kv.1) : badKv acc kv = false := by
  have : (acc.map Prod.fst).contains kv.1 = false := by
    rw [Bool.eq_false_iff]
    intro hc
    have hm : kv.1 ∈ acc.map Prod.fst := by simpa using hc
    obtain ⟨j, hj⟩ := List.getElem?_of_mem hm
    exact h3 j _ hj rfl
  unfold badKv
  rw [this, h1, h2]; rfl
theorem piece_cases {ps : List (List UInt8)} {i : Nat} (h : i < ps.length) : ∃ p, ps[i]? = some p ∧ p ∈ ps ∧ ps.drop i = p :: ps.drop (i + 1) :=
  ⟨ps[i], List.getElem?_eq_getElem h, List.getElem_mem h, List.drop_eq_getElem_cons h⟩
theorem bs_take (p : List UInt8) (k : Nat) : (bs p).extract 0 k = bs (p.take k) := by rw [take_bs, list_bs]
theorem bs_drop (p : List UInt8) (k : Nat) : (bs p).extract k (bs p).size = bs (p.drop k) := by rw [drop_bs, list_bs]
theorem pieces_no {c : UInt8} {l p : List UInt8} (h : p ∈ pieces c l) : c ∉ p ∧ p.length ≤ l.length := by
  unfold pieces at h
  split at h
  · cases h
  · exact ⟨split_no c l p h, split_len c l p h⟩
theorem pieces_count (c : UInt8) (l : List UInt8) : (pieces c l).length ≤ l.length + 1 := by
  unfold pieces
  split
  · simp
  · exact split_count c l

set_option maxRecDepth 100000 in
set_option maxHeartbeats 8000000 in
theorem refMembers_any (s : ByteArray) (w : World) (hs : s.size ≤ 5000) : Calls Tryd.prog 45 #[.string s] w fun e w' => (∃ kv vv b, e = .returned (.tuple #[kv, vv, .bool b]) ∧ memPost w w' (refMem [] (pieces 44 s.data.toList)) kv vv b) ∧ Below w.heap.size w w' := by
  have HSp : Hid (∀ W, Calls Tryd.prog 63 #[.string s, .int .u8 44] W fun e w' => ∃ sl, e = .returned sl ∧ SL w' W.heap.size sl (pieces 44 s.data.toList) ∧ Below W.heap.size W w') := Lib.hid (fun W => refSplit_any s 44 W hs)
  obtain ⟨ps, hps⟩ : ∃ ps, pieces 44 s.data.toList = ps := ⟨_, rfl⟩
  have hpn : ∀ p ∈ ps, 44 ∉ p ∧ p.length ≤ 5000 := fun p hp => by
    rw [← hps] at hp
    obtain ⟨h1, h2⟩ := pieces_no hp
    exact ⟨h1, by simp at h2; omega⟩
  have hpc : ps.length ≤ 5001 := by rw [← hps]; have := pieces_count 44 s.data.toList; simp at this; omega
  rw [hps] at HSp ⊢
  clear hps hs
  obtain ⟨R, hR⟩ : ∃ R, refMem [] ps = R := ⟨_, rfl⟩
  rw [hR]
  have HR := Lib.hid hR
  have HPN := Lib.hid hpn
  obtain ⟨N, hN⟩ : ∃ N, ps.length = N := ⟨_, rfl⟩
  rw [hN] at hpc
  have HN := Lib.hid hN
  clear hR hpn hN
  go_enter Tryd.func45, Tryd.ntmps45
  go_wp2_with fail
  refine (HSp.out _).mono ?_
  rintro e w1 ⟨sl, rfl, hsl, hb1⟩
  have HS := Lib.hid hsl
  have HB1 := Lib.hid hb1
  obtain ⟨A, cap, rfl⟩ := hsl.len
  rw [HN.out]
  clear hsl hb1
  go_wp2_with fail
  go_loopw [5, 6, 8] (fun kv vv b wr => ∃ (i : Nat) (acc : List (List UInt8 × List UInt8)), i ≤ N ∧ b = .int .i64 (i : Int) ∧ Hid (Mems w1 wr kv vv (acc.map Prod.fst) (acc.map Prod.snd)) ∧ Hid (refMem acc (ps.drop i) = R) ∧ Hid (acc.length ≤ i)) (fun _ _ b _ => N - (intOf b).toNat)
  case atStart => exact ⟨0, [], by omega, rfl, Lib.hid (Mems.start w1), HR, Lib.hid (Nat.le_refl _)⟩
  case round =>
    obtain ⟨i, acc, hi, rfl, hM, hG, hA⟩ := hrel
    by_cases hlt : i < N
    · have dl : decide ((i : Int) < (N : Int)) = true := by simp; omega
      have dl' : decide (i < N) = true := by simp; omega
      obtain ⟨p, hp, hpm, hdr⟩ := piece_cases (ps := ps) (i := i) (by rw [HN.out]; exact hlt)
      obtain ⟨g, cap', hsl', hcell⟩ := HS.out.at hp
      injection hsl' with e1 e2 e3
      subst e1
      clear e2 e3
      have hPN := HPN.out p hpm
      have hgl : g < w1.heap.size := World.block_lt_of_cell? w1 _ hcell
      have hc1 : wr.cell? ⟨g, i, none⟩ = some (strV p) := (hM.out.b.cell (p := ⟨g, i, none⟩) hgl).trans hcell
      unfold strV at hc1
      obtain ⟨pb, hpb⟩ : ∃ pb, bs p = pb := ⟨_, rfl⟩
      have hpl : pb.size ≤ 5000 := by rw [← hpb, size_bs]; exact hPN.2
      have hpd : pb.data.toList = p := by rw [← hpb, list_bs]
      have HPl := Lib.hid (fun W => (refPlace_any pb 61 W (by omega)).mono (R' := fun e w' => e = .returned (.int .i64 (Lib.indexByte p 61)) ∧ W = w') (fun _ _ h => by rw [hpd] at h; exact h))
      have HPl' : Hid (∀ W, Calls Tryd.prog 65 #[.string pb, .int .u8 61] W fun e w' => e = .returned (.int .i64 (Lib.indexByte p 61)) ∧ W = w') := HPl
      clear HPl
      have HBw := Lib.hid (HB1.out.trans (hM.out.b.mono HB1.out.size))
      rw [hpb] at hc1
      have hc0 : w1.cell? ⟨g, i, none⟩ = some (.string pb) := by rw [← hpb]; exact hcell
      rcases index_cases p 61 with ⟨q1, q2, _⟩ | ⟨k, q1, q2, q3, _⟩
      · have HNo : Hid (R = none) := Lib.hid (by rw [← hG.out, hdr]; exact refMem_none _ q2)
        rw [q1] at HPl'
        clear q1 q2 hdr hp hpm hcell hPN hpl hpd hpb hG hA hM
        go_wp2_with fail
        refine (HPl'.out _).mono ?_
        rintro e w2 ⟨rfl, rfl⟩
        go_wp2_with fail
        go_ret3
        exact ⟨⟨_, _, _, rfl, by rw [HNo.out]; rfl⟩, HBw.out⟩
      · rw [q1] at HPl'
        have hpk : p.length = pb.size := by rw [← hpd]; simp
        have hkl : k < pb.size := by omega
        obtain ⟨kb, hkb⟩ : ∃ kb, pb.extract 0 k = kb := ⟨_, rfl⟩
        obtain ⟨vb, hvb⟩ : ∃ vb, pb.extract (k + 1) pb.size = vb := ⟨_, rfl⟩
        have ekb : kb = bs (p.take k) := by rw [← hkb, ← hpb, bs_take]
        have evb : vb = bs (p.drop (k + 1)) := by rw [← hvb, ← hpb, bs_drop]
        obtain ⟨x, hx⟩ : ∃ x, p.take k = x := ⟨_, rfl⟩
        obtain ⟨y, hy⟩ : ∃ y, p.drop (k + 1) = y := ⟨_, rfl⟩
        rw [hx] at ekb q3
        rw [hy] at evb q3
        have hyn : 44 ∉ y := by rw [← hy]; exact fun h => hPN.1 (List.mem_of_mem_drop h)
        have hkd : kb.data.toList = x := by rw [ekb, list_bs]
        have hvd : vb.data.toList = y := by rw [evb, list_bs]
        have hks : kb.size ≤ 9223372036854775807 := by rw [ekb, size_bs, ← hx, List.length_take]; omega
        have hvs : vb.size ≤ 9223372036854775807 := by rw [evb, size_bs, ← hy, List.length_drop]; omega
        have HK := Lib.hid (fun W => (refKey_any kb W hks).mono (R' := fun e w' => e = .returned (.bool (rightKey x)) ∧ W = w') (fun _ _ h => by rw [hkd] at h; exact h))
        have HV := Lib.hid (fun W => (refValue_any vb W hvs).mono (R' := fun e w' => e = .returned (.bool (rightVal y)) ∧ W = w') (fun _ _ h => by rw [hvd, refVal_eq hyn] at h; exact h))
        have HEK := Lib.hid ekb
        have HEV := Lib.hid evb
        have HQ := Lib.hid q3
        have HDR := Lib.hid hdr
        clear q1 q2 q3 hdr hp hpm hcell hPN hpd hpb hx hy hyn hkd hvd hks hvs ekb evb hpk
        cases hrk : rightKey x with
        | false =>
          rw [hrk] at HK
          have HNo : Hid (R = none) := Lib.hid (by rw [← hG.out, HDR.out]; exact refMem_bad _ HQ.out (bad_key hrk))
          clear hrk hG hA hM
          go_wp2_with fail
          refine (HPl'.out _).mono ?_
          rintro e w2 ⟨rfl, rfl⟩
          go_wp2_with fail
          refine (HK.out _).mono ?_
          rintro e w2 ⟨rfl, rfl⟩
          go_wp2_with fail
          go_ret3
          exact ⟨⟨_, _, _, rfl, by rw [HNo.out]; rfl⟩, HBw.out⟩
        | true =>
          rw [hrk] at HK
          cases hrv : rightVal y with
          | false =>
            rw [hrv] at HV
            have HNo : Hid (R = none) := Lib.hid (by rw [← hG.out, HDR.out]; exact refMem_bad _ HQ.out (bad_val hrv))
            clear hrk hrv hG hA hM
            go_wp2_with fail
            refine (HPl'.out _).mono ?_
            rintro e w2 ⟨rfl, rfl⟩
            go_wp2_with fail
            refine (HK.out _).mono ?_
            rintro e w2 ⟨rfl, rfl⟩
            go_wp2_with fail
            refine (HV.out _).mono ?_
            rintro e w2 ⟨rfl, rfl⟩
            go_wp2_with fail
            go_ret3
            exact ⟨⟨_, _, _, rfl, by rw [HNo.out]; rfl⟩, HBw.out⟩
          | true =>
            rw [hrv] at HV
            have HRK := Lib.hid hrk
            have HRV := Lib.hid hrv
            clear hrk hrv
            obtain ⟨Lk, hLk⟩ : ∃ L, acc.length = L := ⟨_, rfl⟩
            obtain ⟨Ak, ck, hkv⟩ := hM.out.k.len
            rw [List.length_map, hLk] at hkv
            subst hkv
            have HLk := Lib.hid hLk
            have hLb : Lk ≤ 5001 := by have := hA.out; omega
            clear hLk
            go_wp2_with fail
            refine (HPl'.out _).mono ?_
            rintro e w2 ⟨rfl, rfl⟩
            go_wp2_with fail
            refine (HK.out _).mono ?_
            rintro e w2 ⟨rfl, rfl⟩
            go_wp2_with fail
            refine (HV.out _).mono ?_
            rintro e w2 ⟨rfl, rfl⟩
            go_wp2_with fail
            go_loopw [10] (fun b wi => ∃ j : Nat, j ≤ Lk ∧ b = .int .i64 (j : Int) ∧ Hid (∀ (j' : Nat) (z : List UInt8), j' < j → (acc.map Prod.fst)[j']? = some z → z ≠ x) ∧ Hid (Below wr.heap.size wr wi)) (fun b _ => Lk - (intOf b).toNat)
            case atStart => exact ⟨0, by omega, rfl, Lib.hid (fun j' z h => by omega), Lib.hid (Below.refl _ _)⟩
            case round =>
              obtain ⟨j, hj, rfl, hNo, hBi⟩ := hrel
              have HM2 := Lib.hid (hM.out.later hBi.out)
              have hci : wr.cell? ⟨g, i, none⟩ = some (.string pb) := (HM2.out.b.cell (p := ⟨g, i, none⟩) hgl).trans hc0
              by_cases hjl : j < Lk
              · have dj : decide ((j : Int) < (Lk : Int)) = true := by simp; omega
                have dj' : decide (j < Lk) = true := by simp; omega
                obtain ⟨z, hz, _, _⟩ := piece_cases (ps := acc.map Prod.fst) (i := j) (by rw [List.length_map, HLk.out]; exact hjl)
                obtain ⟨gk, capk, hke, hkc⟩ := HM2.out.k.at hz
                injection hke with f1 f2 f3
                subst f1
                clear f2 f3
                unfold strV at hkc
                obtain ⟨zb, hzb⟩ : ∃ zb, bs z = zb := ⟨_, rfl⟩
                rw [hzb] at hkc
                by_cases hzx : z = x
                · have dz2 : (zb.toList == kb.toList) = true := by rw [← hzb, hzx, ← HEK.out]; exact beq_self_eq_true _
                  have hR : R = none := by
                    rw [← hG.out, HDR.out]
                    exact refMem_bad _ HQ.out (bad_seen (j := j) (by rw [hz, hzx]))
                  have HNo : Hid (R = none) := Lib.hid hR
                  clear hR hzx hzb hz hNo
                  go_wp2_with fail
                  go_quiet (fail)
                  go_wp2_with fail
                  go_ret3
                  exact ⟨⟨_, _, _, rfl, by rw [HNo.out]; rfl⟩, below_draws (HBw.out.trans (hBi.out.mono HBw.out.size)) _⟩
                · have dz2 : (zb.toList == kb.toList) = false := by
                    rw [beq_eq_false_iff_ne, ByteArray.toList_eq, ByteArray.toList_eq, ← hzb, HEK.out, list_bs, list_bs]
                    exact hzx
                  have HN2 : Hid (∀ (j' : Nat) (z : List UInt8), j' < j + 1 → (acc.map Prod.fst)[j']? = some z → z ≠ x) := Lib.hid (fun j' z' h h' => by
                    rcases Nat.lt_or_ge j' j with h2 | h2
                    · exact hNo.out j' z' h2 h'
                    · obtain rfl : j' = j := by omega
                      rw [hz] at h'
                      injection h' with h'
                      rw [← h']; exact hzx)
                  clear hzx hzb hz hNo
                  go_wp2_with fail
                  go_quiet (fail)
                  go_wp2_with fail
                  go_roundw
                  case rel => exact ⟨j + 1, by omega, by go_num, HN2, Lib.hid (below_draws hBi.out _)⟩
                  case measure => simp [intOf]; omega
              · have dj : decide ((j : Int) < (Lk : Int)) = false := by simp; omega
                have dj' : decide (j < Lk) = false := by simp; omega
                obtain rfl : j = Lk := by omega
                have HG2 : Hid (refMem (acc ++ [(x, y)]) (ps.drop (i + 1)) = R) := Lib.hid (by
                  rw [← hG.out, HDR.out]
                  exact (refMem_step _ HQ.out (bad_none HRK.out HRV.out (fun j' z h => hNo.out j' z (by
                    have := (List.getElem?_eq_some_iff.1 h).1
                    rw [List.length_map, HLk.out] at this
                    exact this) h))).symm)
                have HA2 : Hid ((acc ++ [(x, y)]).length ≤ i + 1) := Lib.hid (by have := hA.out; simp; omega)
                clear hNo hA hG HQ HRK HRV
                go_wp2_with (first | (at_builtin; refine app_text rfl _ _ rfl w1.heap.size _ (.slice Ak j ck) _ (acc.map Prod.fst) x rfl (SL.later HM2.out.k (box_below _)) rfl (SL.one wr kb _ HEK.out) (by have := HLk.out; simp; omega) (by have := HM2.out.b.size; simp; omega) ?_; intro v5 w5 hv5 hg5 hf5; have HM5 := Lib.hid ((HM2.out.later (box_below _)).putK hv5 hg5 hf5); have hc5 : w5.cell? ⟨g, i, none⟩ = some (.string pb) := (HM5.out.b.cell (p := ⟨g, i, none⟩) hgl).trans hc0; clear hv5 hg5 hf5) | (at_builtin; refine app_text rfl _ _ rfl w1.heap.size _ u6 _ (acc.map Prod.snd) y rfl (SL.later HM5.out.v (box_below _)) rfl (SL.one w5 vb _ HEV.out) (by have := HLk.out; simp; omega) (by have := HM5.out.b.size; simp; omega) ?_; intro v6 w6 hv6 hg6 hf6; have HM6 := Lib.hid ((HM5.out.later (box_below _)).putV hv6 hg6 hf6); clear hv6 hg6 hf6))
                go_roundw
                case rel => exact ⟨i + 1, acc ++ [(x, y)], by omega, by go_num, Lib.hid (by rw [List.map_append, List.map_append]; exact HM6.out), HG2, HA2⟩
                case measure => simp [intOf]; omega
    · have dl : decide ((i : Int) < (N : Int)) = false := by simp; omega
      have dl' : decide (i < N) = false := by simp; omega
      obtain rfl : i = N := by omega
      have HE : Hid (R = some acc) := Lib.hid (by rw [← hG.out, List.drop_of_length_le (by rw [HN.out]; omega)]; rfl)
      go_wp2_with fail
      go_ret3
      refine ⟨⟨_, _, _, rfl, ?_⟩, HB1.out.trans (hM.out.b.mono HB1.out.size)⟩
      rw [HE.out]
      exact ⟨rfl, SL.lower hM.out.k HB1.out.size, SL.lower hM.out.v HB1.out.size⟩
end Go.Proofs.YtkfidolbbnmjfaaDoor
