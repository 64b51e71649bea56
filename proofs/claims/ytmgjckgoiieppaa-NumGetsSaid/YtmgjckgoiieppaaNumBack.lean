/-
  Proved: NumBack returns true for every number, text and bytes ahead and behind: a number is told back, wherever it stands, whatever stands behind it; so is a text. No condition but the form's own reach.
-/
import Derived.SizedLaws
import Derived.Laws.AppendOwnNone
import Derived.Test.YtmgjckgoiieppaaNumLong
namespace Go.Proofs.Ytmgjckgoiieppaa
open Go.ChangeShapes Go.WideShapes Go.ChangeAt Go.RowKit Go.Proofs.NumMath

theorem getAt_mid (pre t : List UInt8) (L : Nat) (hL : L < 18446744073709551616) : getAt (pre ++ (put L ++ t)) (pre.length : Int) = (L, pre.length + (put L).length, 0) := by
  rw [getAt_of (by simp), List.drop_left, scan_put L 0 0 t (.inl rfl) (by omega) (by have := put_len10 hL; omega)]
  simp
theorem getText_mid (pre s t : List UInt8) (hL : s.length < 18446744073709551616) :
    getText (pre ++ (put s.length ++ (s ++ t))) (pre.length : Int) (s.length : Int) = (s, pre.length + (put s.length).length + s.length, 0) := by
  unfold getText
  rw [getAt_mid pre (s ++ t) s.length hL]
  simp only [ne_eq, not_true_eq_false, if_false]
  rw [if_neg (by omega), if_neg (by simp; omega)]
  have e : (pre ++ (put s.length ++ (s ++ t))).drop (pre.length + (put s.length).length) = s ++ t := by
    rw [← List.append_assoc, List.drop_left' (by simp)]
  rw [e, List.take_left]

theorem b8_one (ys : List UInt8) : ∀ u ∈ ys.map b8, u.oneCell' = true := by
  intro u hu
  obtain ⟨c, _, rfl⟩ := List.mem_map.1 hu
  rfl
theorem below_grown {base : Nat} {w0 w w' : World} {e : TypeId} {v : Value} {n : Nat} {xs : List Value} (hb : Below base w0 w) (hw : base ≤ w.heap.size) (ho : w.ownsRow base e 1 v n xs) (hg : w.grownBy w' v.ownBlock) : Below base w0 w' := by
  refine hb.grown hg hw (fun k hk => ?_)
  rcases ho.2 with ⟨rfl, _⟩ | ⟨g, cap, cur, rfl, hgb, _⟩
  · simp [Value.ownBlock] at hk
  · obtain rfl : g = k := by simpa [Value.ownBlock] using hk
    exact hgb
theorem own_later {base : Nat} {w w' : World} {e : TypeId} {v : Value} {n : Nat} {xs : List Value} (ho : w.ownsRow base e 1 v n xs) (hb : Below w.heap.size w w') : w'.ownsRow base e 1 v n xs := by
  refine ho.kept (row := none) ⟨hb.os, hb.tape, hb.output, hb.size, fun i hi _ => hb.block i hi⟩ ?_
  cases v.ownBlock <;> simp

/-- 'append(b, ys...)': b the call's own, ys nil, empty or not. -/
theorem app_bytes {w : World} {ops : Array Oper} {rest : List Oper} {o : Oper} {a : Act} {Q : Exit → Act → World → Prop} (hgd : o.guard = none) (s x : Operand)
    (ho : o.op = .call { callee := .builtin .append, args := #[s, x], argTypes := #[23, 23] })
    (base n₀ : Nat) (v : Value) (xs ys zs : List UInt8) (k : Nat) (hz : zs = xs ++ ys) (hk : zs.length = k) (hs : a.eval s = v) (hown : w.ownsRow base 5 1 v xs.length (xs.map b8))
    (A : Option Addr) (m c : Nat) (hx : a.eval x = .slice A m c) (hm : ys.length = m) (hr : Holds8 n₀ w A ys) (hA : A = none → c = 0) (hbound : k ≤ 1000000) (hbase : base ≤ w.heap.size)
    (h : ∀ A' c' w', w'.ownsRow base 5 1 (.slice A' k c') zs.length (zs.map b8) → w.grownBy w' v.ownBlock → wpList Try.prog ops Q rest (a.put o.dst (.slice A' k c')) w') : wpList Try.prog ops Q (o :: rest) a w := by
  obtain ⟨i0, hi, hz0, hz1, hz2⟩ := info_parts info_u8
  subst hz hm
  have hkl : xs.length + ys.length = k := by rw [← hk]; simp
  have fin : ∀ v' w', w'.ownsRow base 5 1 v' (xs ++ ys).length ((xs ++ ys).map b8) → w.grownBy w' v.ownBlock → wpList Try.prog ops Q rest (a.put o.dst v') w' := fun v' w' h1 h2 => by
    obtain ⟨A', c', e, _⟩ := holds_of_own h1
    rw [hk] at e
    subst e
    exact h A' c' w' h1 h2
  rcases A with _ | ad
  · have hy : ys = [] := by
      rcases Nat.eq_zero_or_pos ys.length with h0 | h0
      · exact List.eq_nil_of_length_eq_zero h0
      · obtain ⟨_, _, e, _⟩ := hr h0
        cases e
    subst hy
    obtain rfl := hA rfl
    refine wpList_append_own_none hgd s x 23 ho base 5 i0 1 Try.underlying23 hi v _ _ hs hown hx (fin v w ?_ ⟨rfl, rfl, rfl, Nat.le_refl _, fun _ _ _ => rfl⟩)
    simpa using hown
  · refine wpList_append_own w hgd s x 23 ho base 5 i0 (.int .u8 0) 1 1 Try.underlying23 hi hz0 hz1 hz2 rfl (by decide) v _ _ hs hown ad ys.length c (ys.map b8) hx (by simp) ?_ (b8_one ys) (by unfold maxLen; omega) (by omega) hbase ?_
    · intro j u hu
      have hj : j < ys.length := by
        have := (List.getElem?_eq_some_iff.1 hu).1
        simpa using this
      obtain ⟨b, off, e, _, hc⟩ := hr (by omega)
      cases e
      have hp : (⟨b, off, none⟩ : Addr).add j = ⟨b, off + j, none⟩ := by unfold Addr.add; split <;> simp_all
      rw [hp, hc j hj, ← hu]
      simp [hj]
    · intro v' w' h1 h2 _
      refine fin v' w' ?_ h2
      simpa using h1

theorem own_facts {W : World} {base k c : Nat} {A : Option Addr} {cs : List UInt8} {e : TypeId} (h : W.ownsRow base e 1 (.slice A k c) cs.length (cs.map b8)) : cs.length ≤ c ∧ c ≤ 9223372036854775807 ∧ Holds8 W.heap.size W A cs := by
  obtain ⟨A', c', e', h1, h2, h3⟩ := holds_of_own h
  injection e' with e1 _ e3
  subst e1 e3
  exact ⟨h1, h2, h3⟩
theorem get_found (A : Option Addr) (pre t : List UInt8) (L pl len cap : Nat) (w : World) (cs : List UInt8) (hcs : cs = pre ++ (put L ++ t)) (hlen : cs.length = len) (hL : L < 18446744073709551616) {hl : Nat} (hpre : pre.length = hl) (hpl : (put L).length = pl) (hc : len ≤ cap) (hm : cap ≤ 9223372036854775807) (hr : Holds8 w.heap.size w A cs) :
    Calls Try.prog 14 #[.slice A len cap, .int .i64 (hl : Int)] w fun e w' => e = .returned (.tuple #[.int .u64 (L : Int), .int .i64 ((hl : Int) + (pl : Int)), .int .u16 0]) ∧ Below w.heap.size w w' := by
  have h := get_any A cs cap (hl : Int) w (by omega) hm hr
  have e : getAt cs (hl : Int) = (L, hl + pl, 0) := by rw [hcs, ← hpre, getAt_mid pre t L hL, hpl]
  rw [hlen, e] at h
  simpa using h
theorem getText_found (A : Option Addr) (pre t : List UInt8) (s : ByteArray) (at_ ql len cap : Nat) (w : World) (cs : List UInt8) (hcs : cs = pre ++ (put s.size ++ (s.data.toList ++ t))) (hlen : cs.length = len) (hL : s.size < 9223372036854775807) (hpre : pre.length = at_) (hql : (put s.size).length = ql) (hc : len ≤ cap) (hm : cap ≤ 9223372036854775807) (hr : Holds8 w.heap.size w A cs) :
    Calls Try.prog 13 #[.slice A len cap, .int .i64 (at_ : Int), .int .i64 (s.size : Int)] w fun e w' => e = .returned (.tuple #[.string s, .int .i64 ((at_ : Int) + ((ql : Int) + (s.size : Int))), .int .u16 0]) ∧ Below w.heap.size w w' := by
  have h := getText_any A cs cap (at_ : Int) (s.size : Int) w (by omega) hm (by omega) hr
  have hd : s.data.toList.length = s.size := by simp
  have e : getText cs (at_ : Int) (s.size : Int) = (s.data.toList, at_ + ql + s.size, 0) := by
    have := getText_mid pre s.data.toList t (by rw [hd]; omega)
    rw [hd, hpre, hql] at this
    rw [hcs]; exact this
  rw [hlen, e] at h
  simp only [Array.toArray_toList] at h
  have e2 : ((at_ + ql + s.size : Nat) : Int) = (at_ : Int) + ((ql : Int) + (s.size : Int)) := by omega
  rw [e2] at h
  exact h

set_option maxRecDepth 100000 in
set_option maxHeartbeats 2000000 in
theorem back_walk (n : Nat) (s : ByteArray) (A2 A3 : Option Addr) (head tail : List UInt8) (c2 c3 : Nat) (w : World) (hn : n < 18446744073709551616) (hs : s.size ≤ 140737488351232) (hl2 : head.length ≤ 140737488351232) (hl3 : tail.length ≤ 140737488351232)
    (hr2 : Holds8 w.heap.size w A2 head) (hr3 : Holds8 w.heap.size w A3 tail) (hA2 : A2 = none → c2 = 0) (hA3 : A3 = none → c3 = 0) :
    Calls Try.prog 7 #[.int .u64 (n : Int), .string s, .slice A2 head.length c2, .slice A3 tail.length c3] w fun e w' => e = .returned (.bool true) ∧ Below w.heap.size w w' := by
  obtain ⟨hl, hhl⟩ : ∃ hl, head.length = hl := ⟨_, rfl⟩
  obtain ⟨ml, hml⟩ : ∃ ml, tail.length = ml := ⟨_, rfl⟩
  rw [hhl] at hl2 ⊢
  rw [hml] at hl3 ⊢
  have HH := Lib.hid hhl
  have HM := Lib.hid hml
  have HR2 := Lib.hid hr2
  have HR3 := Lib.hid hr3
  have HA2 := Lib.hid hA2
  have HA3 := Lib.hid hA3
  clear hhl hml hr2 hr3 hA2 hA3
  by_cases h1 : 300 < s.size
  · have d1 : decide ((300 : Int) < s.size) = true := by simp; omega
    go_enter Try.func7, Try.ntmps7
    go_wp2_with fail
    refine (known_any _).mono ?_
    rintro e w1 ⟨rfl, hb1⟩
    go_wp2_with fail
    go_ret
    exact ⟨rfl, hb1⟩
  · have d1 : decide ((300 : Int) < s.size) = false := by simp; omega
    by_cases h2 : 300 < hl + ml
    · have d2 : decide ((300 : Int) < (hl : Int) + (ml : Int)) = true := by simp; omega
      go_enter Try.func7, Try.ntmps7
      go_wp2_with fail
      refine (known_any _).mono ?_
      rintro e w1 ⟨rfl, hb1⟩
      go_wp2_with fail
      go_ret
      exact ⟨rfl, hb1⟩
    · have d2 : decide ((300 : Int) < (hl : Int) + (ml : Int)) = false := by simp; omega
      go_enter Try.func7, Try.ntmps7
      go_wp2_with fail
      refine (known_any _).mono ?_
      rintro e w1 ⟨rfl, hb1⟩
      have HS1 := hb1.size
      go_wp2_with (at_builtin; refine app_bytes rfl (.tmp 34) (.tmp 35) rfl w.heap.size w.heap.size (.slice none 0 0) [] head head hl rfl HH.out rfl (World.ownsRow_nil _ _ _ _) A2 hl c2 rfl HH.out (HR2.out.below hb1) HA2.out (by omega) HS1 ?_; intro V2 C2 w2 hown2 hg2)
      have hB2 := below_grown hb1 HS1 (World.ownsRow_nil w1 w.heap.size 5 1) hg2
      have HS2 := hB2.size
      have HO2 := Lib.hid hown2
      clear hown2 hg2
      refine (put_holds n hn _).mono ?_
      rintro e w3 ⟨A4, c4, rfl, _, _, hr4, hb3⟩
      obtain ⟨pl, hpl⟩ : ∃ pl, (put n).length = pl := ⟨_, rfl⟩
      have hp10 := put_len10 hn
      rw [hpl] at hp10 ⊢
      have HP := Lib.hid hpl
      have HR4 := Lib.hid hr4
      have HO3 := Lib.hid (own_later HO2.out hb3)
      have hB3 := hB2.trans (hb3.mono HS2)
      have HS3 := hB3.size
      have HN4 : Hid (A4 = none → c4 = 0) := Lib.hid (fun h => by
        obtain ⟨_, _, e, _⟩ := HR4.out (by have := put_pos n; omega)
        rw [h] at e; cases e)
      clear hpl hr4 HO2 hb3
      have HZ4 : Hid ((head ++ put n).length = hl + pl) := Lib.hid (by rw [List.length_append, HH.out, HP.out])
      go_wp2_with (at_builtin; refine app_bytes rfl (.tmp 37) (.tmp 39) rfl w.heap.size w3.heap.size (.slice V2 hl C2) head (put n) (head ++ put n) (hl + pl) rfl HZ4.out rfl HO3.out A4 pl c4 rfl HP.out HR4.out HN4.out (by omega) HS3 ?_; intro V4 C4 w4 hown4 hg4)
      have hB4 := below_grown hB3 HS3 HO3.out hg4
      have HS4 := hB4.size
      have HO4 := Lib.hid hown4
      clear hown4 hg4 HO3 HR4 HN4 hB3 HS3
      refine (putText_holds s _ (by omega)).mono ?_
      rintro e w5 ⟨A6, c6, rfl, _, _, hr6, hb5⟩
      obtain ⟨ql, hql⟩ : ∃ ql, (put s.size).length = ql := ⟨_, rfl⟩
      have hq10 := put_len10 (n := s.size) (by omega)
      have hlen : (putText s.data.toList).length = ql + s.size := by rw [← hql]; simp [putText]
      rw [hql] at hq10
      rw [hlen] at ⊢
      have HQ := Lib.hid hql
      have HL6 := Lib.hid hlen
      have HR6 := Lib.hid hr6
      have HO5 := Lib.hid (own_later HO4.out hb5)
      have hB5 := hB4.trans (hb5.mono HS4)
      have HS5 := hB5.size
      have HN6 : Hid (A6 = none → c6 = 0) := Lib.hid (fun h => by
        obtain ⟨_, _, e, _⟩ := HR6.out (by have := put_pos s.size; rw [HL6.out]; have := HQ.out; omega)
        rw [h] at e; cases e)
      clear hql hlen hr6 HO4 hb5 hB4 HS4
      have HZ6 : Hid (((head ++ put n) ++ putText s.data.toList).length = hl + pl + (ql + s.size)) := Lib.hid (by rw [List.length_append, HZ4.out, HL6.out])
      have HZ8 : Hid ((((head ++ put n) ++ putText s.data.toList) ++ tail).length = hl + pl + (ql + s.size) + ml) := Lib.hid (by rw [List.length_append, HZ6.out, HM.out])
      go_wp2_with (first
        | (at_builtin; refine app_bytes rfl (.tmp 43) (.tmp 45) rfl w.heap.size w5.heap.size (.slice V4 (hl + pl) C4) (head ++ put n) (putText s.data.toList) ((head ++ put n) ++ putText s.data.toList) (hl + pl + (ql + s.size)) rfl HZ6.out rfl HO5.out A6 (ql + s.size) c6 rfl HL6.out HR6.out HN6.out (by omega) HS5 ?_; intro V6 C6 w6 hown6 hg6; have hB6 := below_grown hB5 HS5 HO5.out hg6; have HS6 := hB6.size; have HO6 := Lib.hid hown6; clear hown6 hg6)
        | (at_builtin; refine app_bytes rfl (.tmp 49) (.tmp 50) rfl w.heap.size w.heap.size (.slice V6 (hl + pl + (ql + s.size)) C6) ((head ++ put n) ++ putText s.data.toList) tail (((head ++ put n) ++ putText s.data.toList) ++ tail) (hl + pl + (ql + s.size) + ml) rfl HZ8.out rfl HO6.out A3 ml c3 rfl HM.out (HR3.out.below hB6) HA3.out (by omega) HS6 ?_; intro V8 C8 w8 hown8 hg8; have hB8 := below_grown hB6 HS6 HO6.out hg8; have HS8 := hB8.size; have HO8 := Lib.hid hown8; clear hown8 hg8))
      obtain ⟨hc8, hm8, hr8⟩ := own_facts HO8.out
      rw [HZ8.out] at hc8
      have HR8 := Lib.hid hr8
      clear hr8 HO8
      refine (get_found V8 head (putText s.data.toList ++ tail) n pl _ C8 w8 (((head ++ put n) ++ putText s.data.toList) ++ tail) (by simp) HZ8.out hn HH.out HP.out hc8 hm8 HR8.out).mono ?_
      rintro e w9 ⟨rfl, hb9⟩
      have HR9 := Lib.hid (HR8.out.later hb9)
      clear HR8
      go_wp2_with fail
      refine (getText_found V8 (head ++ put n) tail s (hl + pl) ql _ C8 w9 (((head ++ put n) ++ putText s.data.toList) ++ tail) (by simp [putText]) HZ8.out (by omega) HZ4.out HQ.out hc8 hm8 HR9.out).mono ?_
      rintro e w10 ⟨rfl, hb10⟩
      have hfin : Below w.heap.size w w10 := hB8.trans ((hb9.trans (hb10.mono hb9.size)).mono HS8)
      clear HR9 hb9 hb10
      go_wp2_with fail
      go_ret
      exact ⟨rfl, hfin⟩

section
variable {H : Type} {enc : TypeId × Value → H}
theorem arg_extra {W : World} {A : Option Addr} {len cap : Nat} {d : DataW H} {p : List MemPlace} (h : DataW.Trod enc Try.prog W 0 (fun _ => true) true 23 (.slice A len cap) d p) :
    (A = none → cap = 0) ∧ (len = 0 ∨ ∃ el sp, d = .slice el sp ∧ el.length = len) := by
  obtain ⟨fuel, hf⟩ := h
  rcases open_ints Try.underlying23 Try.underlying5 cells_u8 hf with ⟨hcs, hx⟩ | ⟨a, len', cap', zs, hcs, _, hl, hm, hz, hx, hcell, hwz⟩
  · simp [Value.cells] at hcs
    obtain ⟨rfl, rfl, rfl⟩ := hcs
    exact ⟨fun _ => rfl, .inl rfl⟩
  · simp [Value.cells] at hcs
    obtain ⟨rfl, rfl, rfl⟩ := hcs
    simp only [Prod.mk.injEq] at hx
    simp only [if_true] at hz
    refine ⟨fun h => (by cases h), .inr ⟨_, _, hx.1, ?_⟩⟩
    simp [lits]; omega
theorem bytes_u8 : Try.prog.bytesOf 5 = 1 := by kernel_rfl
theorem arg_reach {ts : List TypeId} {ds : List (DataW H)} (hsz : (DataW.weightsEach Try.prog ts ds).all (· ≤ reachBytes) = true) {j len : Nat} {d : DataW H} (hx : len = 0 ∨ ∃ el sp, d = .slice el sp ∧ el.length = len) (ht : ts[j]? = some 23) (hd : ds[j]? = some d) : len ≤ 140737488351232 := by
  rcases hx with h | ⟨el, sp, rfl, hel⟩
  · omega
  · have h := sized_slice hsz ht hd Try.underlying23
    rw [bytes_u8] at h
    have : reachBytes = 140737488351232 := by decide
    omega
end

namespace NumBack
set_option maxRecDepth 100000 in
theorem lifted (os : Os) (started : os.Started) (H : Type) (enc : TypeId × Value → H) :
    ReturnsInHanded {} Try.checked os 7 .any (Rows.numBackSpec.pre6 enc Try.prog Try.f7 Rows.numBackRow.domain false) (Rows.numBackSpec.post enc Try.prog Try.f7 false true false false) := by
  refine returnsInHanded_of_change_sized (C := Try.checked) own started (by kernel_rfl) Try.func7
    (ChangeSpec.witness6 (enc := enc) (C := Try.checked) false ⟨#[], #[.int .u64 0, .string ⟨#[]⟩, .slice none 0 0, .slice none 0 0], []⟩ 8 (by kernel_rfl) (by kernel_rfl) (by kernel_rfl) (by kernel_rfl)) ?_
  intro W base args ds gs before hval0 hW _ hsz _
  have hval : ∀ (j : Nat) t v, Try.f7.params[j]? = some t → args[j]? = some v → Value.okWide Try.prog W .any base t v := hval0
  have hW' := hW
  obtain ⟨p, q, hA0, hV, rfl, _, _⟩ := hW
  have hA : DataW.TrodAll enc Try.prog W 0 (fun _ => true) true Try.f7.params.toList args.toList ds p := hA0
  rw [Try.params7] at hA hval
  obtain ⟨v0, vs0, d0, ds0, p0, q0, hargs, rfl, rfl, h0, r0⟩ := trodAll_cons hA
  obtain ⟨v1, vs1, d1, ds1, p1, q1, rfl, rfl, rfl, h1, r1⟩ := trodAll_cons r0
  obtain ⟨v2, vs2, d2, ds2, p2, q2, rfl, rfl, rfl, h2, r2⟩ := trodAll_cons r1
  obtain ⟨v3, vs3, d3, ds3, p3, q3, rfl, rfl, rfl, h3, r3⟩ := trodAll_cons r2
  obtain ⟨rfl, rfl, rfl⟩ := trodAll_nil r3
  obtain rfl : args = #[v0, v1, v2, v3] := by cases args; simp_all
  obtain ⟨rfl, rfl⟩ := trodVars_none hV
  obtain ⟨a0, rfl, rfl, rfl, w0⟩ := open_int Try.underlying30 (hval 0 30 v0 rfl rfl) h0
  have k0 := wf_u64 w0
  obtain ⟨n0, rfl⟩ : ∃ n : Nat, a0 = n := ⟨a0.toNat, by omega⟩
  obtain ⟨s1, rfl, rfl, rfl, w1⟩ := ChangeMaps.open_string Try.underlying9 (hval 1 9 v1 rfl rfl) h1
  obtain ⟨A2, cs2, cap2, rfl, l2, m2, b2, again2⟩ := arg_bytes (hval 2 23 v2 rfl rfl) h2
  obtain ⟨A3, cs3, cap3, rfl, l3, m3, b3, again3⟩ := arg_bytes (hval 3 23 v3 rfl rfl) h3
  have z1 : s1.size ≤ 140737488351232 := by have h := sized_string hsz (j := 1) rfl rfl; have e : reachBytes = 140737488351232 := (by decide); have e2 : s1.data.toList.length = s1.size := (by simp); omega
  have x2 := arg_extra h2
  have z2 := arg_reach hsz x2.2 (j := 2) rfl rfl
  have x3 := arg_extra h3
  have z3 := arg_reach hsz x3.2 (j := 3) rfl rfl
  clear hA0 hval0
  simp only [List.append_nil, List.nil_append] at hW'
  refine (back_walk n0 s1 A2 A3 cs2 cs3 cap2 cap3 W (by omega) z1 z2 z3 b2 b3 x2.1 x3.1).mono fun e W' ⟨he, hg⟩ => ?_
  subst he
  exact ⟨_, rfl, true_post hW' rfl (by kernel_rfl) Try.underlying4 rfl rfl (fun sp hsp => by have h := (trodAll_cons_mk (shut_int Try.underlying30 w0) (trodAll_cons_mk (ChangeMaps.shut_string Try.underlying9 w1) (trodAll_cons_mk (again2 W' sp hg (fun x hx => hsp x (by simp [hx]))) (trodAll_cons_mk (again3 W' sp hg (fun x hx => hsp x (by simp [hx]))) trodAll_mk0)))); simp only [List.append_nil, List.nil_append] at h; exact h) hg⟩

/-- **NumBack, at every input.** -/
theorem proved : Rows.NumBackSaid :=
  OpenClaim.holds_of_wide 7 Try.f7 rfl rfl rfl rfl rfl rfl rfl ⟨rfl, rfl, rfl, rfl, rfl⟩ rfl rfl rfl rfl rfl (by kernel_rfl) Try.func7 (by kernel_rfl)
    (of_decide_eq_true (by kernel_rfl)) (by unfold Func.isWrapper; first | (rw [if_pos (by decide +kernel)]; kernel_rfl) | (rw [if_neg (by decide +kernel)]; exact ⟨rfl, rfl⟩))
    (fun os started H enc _ => lifted os started H enc)
end NumBack

end Go.Proofs.Ytmgjckgoiieppaa
