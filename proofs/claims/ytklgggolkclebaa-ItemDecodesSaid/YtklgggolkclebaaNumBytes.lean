/-
  Bytes in memory, for every layer that stands on numbers as bytes: what a slice of them holds, later, cut, as a text, appended; what num.Put hands back, read so. No condition; no law's package is named here.
-/
import Derived.WalkKit
import Derived.WalkSpells
import Derived.WalkLawsBesides
import Derived.Lib.Hide
import Derived.Laws.BytesArg
import Derived.Laws.IdiomStrings
import Derived.Laws.AppendOwnNone
import Derived.Test.YtklgggolkclebaaNumGet
namespace Go.Proofs.Ytklgggolkclebaa
open Go.RowKit Go.Proofs.NumMath

theorem ret_i {k : IntKind} {a b : Int} (h : a = b) : Ending.returned (.int k a) = .returned (.int k b) := by rw [h]
theorem Holds8.below {n₀ : Nat} {W W' : World} {A : Option Addr} {cs : List UInt8} (h : Holds8 n₀ W A cs) (hb : Below n₀ W W') : Holds8 n₀ W' A cs := fun h0 => by
  obtain ⟨b, off, e, hlt, hc⟩ := h h0
  exact ⟨b, off, e, hlt, fun j hj => (hb.cell (p := ⟨b, off + j, none⟩) hlt).trans (hc j hj)⟩
theorem getAt_le {cs : List UInt8} {i : Int} {n to : Nat} (h : getAt cs i = (n, to, 0)) : to ≤ cs.length ∧ n < 18446744073709551616 := by
  unfold getAt at h
  by_cases h0 : i < 0 ∨ (cs.length : Int) < i
  · rw [if_pos h0] at h; simp at h
  · rw [if_neg h0] at h
    generalize hs : scan 0 0 (cs.drop i.toNat) = r at h
    obtain ⟨a, s, e⟩ := r
    by_cases he : e = 0
    · subst he
      simp at h
      obtain ⟨m, _, e1, e2, _, e4, _, e6⟩ := scan_inv _ 0 0 _ _ (by omega) hs
      simp at e1 e2 e4 e6
      omega
    · simp [he] at h
theorem Holds8.mono {n₀ n₁ : Nat} {W : World} {A : Option Addr} {cs : List UInt8} (h : Holds8 n₀ W A cs) (hn : n₀ ≤ n₁) : Holds8 n₁ W A cs := fun h0 => by
  obtain ⟨b, off, e, hlt, hc⟩ := h h0
  exact ⟨b, off, e, by omega, hc⟩
theorem Holds8.later {W W' : World} {A : Option Addr} {cs : List UInt8} (h : Holds8 W.heap.size W A cs) (hb : Below W.heap.size W W') : Holds8 W'.heap.size W' A cs := (h.below hb).mono hb.size
theorem Holds8.take {n₀ : Nat} {W : World} {A : Option Addr} {cs : List UInt8} (h : Holds8 n₀ W A cs) (k : Nat) : Holds8 n₀ W A (cs.take k) := fun h0 => by
  obtain ⟨b, off, e, hlt, hc⟩ := h (by simp at h0; omega)
  refine ⟨b, off, e, hlt, fun j hj => ?_⟩
  simp at hj
  rw [hc j (by omega)]
  simp [show j < k by omega]
/-- What owns bytes holds them. -/
theorem holds_of_own {W : World} {base : Nat} {v : Value} {cs : List UInt8} {e : TypeId} (h : W.ownsRow base e 1 v cs.length (cs.map b8)) :
    ∃ A cap, v = .slice A cs.length cap ∧ cs.length ≤ cap ∧ cap ≤ 9223372036854775807 ∧ Holds8 W.heap.size W A cs := by
  rcases h.2 with ⟨rfl, h0⟩ | ⟨g, cap, cur, rfl, hb, hg, hn, hc, hs, ht⟩
  · have : cs = [] := List.eq_nil_of_length_eq_zero h0
    subst this
    exact ⟨none, 0, rfl, by simp, by omega, fun h => absurd h (by simp)⟩
  · refine ⟨some ⟨g, 0, none⟩, cap, rfl, hn, by unfold maxLen at hc; exact hc, fun _ => ⟨g, 0, rfl, (Array.getElem?_eq_some_iff.1 hg).1, fun j hj => ?_⟩⟩
    have := h.cellAt j (by simpa using hj)
    rw [Nat.zero_add, this]
    simp [hj]
/-- num.Put, its result read as bytes. -/
theorem put_holds (m : Nat) (hm : m < 18446744073709551616) (w : World) :
    Calls Try.prog 49 #[.int .u64 (m : Int)] w fun e w' => ∃ A cap, e = .returned (.slice A (put m).length cap) ∧ (put m).length ≤ cap ∧ cap ≤ 9223372036854775807 ∧ Holds8 w'.heap.size w' A (put m) ∧ Below w.heap.size w w' :=
  (put_any m hm w).mono fun e w' ⟨v, he, ho, hb⟩ => by
    obtain ⟨A, cap, rfl, h1, h2, h3⟩ := holds_of_own ho
    exact ⟨A, cap, he, h1, h2, h3, hb⟩
theorem b8_one (ys : List UInt8) : ∀ u ∈ ys.map b8, u.oneCell' = true := by
  intro u hu
  obtain ⟨c, _, rfl⟩ := List.mem_map.1 hu
  rfl
theorem below_grown {base : Nat} {w0 w w' : World} {e : TypeId} {v : Value} {n : Nat} {xs : List Value} (hb : Below base w0 w) (hw : base ≤ w.heap.size) (ho : w.ownsRow base e 1 v n xs) (hg : w.grownBy w' v.ownBlock) : Below base w0 w' := by
  refine hb.grown hg hw (fun k hk => ?_)
  rcases ho.2 with ⟨rfl, _⟩ | ⟨g, cap, cur, rfl, hgb, _⟩
  · simp [Value.ownBlock] at hk
  · obtain rfl : g = k := by simpa [Value.ownBlock] using hk
    exact hgb
theorem own_later {base : Nat} {w w' : World} {e : TypeId} {v : Value} {n : Nat} {xs : List Value} (ho : w.ownsRow base e 1 v n xs) (hb : Below w.heap.size w w') : w'.ownsRow base e 1 v n xs := by
  refine ho.kept (row := none) ⟨hb.os, hb.tape, hb.output, hb.size, fun i hi _ => hb.block i hi⟩ ?_
  cases v.ownBlock <;> simp
/-- 'append(b, ys...)': b the call's own, ys nil, empty or not. -/
theorem app_bytes {w : World} {ops : Array Oper} {rest : List Oper} {o : Oper} {a : Act} {Q : Exit → Act → World → Prop} (hgd : o.guard = none) (s x : Operand)
    (ho : o.op = .call { callee := .builtin .append, args := #[s, x], argTypes := #[22, 22] })
    (base n₀ : Nat) (v : Value) (xs ys zs : List UInt8) (k : Nat) (hz : zs = xs ++ ys) (hk : zs.length = k) (hs : a.eval s = v) (hown : w.ownsRow base 5 1 v xs.length (xs.map b8))
    (A : Option Addr) (m c : Nat) (hx : a.eval x = .slice A m c) (hm : ys.length = m) (hr : Holds8 n₀ w A ys) (hA : A = none → c = 0) (hbound : k ≤ 1000000) (hbase : base ≤ w.heap.size)
    (h : ∀ A' c' w', w'.ownsRow base 5 1 (.slice A' k c') zs.length (zs.map b8) → w.grownBy w' v.ownBlock → wpList Try.prog ops Q rest (a.put o.dst (.slice A' k c')) w') : wpList Try.prog ops Q (o :: rest) a w := by
  obtain ⟨i0, hi, hz0, hz1, hz2⟩ := info_parts info_u8
  subst hz hm
  have hkl : xs.length + ys.length = k := by rw [← hk]; simp
  have fin : ∀ v' w', w'.ownsRow base 5 1 v' (xs ++ ys).length ((xs ++ ys).map b8) → w.grownBy w' v.ownBlock → wpList Try.prog ops Q rest (a.put o.dst v') w' := fun v' w' h1 h2 => by
    obtain ⟨A', c', e, _⟩ := holds_of_own h1
    rw [hk] at e
    subst e
    exact h A' c' w' h1 h2
  rcases A with _ | ad
  · have hy : ys = [] := by
      rcases Nat.eq_zero_or_pos ys.length with h0 | h0
      · exact List.eq_nil_of_length_eq_zero h0
      · obtain ⟨_, _, e, _⟩ := hr h0
        cases e
    subst hy
    obtain rfl := hA rfl
    refine wpList_append_own_none hgd s x 22 ho base 5 i0 1 Try.underlying22 hi v _ _ hs hown hx (fin v w ?_ ⟨rfl, rfl, rfl, Nat.le_refl _, fun _ _ _ => rfl⟩)
    simpa using hown
  · refine wpList_append_own w hgd s x 22 ho base 5 i0 (.int .u8 0) 1 1 Try.underlying22 hi hz0 hz1 hz2 rfl (by decide) v _ _ hs hown ad ys.length c (ys.map b8) hx (by simp) ?_ (b8_one ys) (by unfold maxLen; omega) (by omega) hbase ?_
    · intro j u hu
      have hj : j < ys.length := by
        have := (List.getElem?_eq_some_iff.1 hu).1
        simpa using this
      obtain ⟨b, off, e, _, hc⟩ := hr (by omega)
      cases e
      have hp : (⟨b, off, none⟩ : Addr).add j = ⟨b, off + j, none⟩ := by unfold Addr.add; split <;> simp_all
      rw [hp, hc j hj, ← hu]
      simp [hj]
    · intro v' w' h1 h2 _
      refine fin v' w' ?_ h2
      simpa using h1
theorem own_facts {W : World} {base k c : Nat} {A : Option Addr} {cs : List UInt8} {e : TypeId} (h : W.ownsRow base e 1 (.slice A k c) cs.length (cs.map b8)) : cs.length ≤ c ∧ c ≤ 9223372036854775807 ∧ Holds8 W.heap.size W A cs := by
  obtain ⟨A', c', e', h1, h2, h3⟩ := holds_of_own h
  injection e' with e1 _ e3
  subst e1 e3
  exact ⟨h1, h2, h3⟩
theorem undrewn {B : Nat} {a b : World} (h : Below B a.drew b) : Below B a b := ⟨h.os, h.tape, h.output, h.size, h.block⟩
/-- 'string(b[lo:hi])' of a slice of bytes. -/
theorem window_all (A : Option Addr) (cs : List UInt8) (cap lo n : Nat) (hn : lo + n ≤ cs.length) (hl : cs.length ≤ cap) :
    ∃ A' : Option Addr, (∀ w : World, (Instr.slice 22 (.slice A cs.length cap) (some (.int .i64 (lo : Int))) (some (.int .i64 ((lo : Int) + (n : Int)))) none).run Try.prog w = .ok (.slice A' n (cap - lo)) w) ∧
      ∀ (W : World) (n₀ : Nat), Holds8 n₀ W A cs → (convert 22 9 (.slice A' n (cap - lo))).run Try.prog W = .ok (.string ⟨((cs.drop lo).take n).toArray⟩) W := by
  refine ⟨if cap = lo then A else A.map (·.add (lo * 1)), fun w => ?_, fun W n₀ hr => ?_⟩
  · rw [run_slice_lh w 22 A cs.length cap (by kernel_rfl) .i64 .i64 (lo : Int) ((lo : Int) + (n : Int)) (by omega) (by omega) (by omega)]
    have hz : (sizeOf (Try.prog.elem 22)).run Try.prog w = .ok 1 w := by kernel_rfl
    rw [hz]
    have e1 : ((lo : Int) + (n : Int)).toNat = lo + n := by omega
    simp only [sliced, Result.andThen, Int.toNat_natCast, e1, Nat.add_sub_cancel_left]
  · by_cases h0 : n = 0
    · subst h0
      simp only [List.take_zero]
      generalize (if cap = lo then A else A.map (·.add (lo * 1))) = X
      rcases X with _ | a
      · rw [run_convert_bytes_nil W 22 5 Try.underlying22 Try.underlying5 0 (cap - lo) 9 Try.underlying9]; rfl
      · exact run_convert_bytes_back W 22 9 5 a (cap - lo) [] Try.underlying22 Try.underlying5 Try.underlying9 (fun j hj => absurd hj (by simp))
    · obtain ⟨b, off, rfl, hb, hc⟩ := hr (by omega)
      rw [if_neg (by omega)]
      have hlen : ((cs.drop lo).take n).length = n := by simp; omega
      have := run_convert_bytes_back (P := Try.prog) W 22 9 5 (Addr.add ⟨b, off, none⟩ (lo * 1)) (cap - lo) ((cs.drop lo).take n) Try.underlying22 Try.underlying5 Try.underlying9 (fun j hj => by
        rw [hlen] at hj
        have e : (Addr.add ⟨b, off, none⟩ (lo * 1)).add j = ⟨b, off + (lo + j), none⟩ := by
          unfold Addr.add
          by_cases h1 : lo = 0 <;> by_cases h2 : j = 0 <;> simp [h1, h2, Nat.add_assoc]
        rw [e, hc (lo + j) (by omega)]
        simp [b8, show lo + j < cs.length by omega])
      rw [hlen] at this
      exact this
/-- 'string(b)' of a slice of bytes. -/
theorem text_run (A : Option Addr) (cs : List UInt8) (len cap : Nat) (W : World) (n₀ : Nat) (hlen : cs.length = len) (hr : Holds8 n₀ W A cs) :
    (convert 22 9 (.slice A len cap)).run Try.prog W = .ok (.string ⟨cs.toArray⟩) W := by
  subst hlen
  rcases A with _ | a
  · have hy : cs = [] := by
      rcases Nat.eq_zero_or_pos cs.length with h0 | h0
      · exact List.eq_nil_of_length_eq_zero h0
      · obtain ⟨_, _, e, _⟩ := hr h0
        cases e
    subst hy
    rw [run_convert_bytes_nil W 22 5 Try.underlying22 Try.underlying5 _ cap 9 Try.underlying9]; rfl
  · refine run_convert_bytes_back W 22 9 5 a cap cs Try.underlying22 Try.underlying5 Try.underlying9 (fun j hj => ?_)
    obtain ⟨b, off, e, _, hc⟩ := hr (by omega)
    cases e
    have hp : (⟨b, off, none⟩ : Addr).add j = ⟨b, off + j, none⟩ := by unfold Addr.add; split <;> simp_all
    rw [hp, hc j hj]
    simp [b8, hj]

end Go.Proofs.Ytklgggolkclebaa
