/-
  Bytes in memory, for any layer: what a slice of them holds, later, cut, as a text, appended; an argument that is a slice of bytes, opened and read again.
-/
import Derived.WalkKit
import Derived.WalkSpells
import Derived.WalkLawsBesides
import Derived.Lib.Hide
import Derived.Laws.BytesArg
import Derived.Laws.IdiomStrings
import Derived.Laws.AppendOwnNone
import Derived.Test.YthpcnnkdpgjiiaaLift0
namespace Go.Proofs.Ythpcnnkdpgjiiaa
open Go.ChangeShapes Go.WideShapes Go.ChangeAt Go.RowKit

/-- A byte as a value. -/
def b8 (c : UInt8) : Value := .int .u8 (c.toNat : Int)
theorem cells_u8 : Try.prog.cellsOf 5 = 1 := by kernel_rfl
theorem info_u8 : (Try.prog.info? 5).map (fun i => (i.zero, i.size, i.bytes)) = some (some (.int .u8 0), 1, 1) := by kernel_rfl

/-- The slice value holds the bytes cs, below n₀. -/
def Holds8 (n₀ : Nat) (W : World) (A : Option Addr) (cs : List UInt8) : Prop :=
  0 < cs.length → ∃ b off, A = some ⟨b, off, none⟩ ∧ b < n₀ ∧ ∀ j, j < cs.length → W.cell? ⟨b, off + j, none⟩ = some (b8 (cs.getD j 0))

theorem Holds8.below {n₀ : Nat} {W W' : World} {A : Option Addr} {cs : List UInt8} (h : Holds8 n₀ W A cs) (hb : Below n₀ W W') : Holds8 n₀ W' A cs := fun h0 => by
  obtain ⟨b, off, e, hlt, hc⟩ := h h0
  exact ⟨b, off, e, hlt, fun j hj => (hb.cell (p := ⟨b, off + j, none⟩) hlt).trans (hc j hj)⟩
theorem Holds8.mono {n₀ n₁ : Nat} {W : World} {A : Option Addr} {cs : List UInt8} (h : Holds8 n₀ W A cs) (hn : n₀ ≤ n₁) : Holds8 n₁ W A cs := fun h0 => by
  obtain ⟨b, off, e, hlt, hc⟩ := h h0
  exact ⟨b, off, e, by omega, hc⟩
theorem Holds8.later {W W' : World} {A : Option Addr} {cs : List UInt8} (h : Holds8 W.heap.size W A cs) (hb : Below W.heap.size W W') : Holds8 W'.heap.size W' A cs := (h.below hb).mono hb.size
theorem Holds8.take {n₀ : Nat} {W : World} {A : Option Addr} {cs : List UInt8} (h : Holds8 n₀ W A cs) (k : Nat) : Holds8 n₀ W A (cs.take k) := fun h0 => by
  obtain ⟨b, off, e, hlt, hc⟩ := h (by simp at h0; omega)
  refine ⟨b, off, e, hlt, fun j hj => ?_⟩
  simp at hj
  rw [hc j (by omega)]
  simp [show j < k by omega]
/-- What owns bytes holds them. -/
theorem holds_of_own {W : World} {base : Nat} {v : Value} {cs : List UInt8} {e : TypeId} (h : W.ownsRow base e 1 v cs.length (cs.map b8)) :
    ∃ A cap, v = .slice A cs.length cap ∧ cs.length ≤ cap ∧ cap ≤ 9223372036854775807 ∧ Holds8 W.heap.size W A cs := by
  rcases h.2 with ⟨rfl, h0⟩ | ⟨g, cap, cur, rfl, hb, hg, hn, hc, hs, ht⟩
  · have : cs = [] := List.eq_nil_of_length_eq_zero h0
    subst this
    exact ⟨none, 0, rfl, by simp, by omega, fun h => absurd h (by simp)⟩
  · refine ⟨some ⟨g, 0, none⟩, cap, rfl, hn, by unfold maxLen at hc; exact hc, fun _ => ⟨g, 0, rfl, (Array.getElem?_eq_some_iff.1 hg).1, fun j hj => ?_⟩⟩
    have := h.cellAt j (by simpa using hj)
    rw [Nat.zero_add, this]
    simp [hj]
theorem b8_one (ys : List UInt8) : ∀ u ∈ ys.map b8, u.oneCell' = true := by
  intro u hu
  obtain ⟨c, _, rfl⟩ := List.mem_map.1 hu
  rfl
theorem below_grown {base : Nat} {w0 w w' : World} {e : TypeId} {v : Value} {n : Nat} {xs : List Value} (hb : Below base w0 w) (hw : base ≤ w.heap.size) (ho : w.ownsRow base e 1 v n xs) (hg : w.grownBy w' v.ownBlock) : Below base w0 w' := by
  refine hb.grown hg hw (fun k hk => ?_)
  rcases ho.2 with ⟨rfl, _⟩ | ⟨g, cap, cur, rfl, hgb, _⟩
  · simp [Value.ownBlock] at hk
  · obtain rfl : g = k := by simpa [Value.ownBlock] using hk
    exact hgb
theorem own_later {base : Nat} {w w' : World} {e : TypeId} {v : Value} {n : Nat} {xs : List Value} (ho : w.ownsRow base e 1 v n xs) (hb : Below w.heap.size w w') : w'.ownsRow base e 1 v n xs := by
  refine ho.kept (row := none) ⟨hb.os, hb.tape, hb.output, hb.size, fun i hi _ => hb.block i hi⟩ ?_
  cases v.ownBlock <;> simp
/-- 'append(b, ys...)': b the call's own, ys nil, empty or not. -/
theorem app_bytes {w : World} {ops : Array Oper} {rest : List Oper} {o : Oper} {a : Act} {Q : Exit → Act → World → Prop} (hgd : o.guard = none) (s x : Operand)
    (ho : o.op = .call { callee := .builtin .append, args := #[s, x], argTypes := #[22, 22] })
    (base n₀ : Nat) (v : Value) (xs ys zs : List UInt8) (k : Nat) (hz : zs = xs ++ ys) (hk : zs.length = k) (hs : a.eval s = v) (hown : w.ownsRow base 5 1 v xs.length (xs.map b8))
    (A : Option Addr) (m c : Nat) (hx : a.eval x = .slice A m c) (hm : ys.length = m) (hr : Holds8 n₀ w A ys) (hA : A = none → c = 0) (hbound : k ≤ 1000000) (hbase : base ≤ w.heap.size)
    (h : ∀ A' c' w', w'.ownsRow base 5 1 (.slice A' k c') zs.length (zs.map b8) → w.grownBy w' v.ownBlock → wpList Try.prog ops Q rest (a.put o.dst (.slice A' k c')) w') : wpList Try.prog ops Q (o :: rest) a w := by
  obtain ⟨i0, hi, hz0, hz1, hz2⟩ := info_parts info_u8
  subst hz hm
  have hkl : xs.length + ys.length = k := by rw [← hk]; simp
  have fin : ∀ v' w', w'.ownsRow base 5 1 v' (xs ++ ys).length ((xs ++ ys).map b8) → w.grownBy w' v.ownBlock → wpList Try.prog ops Q rest (a.put o.dst v') w' := fun v' w' h1 h2 => by
    obtain ⟨A', c', e, _⟩ := holds_of_own h1
    rw [hk] at e
    subst e
    exact h A' c' w' h1 h2
  rcases A with _ | ad
  · have hy : ys = [] := by
      rcases Nat.eq_zero_or_pos ys.length with h0 | h0
      · exact List.eq_nil_of_length_eq_zero h0
      · obtain ⟨_, _, e, _⟩ := hr h0
        cases e
    subst hy
    obtain rfl := hA rfl
    refine wpList_append_own_none hgd s x 22 ho base 5 i0 1 Try.underlying22 hi v _ _ hs hown hx (fin v w ?_ ⟨rfl, rfl, rfl, Nat.le_refl _, fun _ _ _ => rfl⟩)
    simpa using hown
  · refine wpList_append_own w hgd s x 22 ho base 5 i0 (.int .u8 0) 1 1 Try.underlying22 hi hz0 hz1 hz2 rfl (by decide) v _ _ hs hown ad ys.length c (ys.map b8) hx (by simp) ?_ (b8_one ys) (by unfold maxLen; omega) (by omega) hbase ?_
    · intro j u hu
      have hj : j < ys.length := by
        have := (List.getElem?_eq_some_iff.1 hu).1
        simpa using this
      obtain ⟨b, off, e, _, hc⟩ := hr (by omega)
      cases e
      have hp : (⟨b, off, none⟩ : Addr).add j = ⟨b, off + j, none⟩ := by unfold Addr.add; split <;> simp_all
      rw [hp, hc j hj, ← hu]
      simp [hj]
    · intro v' w' h1 h2 _
      refine fin v' w' ?_ h2
      simpa using h1
theorem own_facts {W : World} {base k c : Nat} {A : Option Addr} {cs : List UInt8} {e : TypeId} (h : W.ownsRow base e 1 (.slice A k c) cs.length (cs.map b8)) : cs.length ≤ c ∧ c ≤ 9223372036854775807 ∧ Holds8 W.heap.size W A cs := by
  obtain ⟨A', c', e', h1, h2, h3⟩ := holds_of_own h
  injection e' with e1 _ e3
  subst e1 e3
  exact ⟨h1, h2, h3⟩
theorem undrewn {B : Nat} {a b : World} (h : Below B a.drew b) : Below B a b := ⟨h.os, h.tape, h.output, h.size, h.block⟩
/-- 'string(b[lo:hi])' of a slice of bytes. -/
theorem window_all (A : Option Addr) (cs : List UInt8) (cap lo n : Nat) (hn : lo + n ≤ cs.length) (hl : cs.length ≤ cap) :
    ∃ A' : Option Addr, (∀ w : World, (Instr.slice 22 (.slice A cs.length cap) (some (.int .i64 (lo : Int))) (some (.int .i64 ((lo : Int) + (n : Int)))) none).run Try.prog w = .ok (.slice A' n (cap - lo)) w) ∧
      ∀ (W : World) (n₀ : Nat), Holds8 n₀ W A cs → (convert 22 9 (.slice A' n (cap - lo))).run Try.prog W = .ok (.string ⟨((cs.drop lo).take n).toArray⟩) W := by
  refine ⟨if cap = lo then A else A.map (·.add (lo * 1)), fun w => ?_, fun W n₀ hr => ?_⟩
  · rw [run_slice_lh w 22 A cs.length cap (by kernel_rfl) .i64 .i64 (lo : Int) ((lo : Int) + (n : Int)) (by omega) (by omega) (by omega)]
    have hz : (sizeOf (Try.prog.elem 22)).run Try.prog w = .ok 1 w := by kernel_rfl
    rw [hz]
    have e1 : ((lo : Int) + (n : Int)).toNat = lo + n := by omega
    simp only [sliced, Result.andThen, Int.toNat_natCast, e1, Nat.add_sub_cancel_left]
  · by_cases h0 : n = 0
    · subst h0
      simp only [List.take_zero]
      generalize (if cap = lo then A else A.map (·.add (lo * 1))) = X
      rcases X with _ | a
      · rw [run_convert_bytes_nil W 22 5 Try.underlying22 Try.underlying5 0 (cap - lo) 9 Try.underlying9]; rfl
      · exact run_convert_bytes_back W 22 9 5 a (cap - lo) [] Try.underlying22 Try.underlying5 Try.underlying9 (fun j hj => absurd hj (by simp))
    · obtain ⟨b, off, rfl, hb, hc⟩ := hr (by omega)
      rw [if_neg (by omega)]
      have hlen : ((cs.drop lo).take n).length = n := by simp; omega
      have := run_convert_bytes_back (P := Try.prog) W 22 9 5 (Addr.add ⟨b, off, none⟩ (lo * 1)) (cap - lo) ((cs.drop lo).take n) Try.underlying22 Try.underlying5 Try.underlying9 (fun j hj => by
        rw [hlen] at hj
        have e : (Addr.add ⟨b, off, none⟩ (lo * 1)).add j = ⟨b, off + (lo + j), none⟩ := by
          unfold Addr.add
          by_cases h1 : lo = 0 <;> by_cases h2 : j = 0 <;> simp [h1, h2, Nat.add_assoc]
        rw [e, hc (lo + j) (by omega)]
        simp [b8, show lo + j < cs.length by omega])
      rw [hlen] at this
      exact this
/-- 'string(b)' of a slice of bytes. -/
theorem text_run (A : Option Addr) (cs : List UInt8) (len cap : Nat) (W : World) (n₀ : Nat) (hlen : cs.length = len) (hr : Holds8 n₀ W A cs) :
    (convert 22 9 (.slice A len cap)).run Try.prog W = .ok (.string ⟨cs.toArray⟩) W := by
  subst hlen
  rcases A with _ | a
  · have hy : cs = [] := by
      rcases Nat.eq_zero_or_pos cs.length with h0 | h0
      · exact List.eq_nil_of_length_eq_zero h0
      · obtain ⟨_, _, e, _⟩ := hr h0
        cases e
    subst hy
    rw [run_convert_bytes_nil W 22 5 Try.underlying22 Try.underlying5 _ cap 9 Try.underlying9]; rfl
  · refine run_convert_bytes_back W 22 9 5 a cap cs Try.underlying22 Try.underlying5 Try.underlying9 (fun j hj => ?_)
    obtain ⟨b, off, e, _, hc⟩ := hr (by omega)
    cases e
    have hp : (⟨b, off, none⟩ : Addr).add j = ⟨b, off + j, none⟩ := by unfold Addr.add; split <;> simp_all
    rw [hp, hc j hj]
    simp [b8, hj]


theorem list_data (s : ByteArray) : s.toList = s.data.toList := ByteArray.toList_eq ..
theorem empty_of {s : ByteArray} (h : s.size = 0) : s.toList.isEmpty = true := by
  rw [list_data, List.isEmpty_iff_length_eq_zero]; simpa using h
theorem full_of {s : ByteArray} (h : s.size ≠ 0) : s.toList.isEmpty = false := by
  cases e : s.toList.isEmpty
  · rfl
  · rw [list_data, List.isEmpty_iff_length_eq_zero] at e
    exact absurd (by simpa using e) h
/-- '[]byte(s)'. -/
theorem text_bytes (s : ByteArray) (w : World) : ∃ cap w1, (convert 9 22 (.string s)).run Try.prog w = .ok (.slice (some ⟨w.heap.size, 0, none⟩) s.size cap) w1 ∧ Below w.heap.size w w1 ∧
    (∀ j, j < s.size → w1.cell? ⟨w.heap.size, j, none⟩ = some (b8 (s.data.toList.getD j 0))) ∧ Holds8 w1.heap.size w1 (some ⟨w.heap.size, 0, none⟩) s.data.toList := by
  have hcell : ∀ cap fr j, j < s.size → (w.drew.alloc (.cells (bytesRow s cap) 5 fr)).cell? ⟨w.heap.size, j, none⟩ = some (b8 (s.data.toList.getD j 0)) := fun cap fr j hj => by
    have h1 := World.cell?_alloc_mark w.drew (bytesRow s cap) 5 fr j
    have h2 : w.drew.heap.size = w.heap.size := rfl
    rw [h2] at h1
    have hj' : j < s.data.size := hj
    rw [h1, bytesRow_at s cap j hj']
    simp only [b8, List.getD_eq_getElem?_getD, Array.getElem?_toList, Array.getElem?_eq_getElem hj', Option.getD_some]
  refine ⟨_, _, run_bytes_of_string w 9 22 5 s Try.underlying9 Try.underlying22 Try.underlying5, undrewn ((Below.refl _ w.drew).alloc (Nat.le_refl _) _), fun j hj => hcell _ _ j hj, fun _ => ⟨w.heap.size, 0, rfl, ?_, fun j hj => ?_⟩⟩
  · have : w.drew.heap.size = w.heap.size := rfl
    rw [World.size_alloc, this]; omega
  · rw [Nat.zero_add]
    exact hcell _ _ j (by simpa using hj)

theorem size_list (s : ByteArray) : s.data.toList.length = s.size := by simp

section
variable {H : Type} {enc : TypeId × Value → H}

set_option maxRecDepth 100000 in
/-- An argument that is a slice of bytes: what it holds; it reads again wherever what lay lies on. -/
theorem arg_bytes {W : World} {base : Nat} {v : Value} {d : DataW H} {p : List MemPlace} (hval : Value.okWide Try.prog W .any base 22 v) (h : DataW.Trod enc Try.prog W 0 (fun _ => true) true 22 v d p) :
    ∃ (A : Option Addr) (cs : List UInt8) (cap : Nat), v = .slice A cs.length cap ∧ cs.length ≤ cap ∧ cap ≤ 9223372036854775807 ∧ Holds8 W.heap.size W A cs ∧
      ∀ (W' : World) (sp : Nat → Bool), Below W.heap.size W W' → (∀ q ∈ p, sp q.block = true) → DataW.Trod enc Try.prog W' 0 sp true 22 v d p := by
  obtain ⟨a0, len, cap, rfl⟩ := okWide_slice Try.underlying22 hval
  obtain ⟨fuel, hf⟩ := h
  rcases open_ints Try.underlying22 Try.underlying5 cells_u8 hf with ⟨hcs, hx⟩ | ⟨a, len', cap', zs, hcs, _, hl, hm, hz, hx, hcell, hwz⟩
  · simp [Value.cells] at hcs
    obtain ⟨rfl, rfl, rfl⟩ := hcs
    simp only [Prod.mk.injEq] at hx
    obtain ⟨rfl, rfl⟩ := hx
    exact ⟨none, [], 0, rfl, by simp, by omega, fun h => absurd h (by simp), fun W' sp _ _ => shut_slice_nil Try.underlying22⟩
  · simp [Value.cells] at hcs
    obtain ⟨rfl, rfl, rfl⟩ := hcs
    simp only [Prod.mk.injEq] at hx
    obtain ⟨rfl, rfl⟩ := hx
    simp only [if_true] at hz
    have hlen : ((zs.take len).map fun n => UInt8.ofNat n.toNat).length = len := by simp; omega
    unfold maxLen at hm
    have hlt : ∀ i, i < zs.length → a.block < W.heap.size := fun i hi => by
      have h1 := hcell i hi
      have h2 : (a.add i).block = a.block := by unfold Addr.add; split <;> rfl
      rcases Nat.lt_or_ge a.block W.heap.size with h3 | h3
      · exact h3
      · simp [World.cell?, h2, Array.getElem?_eq_none h3] at h1
    refine ⟨some a, (zs.take len).map fun n => UInt8.ofNat n.toNat, cap, by rw [hlen], by rw [hlen]; exact hl, hm, fun h0 => ?_, fun W' sp hb hsp => ⟨2, ?_⟩⟩
    · rw [hlen] at h0
      obtain ⟨b, off, spot⟩ := a
      have hspot : spot = none := by simpa [Addr.add] using World.cell?_spot (hcell 0 (by omega))
      subst hspot
      refine ⟨b, off, rfl, hlt 0 (by omega), fun j hj => ?_⟩
      rw [hlen] at hj
      rw [← add_plain, hcell j (by omega)]
      have hjz : j < zs.length := by omega
      have hw := wf_u8 (hwz (zs[j]) (List.getElem_mem hjz))
      have e1 : zs.getD j 0 = zs[j] := by simp [List.getD, hjz]
      have e2 : ((zs.take len).map fun n => UInt8.ofNat n.toNat).getD j 0 = UInt8.ofNat (zs[j]).toNat := by
        simp [List.getD, hj, hjz]
      rw [e1, e2, b8]
      have e3 : ((UInt8.ofNat (zs[j]).toNat).toNat : Int) = zs[j] := by simp; omega
      rw [e3]
    · refine shut_ints 0 Try.underlying22 Try.underlying5 cells_u8 (Nat.zero_le _) hl (by unfold maxLen; exact hm) ?_ (fun i hi => ?_) hwz
      · by_cases h0 : zs.length = 0
        · rw [h0]; split <;> omega
        · have : sp a.block = true := hsp (.cell a.block a.off) (MemPlace.mem_row.2 ⟨0, by omega, rfl⟩)
          rw [if_pos this]; exact hz
      · have h2 : (a.add i).block < W.heap.size := by
          have : (a.add i).block = a.block := by unfold Addr.add; split <;> rfl
          rw [this]; exact hlt i hi
        exact (hb.cell h2).trans (hcell i hi)

theorem arg_extra {W : World} {A : Option Addr} {len cap : Nat} {d : DataW H} {p : List MemPlace} (h : DataW.Trod enc Try.prog W 0 (fun _ => true) true 22 (.slice A len cap) d p) :
    (A = none → cap = 0) ∧ (len = 0 ∨ ∃ el sp, d = .slice el sp ∧ el.length = len) := by
  obtain ⟨fuel, hf⟩ := h
  rcases open_ints Try.underlying22 Try.underlying5 cells_u8 hf with ⟨hcs, hx⟩ | ⟨a, len', cap', zs, hcs, _, hl, hm, hz, hx, hcell, hwz⟩
  · simp [Value.cells] at hcs
    obtain ⟨rfl, rfl, rfl⟩ := hcs
    exact ⟨fun _ => rfl, .inl rfl⟩
  · simp [Value.cells] at hcs
    obtain ⟨rfl, rfl, rfl⟩ := hcs
    simp only [Prod.mk.injEq] at hx
    simp only [if_true] at hz
    refine ⟨fun h => (by cases h), .inr ⟨_, _, hx.1, ?_⟩⟩
    simp [lits]; omega
theorem bytes_u8 : Try.prog.bytesOf 5 = 1 := by kernel_rfl
theorem arg_reach {ts : List TypeId} {ds : List (DataW H)} (hsz : (DataW.weightsEach Try.prog ts ds).all (· ≤ reachBytes) = true) {j len : Nat} {d : DataW H} (hx : len = 0 ∨ ∃ el sp, d = .slice el sp ∧ el.length = len) (ht : ts[j]? = some 22) (hd : ds[j]? = some d) : len ≤ 140737488351232 := by
  rcases hx with h | ⟨el, sp, rfl, hel⟩
  · omega
  · have h := sized_slice hsz ht hd Try.underlying22
    rw [bytes_u8] at h
    have : reachBytes = 140737488351232 := by decide
    omega
end

end Go.Proofs.Ythpcnnkdpgjiiaa
