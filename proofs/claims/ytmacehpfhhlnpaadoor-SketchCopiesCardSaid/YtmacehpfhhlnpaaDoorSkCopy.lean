/-
  What sketch's Copy does: another one, in blocks of its own, that has counted the same.
-/
import Derived.StillTailTactics
import Derived.Test.YtmacehpfhhlnpaaDoorSkKnown
namespace Go.Proofs.YtmacehpfhhlnpaaDoor
open Go.RowKit Go.Proofs.HashMath Go.Proofs.SkMath

/-- The first k rows of it. -/
def part (f : Nat → Nat → Nat) (k i j : Nat) : Nat := if i < k then f i j else 0
theorem part_next (f : Nat → Nat → Nat) (k : Nat) : (fun i j => if i = k then f i j else part f k i j) = part f (k + 1) := by
  funext i j
  unfold part
  by_cases e : i = k
  · rw [if_pos e, if_pos (by omega)]
  · rw [if_neg e]
    by_cases h : i < k
    · rw [if_pos h, if_pos (by omega)]
    · rw [if_neg h, if_neg (by omega)]
theorem Blk.cell_iff {W : World} {g : Nat} {C : Array Value} {T : TypeId} (h : Blk W g C T) (j : Nat) : W.cell? ⟨g, j, none⟩ = C[j]? := by
  unfold Blk at h
  simp [World.cell?, h]
/-- One row of cells goes over. -/
theorem copy_step {w : World} {ops : Array Oper} {rest : List Oper} {o : Oper} {a : Act} {Q : Exit → Act → World → Prop} (hgd : o.guard = none) (d s : Operand)
    (ho : o.op = .call { callee := .builtin .copy, args := #[d, s], argTypes := #[32, 32] }) {S A G S2 A2 G2 r m seed tot tot2 k : Nat} {f g : Nat → Nat → Nat}
    (hk : Sk w S A G r m seed f tot) (hk2 : Sk w S2 A2 G2 r m seed g tot2) (hlt : k < r) {off : Nat} (hoff : k * m = off) (hd : a.eval d = .slice (some ⟨G2, off, none⟩) m m) (hs : a.eval s = .slice (some ⟨G, off, none⟩) m m)
    (h : ∀ w', Sk w' S2 A2 G2 r m seed (fun i j => if i = k then f i j else g i j) tot2 → Mut [G2] w w' → wpList Tryd.prog ops Q rest (a.put o.dst (.int .i64 (m : Int))) w') : wpList Tryd.prog ops Q (o :: rest) a w := by
  subst hoff
  obtain ⟨C, t, hC, hCs⟩ := hk2.blk
  have hlen : ((List.range m).map fun j => n64 (f k j)).length = m := by simp
  have hfit : k * m + m ≤ C.size := by
    have := Nat.mul_le_mul_right m (show k + 1 ≤ r from hlt)
    rw [Nat.add_mul] at this
    omega
  obtain ⟨R, hR⟩ : ∃ R, (C.toList.take (k * m) ++ ((List.range m).map (fun j => n64 (f k j)) ++ C.toList.drop (k * m + ((List.range m).map fun j => n64 (f k j)).length))).toArray = R := ⟨_, rfl⟩
  have hRs : R.size = r * m := by
    rw [← hR, ← hCs]
    simp
    omega
  have hRi : ∀ i j, i < r → j < m → R[i * m + j]? = some (n64 (if i = k then f i j else g i j)) := fun i j hi hj => by
    have hold : C[i * m + j]? = some (n64 (g i j)) := (hC.cell_iff _).symm.trans (hk2.cell i j hi hj).1
    rw [← hR, hlen, List.getElem?_toArray]
    have htl : (C.toList.take (k * m)).length = k * m := by simp; omega
    by_cases e : i = k
    · subst e
      rw [if_pos rfl, List.getElem?_append_right (by omega), htl, List.getElem?_append_left (by simp; omega)]
      simp [hj]
    · rw [if_neg e]
      by_cases hlt2 : i < k
      · have h1 := Nat.mul_le_mul_right m (show i + 1 ≤ k from hlt2)
        rw [Nat.add_mul] at h1
        rw [List.getElem?_append_left (by omega), List.getElem?_take_of_lt (by omega), Array.getElem?_toList]
        exact hold
      · have h1 := Nat.mul_le_mul_right m (show k + 1 ≤ i by omega)
        rw [Nat.add_mul] at h1
        rw [List.getElem?_append_right (by omega), htl, List.getElem?_append_right (by simp; omega), List.getElem?_drop, Array.getElem?_toList]
        have e2 : k * m + m + (i * m + j - k * m - ((List.range m).map fun j => n64 (f k j)).length) = i * m + j := by rw [hlen]; omega
        rw [e2]
        exact hold
  refine wpList_copy_own hgd d s 32 32 ho 22 Tryd.underlying32 (by kernel_rfl) G2 (k * m) m m ⟨G, k * m, none⟩ m m hd hs C t hC ((List.range m).map fun j => n64 (f k j)) (by rw [hlen]; exact (Nat.min_self m).symm) ?_ (by rw [hlen]; exact hfit) ?_ ?_
  · intro j v hv
    have hj : j < m := by
      have := (List.getElem?_eq_some_iff.1 hv).1
      simpa using this
    have hp : (⟨G, k * m, none⟩ : Addr).add j = ⟨G, k * m + j, none⟩ := by unfold Addr.add; split <;> simp_all
    rw [hp, (hk.cell k j hlt hj).1, ← hv]
    simp [hj]
  · intro v hv
    obtain ⟨j, _, rfl⟩ := List.mem_map.1 hv
    rfl
  · rw [hR, hlen]
    have hbl : Blk (w.setRow G2 R) G2 R t := setRow_heap w _ _ _ _ _ hC
    have hmu : Mut [G2] w (w.setRow G2 R) := ⟨rfl, rfl, rfl, by simp [World.setRow], fun i _ hn => setRow_other w G2 i R (by simpa using hn)⟩
    refine h _ ?_ hmu
    exact { hk2 with
      own := hk2.own.same (hmu.block _ hk2.own.lt (by simpa using hk2.sg))
      row := fun i hi => (World.cell?_of_block (w := w) (hmu.block _ hk2.ltA (by simpa using hk2.ag))).trans (hk2.row i hi)
      cell := fun i j hi hj => ⟨(hbl.cell_iff _).trans (hRi i j hi hj), hbl.free _⟩
      blk := ⟨R, t, hbl, hRs⟩
      ltA := Nat.lt_of_lt_of_le hk2.ltA hmu.size
      ltG := hbl.lt
      fLt := fun i j => by
        show (if i = k then f i j else g i j) < _
        split
        · exact hk.fLt i j
        · exact hk2.fLt i j }

set_option maxRecDepth 100000 in
set_option maxHeartbeats 1000000 in
theorem copy_any {S A G r m seed tot : Nat} {f : Nat → Nat → Nat} (w : World) (hk : Sk w S A G r m seed f tot) :
    Calls Tryd.prog 20 #[.pointer (some ⟨S, 0, none⟩)] w fun e w' => ∃ S2 A2 G2, e = .returned (.pointer (some ⟨S2, 0, none⟩)) ∧ Below w.heap.size w w' ∧ w.heap.size ≤ S2 ∧ w.heap.size ≤ A2 ∧ w.heap.size ≤ G2 ∧ Sk w' S2 A2 G2 r m seed (part f r) tot := by
  have s0 : w.cell? ⟨S, 0, none⟩ = some (.int .u64 (seed : Int)) := hk.own.cell 0 rfl
  have s1 : w.cell? ⟨S, 1, none⟩ = some (.slice (some ⟨A, 0, none⟩) r r) := hk.own.cell 1 rfl
  have hr0 : 0 < r := hk.r1
  have hr8 := hk.r8
  have hrow0 : w.cell? ⟨A, 0, none⟩ = some (.slice (some ⟨G, 0, none⟩) m m) := by simpa using hk.row 0 hk.r1
  have hN := fun W => new_any r m seed W hk.r1 hk.r8 hk.m1 hk.m2 hk.seedLt
  have HK := Lib.hid hk
  have HN := Lib.hid hN
  clear hk hN
  go_enter Tryd.func20, Tryd.ntmps20
  go_wp2
  go_still_tail 16, (by kernel_rfl)
  change wpList _ _ _ _ _ w.drew
  have hsz : w.drew.heap.size = w.heap.size := rfl
  go_wp2_with fail
  refine (HN.out _).mono ?_
  rintro e w1 ⟨S2, A2, G2, rfl, hb, hS2, hA2, hG2, hk2⟩
  rw [hsz] at hb hS2 hA2 hG2
  have hb' : Below w.heap.size w w1 := undrewn hb
  have hk1 := HK.out.later hb'
  have hl1 := HK.out.own.lt
  have hl2 := HK.out.ltA
  have hl3 := HK.out.ltG
  have hn : Hid (S ∉ [G2, S2] ∧ A ∉ [G2, S2] ∧ G ∉ [G2, S2]) := Lib.hid (by simp; omega)
  have t1 : w1.cell? ⟨S, 1, none⟩ = some (.slice (some ⟨A, 0, none⟩) r r) := hk1.own.cell 1 rfl
  have HB := Lib.hid hb'
  have HK1 := Lib.hid hk1
  have HK2 := Lib.hid hk2
  clear hb hb' hk1 hk2 hl1 hl2 hl3 hsz
  go_wp2_with fail
  go_loopw [28] (fun kv wr => ∃ k : Nat, k ≤ r ∧ kv = .int .i64 (k : Int) ∧ Hid (Mut [G2, S2] w1 wr ∧ Sk wr S A G r m seed f tot ∧ Sk wr S2 A2 G2 r m seed (part f k) 0)) (fun kv _ => r - (intOf kv).toNat)
  case atStart => exact ⟨0, by omega, rfl, Lib.hid ⟨Mut.refl _ _, HK1.out, HK2.out⟩⟩
  case round =>
    obtain ⟨k, hkr, rfl, HR⟩ := hrel
    by_cases hlt : k < r
    · have dl : decide ((k : Int) < (r : Int)) = true := by simp; omega
      obtain ⟨hm, hs, ht⟩ := HR.out
      have u1 : wr.cell? ⟨S2, 1, none⟩ = some (.slice (some ⟨A2, 0, none⟩) r r) := ht.own.cell 1 rfl
      have hrow := hs.row k hlt
      have hrow2 := ht.row k hlt
      obtain ⟨off, hoff⟩ : ∃ off, k * m = off := ⟨_, rfl⟩
      rw [hoff] at hrow hrow2
      have HOFF := Lib.hid hoff
      clear hm hs ht hoff
      go_wp2_with (refine copy_step rfl _ _ rfl HR.out.2.1 HR.out.2.2 hlt HOFF.out rfl rfl ?_)
      intro w2 hs2 hm2
      have hN : Hid (Mut [G2, S2] w1 w2 ∧ Sk w2 S A G r m seed f tot ∧ Sk w2 S2 A2 G2 r m seed (part f (k + 1)) 0) := Lib.hid (by
        have hm3 : Mut [G2, S2] wr w2 := hm2.wider (by simp)
        exact ⟨HR.out.1.trans hm3, HR.out.2.1.mut hm3 hn.out.1 hn.out.2.1 hn.out.2.2, by rw [← part_next]; exact hs2⟩)
      clear hs2 hm2 HR
      go_wp2
      go_roundw
      case rel => exact ⟨k + 1, by omega, by go_num, hN⟩
      case measure => simp [intOf]; omega
    · obtain rfl : k = r := by omega
      have dl : decide ((k : Int) < (k : Int)) = false := by simp
      obtain ⟨hm, hs, ht⟩ := HR.out
      have u2 : wr.cell? ⟨S2, 2, none⟩ = some (.int .u64 0) := ht.own.cell 2 rfl
      have f2 := ht.own.free 2
      have v2 : wr.cell? ⟨S, 2, none⟩ = some (.int .u64 (tot : Int)) := hs.own.cell 2 rfl
      have hE : Hid (Below w.heap.size w (wr.setCell ⟨S2, 2, none⟩ (.int .u64 (tot : Int))) ∧ Sk (wr.setCell ⟨S2, 2, none⟩ (.int .u64 (tot : Int))) S2 A2 G2 k m seed (part f k) tot) := Lib.hid ⟨(HB.out.trans (hm.below HB.out.size (by simp; omega))).setCell hS2 _, ht.total hs.totLt⟩
      clear hm hs ht HR
      go_wp2
      go_ret
      exact ⟨S2, A2, G2, rfl, hE.out.1, hS2, hA2, hG2, hE.out.2⟩
end Go.Proofs.YtmacehpfhhlnpaaDoor
