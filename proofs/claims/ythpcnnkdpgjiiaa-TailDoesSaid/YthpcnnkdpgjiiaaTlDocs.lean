/-
  The document's calls beside the program's buffer.
-/
import Derived.Test.YthpcnnkdpgjiiaaTlBoth
import Derived.Test.YthpcnnkdpgjiiaaTlRef9
import Derived.Test.YthpcnnkdpgjiiaaTlRef11
import Derived.Test.YthpcnnkdpgjiiaaTlRef3
import Derived.Test.YthpcnnkdpgjiiaaTlArgs
namespace Go.Proofs.Ythpcnnkdpgjiiaa
open Go.RowKit Go.Maps Go.Proofs.HeapMath Go.Proofs.TailMath

theorem RfIn.more {W : World} {b : St} {r : Rf} {bs : List Nat} (h : RfIn (· ∉ bs) W b r) (q : Nat) (hq : W.heap.size ≤ q) : RfIn (· ∉ q :: bs) W b r :=
  h.mut (Mut.refl bs W) fun k hk => (List.mem_cons.1 hk).elim (fun e => .inr (by omega)) .inl
theorem docOffer {P : Nat → Prop} {W : World} {b : St} {r : Rf} (h : RfIn P W b r) (hv : Iv b) (hn : r.n ≤ 5000 ∧ r.m ≤ 5000) (hc : b.came ≤ 1000000000) (hP : ∀ k, W.heap.size ≤ k → P k) (now : Int) (s : Sp) (b' : St) (v1 v2 : Nat) (ho : offer b now s = (b', v1, v2)) :
    Calls Try.prog 32 #[rfV b r, .int .i64 now, spV s] W fun e w' => ∃ A n cap B m capB, e = .returned (.tuple #[.agg #[.int .i64 (b'.sp : Int), .int .i64 (b'.wait : Int), .int .i64 (b'.most : Int), .int .i64 (b'.time : Int), .int .i64 (b'.came : Int), .slice A n cap, .slice B m capB], .int .u8 (v1 : Int), .int .i64 (v2 : Int)]) ∧ Hid (RfIn P w' b' ⟨A, n, cap, B, m, capB⟩) ∧ Hid (Below W.heap.size W w') := by
  have key : Calls Try.prog 32 #[rfV b r, .int .i64 now, spV s] W (OfTo P W (b', v1, v2)) := by
    rw [← ho]
    cases e : okT b now
    · exact refOffer_no now s W b r h e
    · have h1 : (b.time : Int) ≤ now ∧ now ≤ 1099511627776 := by simpa [okT] using e
      obtain ⟨t, rfl⟩ := Int.eq_ofNat_of_zero_le (show 0 ≤ now by omega)
      exact refOffer_ok t s W b r h hv (by omega) (by omega) hn.1 hn.2 hc hP
  exact key.mono fun e w' ⟨r', h1, h2, h3⟩ => ⟨r'.A, r'.n, r'.cap, r'.B, r'.m, r'.capB, h1, h2, h3⟩
theorem docDue {P : Nat → Prop} {W : World} {b : St} {r : Rf} (h : RfIn P W b r) (hv : Iv b) (hn : r.n ≤ 5000) (hP : ∀ k, W.heap.size ≤ k → P k) (now : Int) (b' : St) (L : List Gr) (err : Nat) (ho : (if okT b now = true then (dued (at_ b now.toNat) now, dueL now b.L, 0) else (b, [], 60)) = (b', L, err)) :
    Calls Try.prog 33 #[rfV b r, .int .i64 now] W fun e w' => ∃ A n cap B m capB V k c l, e = .returned (.tuple #[.agg #[.int .i64 (b'.sp : Int), .int .i64 (b'.wait : Int), .int .i64 (b'.most : Int), .int .i64 (b'.time : Int), .int .i64 (b'.came : Int), .slice A n cap, .slice B m capB], .slice V k c, .int .i64 (err : Int)]) ∧ Hid (RfIn P w' b' ⟨A, n, cap, B, m, capB⟩) ∧ Hid (ToldC w' V l ∧ FarT P V l) ∧ Hid (l.map (·.1) = L) ∧ l.length = k ∧ k ≤ c ∧ Hid (Below W.heap.size W w') := by
  have key : Calls Try.prog 33 #[rfV b r, .int .i64 now] W (DuTo P W b' L err) := by
    cases e : okT b now
    · rw [e, if_neg (by simp)] at ho
      injection ho with h1 ho
      injection ho with h2 h3
      subst h1 h2 h3
      exact refDue_no now W b r h e
    · rw [e, if_pos rfl] at ho
      injection ho with h1 ho
      injection ho with h2 h3
      subst h1 h2 h3
      have h1 : (b.time : Int) ≤ now ∧ now ≤ 1099511627776 := by simpa [okT] using e
      obtain ⟨t, rfl⟩ := Int.eq_ofNat_of_zero_le (show 0 ≤ now by omega)
      exact refDue_ok t W b r h hv (by omega) (by omega) hn hP
  exact key.mono fun e w' ⟨r', V, k, c, l, h1, h2, h3, h4, h5, h6, h7⟩ => ⟨r'.A, r'.n, r'.cap, r'.B, r'.m, r'.capB, V, k, c, l, h1, h2, h3, h4, h5, h6, h7⟩
theorem docDecide {P : Nat → Prop} {W : World} {b : St} {r : Rf} (h : RfIn P W b r) (hv : Iv b) (hm : r.m ≤ 5000) (hP : ∀ k, W.heap.size ≤ k → P k) (hi lo : Nat) (keep : Bool) (b' : St) (ho : decided b hi lo (ayOf keep) = b') :
    Calls Try.prog 35 #[rfV b r, .int .u64 (hi : Int), .int .u64 (lo : Int), .bool keep] W fun e w' => ∃ A n cap B m capB, e = .returned (.agg #[.int .i64 (b'.sp : Int), .int .i64 (b'.wait : Int), .int .i64 (b'.most : Int), .int .i64 (b'.time : Int), .int .i64 (b'.came : Int), .slice A n cap, .slice B m capB]) ∧ Hid (RfIn P w' b' ⟨A, n, cap, B, m, capB⟩) ∧ Hid (Below W.heap.size W w') := by
  subst ho
  exact (refDecide_any hi lo keep W b r h hm hv.most.1 hP).mono fun e w' ⟨r', h1, h2, h3⟩ => ⟨r'.A, r'.n, r'.cap, r'.B, r'.m, r'.capB, h1, h2, h3⟩
theorem offer_small (b : St) (now : Int) (s : Sp) (hv : Iv b) : (offer b now s).2.1 ≤ 4 ∧ (offer b now s).2.2 ≤ 60 := by
  unfold offer
  split
  · split
    · rename_i k hk
      have := (hv.K.ok k (askK_some hk).1).2.2
      simp only
      omega
    · split <;> simp
  · simp
theorem Mut.fresh {bs : List Nat} {W W3 W4 : World} {q : Nat} (h : Mut bs W W3) (hm : Mut [q] W3 W4) (hq : W.heap.size ≤ q) : Mut bs W W4 :=
  ⟨hm.os.trans h.os, hm.tape.trans h.tape, hm.output.trans h.output, Nat.le_trans h.size hm.size, fun k hk hn => (hm.block k (Nat.lt_of_lt_of_le hk h.size) (by simp; omega)).trans (h.block k hk hn)⟩
/-- What was told stays, where the program's buffer turns. -/
theorem ToldC.mut {W W' : World} {V : Option Addr} {l : List Tx} {bs : List Nat} (h : ToldC W V l) (hf : FarT (· ∉ bs) V l) (hm : Mut bs W W') : ToldC W' V l := fun h0 => by
  obtain ⟨g, a, hg, hc⟩ := h h0
  have hn := hf.1 h0 g (by rw [a]; rfl)
  refine ⟨g, a, Nat.lt_of_lt_of_le hg hm.size, fun i hi => ?_⟩
  have hcell : ∀ k, W'.cell? ⟨g, k, none⟩ = W.cell? ⟨g, k, none⟩ := fun k => World.cell?_of_block (hm.block g hg hn)
  obtain ⟨a0, a1, a2, a3, a4⟩ := hc i hi
  rw [hcell, hcell, hcell]
  exact ⟨a0, a1, a2, a3, fun h1 => (a4.mut hm fun g hg => hf.2 _ (List.getElem_mem hi) h1 g hg) h1⟩
theorem Ob.dueAny {w₀ W : World} {S : Nat} {b : St} {bs : List Nat} (h : Ob w₀ W S b bs) (hc : b.came ≤ 1000000000) (now : Int) (b' : St) (L : List Gr) (err n : Nat) (ho : (if okT b now = true then (dued (at_ b now.toNat) now, dueL now b.L, 0) else (b, [], 60)) = (b', L, err)) (hn : L.length = n) :
    Calls Try.prog 13 #[.pointer (some ⟨S, 0, none⟩), .int .i64 now] W fun e w' => ∃ V l, e = .returned (.tuple #[.slice V n n, .int .u16 (err : Int)]) ∧ Hid (l.map (·.1) = L) ∧ Hid (Told w' V l) ∧ ∃ bs', Hid (Ob w₀ w' S b' bs') ∧ Hid (Mut bs W w' ∧ Ext W bs bs') := by
  cases e : okT b now
  · rw [e, if_neg (by simp)] at ho
    injection ho with h1 ho
    injection ho with h2 h3
    subst h1 h2 h3 hn
    exact (tdue_no W h.1 e).mono fun e w' ⟨x, y⟩ => ⟨none, [], x, Lib.hid rfl, Lib.hid (fun h => absurd h (by simp)), bs, Lib.hid (y ▸ h), Lib.hid (y ▸ ⟨Mut.refl _ _, Ext.refl _ _⟩)⟩
  · rw [e, if_pos rfl] at ho
    injection ho with h1 ho
    injection ho with h2 h3
    subst h1 h2 h3
    have h1 : (b.time : Int) ≤ now ∧ now ≤ 1099511627776 := by simpa [okT] using e
    obtain ⟨t, rfl⟩ := Int.eq_ofNat_of_zero_le (show 0 ≤ now by omega)
    exact h.due t (by omega) (by omega) hc _ n _ rfl hn rfl
/-- What the law's does is to tell. -/
def DoTo (w₀ W : World) (S : Nat) (b' : St) (bs : List Nat) (e : Ending) (w' : World) : Prop := ∃ r' bs', e = .returned (.tuple #[rfV b' r', .bool true]) ∧ Hid (Bo w₀ w' S b' bs' r') ∧ Hid (Mut bs W w' ∧ Ext W bs bs')
/-- The end: what is told is put into its place. -/
theorem do_end {w₀ W W3 : World} {S q : Nat} {b' : St} {bs bs' : List Nat} {r' : Rf} {C : Array Value} (hO : Ob w₀ W3 S b' bs') (hR : RfIn (· ∉ q :: bs') W3 b' r') (hq : q ∉ bs') (hq0 : w₀.heap.size ≤ W.heap.size) (hqW : W.heap.size ≤ q) (hb : Blk W3 q C 50) (hm : Mut bs W W3) (D : Array Value) :
    Blk (W3.setRow q D) q D 50 ∧ Bo w₀ (W3.setRow q D) S b' bs' r' ∧ Mut bs W (W3.setRow q D) := by
  have h1 : Mut [q] W3 (W3.setRow q D) := ⟨rfl, rfl, rfl, by simp [World.setRow], fun k _ hk => setRow_other _ _ _ _ (by simpa using hk)⟩
  exact ⟨setRow_heap _ _ _ _ _ _ hb, ⟨hO.beside h1 fun k hk => by simp at hk; subst hk; exact ⟨hq, by omega⟩, hR.mut (h1.wider (by simp)) fun k hk => .inl (by simp [hk])⟩, hm.fresh h1 hqW⟩
theorem do_results {D : World} {f : Func} {tmps : Array Value} {g : Nat} {b : St} {r : Rf} {x : Value} (hr : f.results = #[.cell 8 50, .tmp 9]) (hb : Blk D g (rfC b r) 50) (h6 : tmps.getD 8 undef = .pointer (some ⟨g, 0, none⟩)) (h7 : tmps.getD 9 undef = x) :
    (results f tmps).run Try.prog D = .ok (.tuple #[rfV b r, x]) D := by
  have q0 := hb.cell 0 rfl
  have q1 := hb.cell 1 rfl
  have q2 := hb.cell 2 rfl
  have q3 := hb.cell 3 rfl
  have q4 := hb.cell 4 rfl
  have q5 := hb.cell 5 rfl
  have q6 := hb.cell 6 rfl
  simp at h6 h7
  simp [results, hr, go_sem, h6, h7, q0, q1, q2, q3, q4, q5, q6]
  rfl
end Go.Proofs.Ythpcnnkdpgjiiaa
