/-
  One offer to the sampler and to the document's, side by side: both tell the same, and both have it.
-/
import Derived.Deep.RegionHeld
import Derived.Test.YtmjbdjcpjaeemaaPrRefNo
import Derived.Test.YtmjbdjcpjaeemaaPrRefCls
namespace Go.Proofs.Ytmjbdjcpjaeemaa
open Go.RowKit Go.Proofs.PrioMath

/-- What an offer of weight x is told, and what stands offered behind it. -/
def aP (x : Nat) (os : List Of) : Int := if 1 ≤ x ∧ x ≤ 4294967296 then (os.length : Int) else -1
def aE (x : Nat) : Nat := if 1 ≤ x ∧ x ≤ 4294967296 then 0 else 1
def aS (m x d : Nat) (os : List Of) : List Of := if 1 ≤ x ∧ x ≤ 4294967296 then os ++ [⟨os.length, x, d % dr m⟩] else os
theorem aE_le (x : Nat) : aE x ≤ 1 := by unfold aE; split <;> omega
theorem aS_len (m x d : Nat) (os : List Of) : (aS m x d os).length ≤ os.length + 1 := by unfold aS; split <;> simp
theorem aP_in (x : Nat) (os : List Of) (h : os.length ≤ 5000) : -1 ≤ aP x os ∧ aP x os ≤ 5000 := by unfold aP; split <;> omega
/-- A sampler at S, and the document's in a box R: the same were offered to both. -/
structure Jt (w W : World) (S R k m n cap : Nat) (A : Option Addr) (os : List Of) (bs : List Nat) : Prop where
  ow : Ow w W S k m os bs
  dc : Dc W A n cap os (R :: bs)
  b : Blk W R #[.int .i64 (k : Int), .int .u64 (m : Int), .slice A n cap] 42
  far : R ∉ bs
  lo : w.heap.size ≤ R
theorem Jt.later {w W W' : World} {S R k m n cap : Nat} {A : Option Addr} {os : List Of} {bs : List Nat} (h : Jt w W S R k m n cap A os bs) (hb : Below W.heap.size W W') : Jt w W' S R k m n cap A os bs :=
  ⟨h.ow.later hb, h.dc.later hb, h.b.later hb, h.far, h.lo⟩
theorem Jt.lt {w W : World} {S R k m n cap : Nat} {A : Option Addr} {os : List Of} {bs : List Nat} (h : Jt w W S R k m n cap A os bs) : ∀ j ∈ R :: bs, j < W.heap.size := fun j hj => by
  rcases List.mem_cons.1 hj with rfl | hj
  · exact h.b.lt
  · exact h.ow.1.lt j hj
theorem ref_does {w W : World} {S R k m n cap : Nat} {A : Option Addr} {os : List Of} {bs : List Nat} (x d : Nat) (h : Jt w W S R k m n cap A os bs) (hx : x < 18446744073709551616) (hd : d < 18446744073709551616) (hm : m < 18446744073709551616) (hn : n ≤ 4999) :
    Calls Try.prog 12 #[.agg #[.int .i64 (k : Int), .int .u64 (m : Int), .slice A n cap], .int .u64 (x : Int), .int .u64 (d : Int)] W fun e w' => ∃ A' n' cap', e = .returned (.tuple #[.agg #[.int .i64 (k : Int), .int .u64 (m : Int), .slice A' n' cap'], .int .i64 (aP x os), .int .i64 (aE x : Int)]) ∧ Hid (Below W.heap.size W w' ∧ Dc w' A' n' cap' (aS m x d os) (R :: bs)) := by
  have hl := h.dc.len
  by_cases hok : 1 ≤ x ∧ x ≤ 4294967296
  · have e1 : aP x os = (n : Int) := by unfold aP; rw [if_pos hok, hl]
    have e2 : aE x = 0 := by unfold aE; rw [if_pos hok]
    have e3 : aS m x d os = os ++ [⟨n, x, d % dr m⟩] := by unfold aS; rw [if_pos hok, hl]
    rw [e1, e2, e3]
    exact (refAdd_any x d W h.dc h.lt hok.1 hok.2 hd hm hn).mono fun e w' ⟨A', cap', he, hr⟩ => ⟨A', n + 1, cap', he, hr⟩
  · have e1 : aP x os = -1 := by unfold aP; rw [if_neg hok]
    have e2 : aE x = 1 := by unfold aE; rw [if_neg hok]
    have e3 : aS m x d os = os := by unfold aS; rw [if_neg hok]
    rw [e1, e2, e3]
    exact (refAdd_no (k := k) (m := m) x d W (by omega) hx).mono fun e w' ⟨he, hr⟩ => ⟨A, n, cap, he, Lib.hid ⟨hr, h.dc.later hr⟩⟩
theorem add_does {w W : World} {S k m : Nat} {os : List Of} {bs : List Nat} (x d : Nat) (h : Ow w W S k m os bs) (hd : d < 18446744073709551616) (hn : os.length ≤ 1000000) :
    Calls Try.prog 7 #[.pointer (some ⟨S, 0, none⟩), .int .u64 (x : Int), .int .u64 (d : Int)] W fun e w' => e = .returned (.tuple #[.int .i64 (aP x os), .int .u16 (aE x : Int)]) ∧ ∃ bs', Hid (Ow w w' S k m (aS m x d os) bs' ∧ Mut bs W w' ∧ Ext W bs bs') := by
  by_cases hok : 1 ≤ x ∧ x ≤ 4294967296
  · have e1 : aP x os = (os.length : Int) := by unfold aP; rw [if_pos hok]
    have e2 : aE x = 0 := by unfold aE; rw [if_pos hok]
    have e3 : aS m x d os = os ++ [⟨os.length, x, d % dr m⟩] := by unfold aS; rw [if_pos hok]
    rw [e1, e2, e3]
    exact own_add x d h hok.1 hok.2 hd hn
  · have e1 : aP x os = -1 := by unfold aP; rw [if_neg hok]
    have e2 : aE x = 1 := by unfold aE; rw [if_neg hok]
    have e3 : aS m x d os = os := by unfold aS; rw [if_neg hok]
    rw [e1, e2, e3]
    exact (padd_no x d W (by omega)).mono fun e w' ⟨he, hw⟩ => ⟨he, bs, Lib.hid (by subst hw; exact ⟨h, Mut.refl _ _, Ext.refl _ _⟩)⟩
theorem far_of_ext {W : World} {bs bs' : List Nat} {R : Nat} (hx : Ext W bs bs') (hR : R ∉ bs) (hl : R < W.heap.size) : R ∉ bs' := fun h => by
  rcases hx R h with h1 | h1
  · exact hR h1
  · omega
theorem Blk.mut_ {W W' : World} {g : Nat} {C : Array Value} {T : TypeId} {bs : List Nat} (h : Blk W g C T) (hb : Mut bs W W') (hg : g ∉ bs) : Blk W' g C T := h.same (hb.block g h.lt hg)
/-- The document's sampler, as a variable's three cells, stored into R. -/
def putR (W : World) (R k m n cap : Nat) (A : Option Addr) : World := ((W.setCell ⟨R, 0, none⟩ (.int .i64 (k : Int))).setCell ⟨R, 1, none⟩ (.int .u64 (m : Int))).setCell ⟨R, 2, none⟩ (.slice A n cap)
theorem Jt.put {w W : World} {S R k m n cap n0 cap0 : Nat} {A A0 : Option Addr} {os : List Of} {bs : List Nat} (ho : Ow w W S k m os bs) (hd : Dc W A n cap os (R :: bs)) (hb : Blk W R #[.int .i64 (k : Int), .int .u64 (m : Int), .slice A0 n0 cap0] 42) (hf : R ∉ bs) (hl : w.heap.size ≤ R) : Jt w (putR W R k m n cap A) S R k m n cap A os bs := by
  have hmS : Mut [R] W (putR W R k m n cap A) := (((Mut.refl _ _).setCell (by simp) _).setCell (by simp) _).setCell (by simp) _
  refine ⟨⟨ho.1.mut hmS fun j hj hc => ?_, ho.2.1.trans (hmS.below ho.2.1.size fun j hj => by rw [List.mem_singleton.1 hj]; exact hl), ho.2.2⟩, hd.mut (hmS.wider (fun j hj => by rw [List.mem_singleton.1 hj]; simp)) (Ext.refl _ _), ?_, hf, hl⟩
  · rw [List.mem_singleton.1 hc] at hj; exact hf hj
  · exact ((hb.set 0 (.int .i64 (k : Int))).set 1 (.int .u64 (m : Int))).set 2 (.slice A n cap)
theorem Jt.next {w W w4 w6 : World} {S R k m n cap n' cap' : Nat} {A A' : Option Addr} {os os' : List Of} {bs bs' : List Nat} {T : TypeId} {C : Array Value} (h : Jt w W S R k m n cap A os bs) (h4 : Below W.heap.size W w4) (hd : Dc w4 A' n' cap' os' (R :: bs)) (ho : Ow w w6 S k m os' bs') (hm : Mut bs (w4.alloc (.cells C T)) w6) (hx : Ext (w4.alloc (.cells C T)) bs bs') :
    Blk w6 w4.heap.size C T ∧ Blk w6 R #[.int .i64 (k : Int), .int .u64 (m : Int), .slice A n cap] 42 ∧ ∀ q, Jt w (putR (w6.drewN q) R k m n' cap' A') S R k m n' cap' A' os' bs' := by
  have hs4 := h4.size
  have hlt := h.lt
  have hR : R < W.heap.size := hlt R (by simp)
  have hV : w4.heap.size ∉ bs := fun hh => by have := hlt _ (List.mem_cons_of_mem _ hh); omega
  have hb5 : Below w4.heap.size w4 (w4.alloc (.cells C T)) := box_below _
  have hR5 : R < (w4.alloc (.cells C T)).heap.size := by rw [World.size_alloc]; omega
  have k1 : Blk w6 w4.heap.size C T := (blk_new w4 C T).mut_ hm hV
  have k2 : Blk w6 R #[.int .i64 (k : Int), .int .u64 (m : Int), .slice A n cap] 42 := ((h.b.later h4).later hb5).mut_ hm h.far
  have hf := far_of_ext hx h.far hR5
  have hd6 : Dc w6 A' n' cap' os' (R :: bs') := (hd.later hb5).mut (hm.wider (fun j hj => List.mem_cons_of_mem _ hj)) (fun j hj => by
    rcases List.mem_cons.1 hj with rfl | hj
    · exact .inl (by simp)
    · exact (hx j hj).imp (fun h => List.mem_cons_of_mem _ h) id)
  refine ⟨k1, k2, fun q => ?_⟩
  have hq : Below w6.heap.size w6 (w6.drewN q) := (Mut.drewN (Mut.refl [] w6) q).below (Nat.le_refl _) (by simp)
  exact Jt.put (ho.later hq) (hd6.later hq) (k2.later hq) hf h.lo
theorem Kd.mut {W W' : World} {A : Option Addr} {n : Nat} {l : List Of} {bs : List Nat} (h : Kd W A n l) (hb : Mut bs W W') (hg : ∀ g, A = some ⟨g, 0, none⟩ → g ∉ bs) : Kd W' A n l := ⟨h.1, fun h0 => by
  obtain ⟨g, e, hgl, hc⟩ := h.2 h0
  have hs := hb.block g hgl (hg g e)
  exact ⟨g, e, Nat.lt_of_lt_of_le hgl hb.size, fun j hj => ⟨(World.cell?_of_block (w := W) hs).trans (hc j hj).1, (World.cell?_of_block (w := W) hs).trans (hc j hj).2.1, (World.cell?_of_block (w := W) hs).trans (hc j hj).2.2⟩⟩⟩
/-- Both are closed: both tell the same, and begin anew. -/
theorem ref_close {w W : World} {S R k m n cap : Nat} {A : Option Addr} {os : List Of} {bs : List Nat} (h : Jt w W S R k m n cap A os bs) (hk : 1 ≤ k ∧ k ≤ 1000) (hm : m < 18446744073709551616) {q : Nat} (hq : (closeL k m os).length = q) :
    Calls Try.prog 13 #[.agg #[.int .i64 (k : Int), .int .u64 (m : Int), .slice A n cap]] W fun e w' => ∃ B c, e = .returned (.tuple #[.agg #[.int .i64 (k : Int), .int .u64 (m : Int), .slice none 0 0], .slice B q c]) ∧ Hid (Below W.heap.size W w' ∧ Kd w' B q (closeL k m os) ∧ ∀ g, B = some ⟨g, 0, none⟩ → W.heap.size ≤ g) := by
  subst hq
  have hs := h.ow.1
  obtain ⟨_, _, _, _, _, _, _, _, _, _, hf, _⟩ := hs
  exact refClose_any W h.dc (fun t ht => ⟨(hf t ht).1, (hf t ht).2.1⟩) h.ow.1.pl hk hm
theorem Jt.close {w W w4 w6 w7 : World} {S R k m n cap q T : Nat} {A : Option Addr} {os : List Of} {bs : List Nat} {Ty : TypeId} {C : Array Value} (h : Jt w W S R k m n cap A os bs) (h4 : Below W.heap.size W w4)
    (h6 : Ow w w6 S k m [] [S] ∧ Kp w6 T q (closeL k m os) ∧ T ≠ S ∧ (w4.alloc (.cells C Ty)).heap.size ≤ T ∧ Mut bs (w4.alloc (.cells C Ty)) w6) (h7 : Below w6.heap.size w6 w7) :
    Blk w7 w4.heap.size C Ty ∧ Blk w7 R #[.int .i64 (k : Int), .int .u64 (m : Int), .slice A n cap] 42 ∧ Jt w (putR w7 R k m 0 0 none) S R k m 0 0 none [] [S] := by
  obtain ⟨ho, hkp, hTS, hT, hm⟩ := h6
  have hs4 := h4.size
  have hlt := h.lt
  have hR : R < W.heap.size := hlt R (by simp)
  have hV : w4.heap.size ∉ bs := fun hh => by have := hlt _ (List.mem_cons_of_mem _ hh); omega
  have hb5 : Below w4.heap.size w4 (w4.alloc (.cells C Ty)) := box_below _
  have k1 : Blk w6 w4.heap.size C Ty := (blk_new w4 C Ty).mut_ hm hV
  have k2 : Blk w6 R #[.int .i64 (k : Int), .int .u64 (m : Int), .slice A n cap] 42 := ((h.b.later h4).later hb5).mut_ hm h.far
  have hSb : S ∈ bs := by obtain ⟨_, _, _, _, _, _, _, _, _, _, _, h8, _⟩ := h.ow.1; exact h8
  exact ⟨k1.later h7, k2.later h7, Jt.put (ho.later h7) (Dc.none_ _ _) (k2.later h7) (by simp; intro e; exact h.far (e ▸ hSb)) h.lo⟩
end Go.Proofs.Ytmjbdjcpjaeemaa
