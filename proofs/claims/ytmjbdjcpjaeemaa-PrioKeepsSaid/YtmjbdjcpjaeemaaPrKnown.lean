/-
  A sampler of a law's own from world to world; the chapter's example holds.
-/
import Derived.Test.YtmjbdjcpjaeemaaPrClose
namespace Go.Proofs.Ytmjbdjcpjaeemaa
open Go.RowKit Go.Proofs.PrioMath

/-- A sampler of a law's own, made behind the world w₀: what lay there lies as it lay. -/
def Ow (w₀ W : World) (S k m : Nat) (os : List Of) (bs : List Nat) : Prop := Sm W bs S k m os ∧ Below w₀.heap.size w₀ W ∧ ∀ j ∈ bs, w₀.heap.size ≤ j
theorem Ow.to {w₀ W W' : World} {S k m : Nat} {os os' : List Of} {bs : List Nat} (h : Ow w₀ W S k m os bs) (ht : SmTo W bs S k m os' W') : ∃ bs', Ow w₀ W' S k m os' bs' ∧ Mut bs W W' ∧ Ext W bs bs' := by
  obtain ⟨bs', h1, h2, h3⟩ := ht
  refine ⟨bs', ⟨h1, h.2.1.trans (h2.below h.2.1.size h.2.2), fun j hj => ?_⟩, h2, h3⟩
  rcases h3 j hj with h4 | h4
  · exact h.2.2 j h4
  · have := h.2.1.size; omega
theorem Ow.later {w₀ W W' : World} {S k m : Nat} {os : List Of} {bs : List Nat} (h : Ow w₀ W S k m os bs) (hb : Below W.heap.size W W') : Ow w₀ W' S k m os bs := ⟨h.1.later hb, h.2.1.trans (hb.mono h.2.1.size), h.2.2⟩
/-- What Close told, in memory of its own: at T. -/
def Kp (W : World) (T n : Nat) (out : List Of) : Prop := W.ownsRow 0 38 3 (.slice (some ⟨T, 0, none⟩) n n) n (cl out) ∧ out.length = n
theorem Kp.cell {W : World} {T n : Nat} {out : List Of} (h : Kp W T n out) {i : Nat} (hi : i < n) : W.cell? ⟨T, i * 3, none⟩ = some (.int .i64 ((at_ out i).p : Int)) ∧ W.cell? ⟨T, i * 3 + 1, none⟩ = some (.int .u64 ((at_ out i).w : Int)) ∧ W.cell? ⟨T, i * 3 + 2, none⟩ = some (.int .u64 ((at_ out i).d : Int)) := by
  have hl := h.2
  rw [h.1.cellAt _ (by omega), h.1.cellAt _ (by omega), h.1.cellAt _ (by omega)]
  exact cl_at (by omega)
theorem Kp.lt {W : World} {T n : Nat} {out : List Of} (h : Kp W T n out) : T < W.heap.size := (h.1.lt T rfl).2
theorem Kp.mut {W W' : World} {T n : Nat} {out : List Of} {bs : List Nat} (h : Kp W T n out) (hb : Mut bs W W') (hT : T ∉ bs) : Kp W' T n out := ⟨row_same h.1 fun g hg => by
  simp [Value.ownBlock] at hg
  subst hg
  exact hb.block _ h.lt hT, h.2⟩
theorem Kp.later {W W' : World} {T n : Nat} {out : List Of} (h : Kp W T n out) (hb : Below W.heap.size W W') : Kp W' T n out := h.mut (bs := []) (Mut.of_below hb) (by simp)
theorem own_new (k m : Nat) (w : World) (h1 : 1 ≤ k) (h2 : k ≤ 1000) (hm : m < 18446744073709551616) :
    Calls Try.prog 6 #[.int .i64 (k : Int), .int .u64 (m : Int)] w fun e w' => ∃ S bs, e = .returned (.pointer (some ⟨S, 0, none⟩)) ∧ Hid (Ow w w' S k m [] bs) :=
  (pnew_any k m w h1 h2 hm).mono fun _ _ ⟨S, bs, he, hs, hb, hbs⟩ => ⟨S, bs, he, Lib.hid ⟨hs, hb, hbs⟩⟩
theorem own_add {w₀ W : World} {S k m : Nat} {os : List Of} {bs : List Nat} (x d : Nat) (h : Ow w₀ W S k m os bs) (hx : 1 ≤ x) (hx2 : x ≤ 4294967296) (hd : d < 18446744073709551616) (hn : os.length ≤ 1000000) :
    Calls Try.prog 7 #[.pointer (some ⟨S, 0, none⟩), .int .u64 (x : Int), .int .u64 (d : Int)] W fun e w' => e = .returned (.tuple #[.int .i64 (os.length : Int), .int .u16 0]) ∧ ∃ bs', Hid (Ow w₀ w' S k m (os ++ [⟨os.length, x, d % dr m⟩]) bs' ∧ Mut bs W w' ∧ Ext W bs bs') :=
  (padd_ok x d W h.1 hx hx2 hd hn).mono fun _ _ ⟨he, ht⟩ => by
    obtain ⟨bs', h1⟩ := h.to ht
    exact ⟨he, bs', Lib.hid h1⟩
theorem own_close {w₀ W : World} {S k m : Nat} {os : List Of} {bs : List Nat} (h : Ow w₀ W S k m os bs) (hn : os.length ≤ 1000000) :
    Calls Try.prog 9 #[.pointer (some ⟨S, 0, none⟩)] W fun e w' => ∃ T, e = .returned (.slice (some ⟨T, 0, none⟩) (closeL k m os).length (closeL k m os).length) ∧ Hid (Ow w₀ w' S k m [] [S] ∧ Kp w' T (closeL k m os).length (closeL k m os) ∧ T ≠ S ∧ W.heap.size ≤ T ∧ Mut bs W w') :=
  (pclose_any W h.1 hn).mono fun _ _ ⟨T, he, ho, hT, hs, hm⟩ => ⟨T, he, Lib.hid (by
    have hS : S ∈ bs := by obtain ⟨_, _, _, _, _, _, _, _, _, _, _, h8, _⟩ := h.1; exact h8
    have hSl := h.1.lt S hS
    exact ⟨⟨hs, h.2.1.trans (hm.below h.2.1.size h.2.2), fun j hj => by rw [List.mem_singleton.1 hj]; exact h.2.2 S hS⟩, ⟨ho, rfl⟩, by omega, hT, hm⟩)⟩

set_option maxRecDepth 100000 in
set_option maxHeartbeats 2000000 in
theorem known_any (w : World) : Calls Try.prog 4 #[] w fun e w' => e = .returned (.bool true) ∧ Below w.heap.size w w' := by
  have hN := own_new 1 2 w (by omega) (by omega) (by omega)
  have hN0 := fun W => pnew_no 0 2 W (by omega)
  have hN1 := fun W => pnew_no 1001 2 W (by omega)
  have h1 : ∀ S bs W, Ow w W S 1 2 [] bs → Calls Try.prog 7 #[.pointer (some ⟨S, 0, none⟩), .int .u64 1, .int .u64 0] W fun e w' => e = .returned (.tuple #[.int .i64 0, .int .u16 0]) ∧ ∃ bs', Hid (Ow w w' S 1 2 [⟨0, 1, 0⟩] bs') := fun S bs W h =>
    (own_add 1 0 h (by omega) (by omega) (by omega) (by simp)).mono fun e w' ⟨x1, bs', x2⟩ => ⟨x1, bs', Lib.hid x2.out.1⟩
  have h2 : ∀ S bs W, Ow w W S 1 2 [⟨0, 1, 0⟩] bs → Calls Try.prog 7 #[.pointer (some ⟨S, 0, none⟩), .int .u64 1, .int .u64 1] W fun e w' => e = .returned (.tuple #[.int .i64 1, .int .u16 0]) ∧ ∃ bs', Hid (Ow w w' S 1 2 [⟨0, 1, 0⟩, ⟨1, 1, 1⟩] bs') := fun S bs W h =>
    (own_add 1 1 h (by omega) (by omega) (by omega) (by simp)).mono fun e w' ⟨x1, bs', x2⟩ => ⟨x1, bs', Lib.hid x2.out.1⟩
  have h3 := fun (S : Nat) W => padd_no (S := S) 0 1 W (by omega)
  have h4 : ∀ S bs W, Ow w W S 1 2 [⟨0, 1, 0⟩, ⟨1, 1, 1⟩] bs → Calls Try.prog 8 #[.pointer (some ⟨S, 0, none⟩)] W fun e w' => e = .returned (.int .i64 2) ∧ W = w' := fun S bs W h => plen_any W h.1
  have hcl : closeL 1 2 [⟨0, 1, 0⟩, ⟨1, 1, 1⟩] = [⟨0, 1, 1⟩] := rfl
  have h5 : ∀ S bs W, Ow w W S 1 2 [⟨0, 1, 0⟩, ⟨1, 1, 1⟩] bs → Calls Try.prog 9 #[.pointer (some ⟨S, 0, none⟩)] W fun e w' => ∃ T, e = .returned (.slice (some ⟨T, 0, none⟩) 1 1) ∧ Hid (Ow w w' S 1 2 [] [S] ∧ Kp w' T 1 [⟨0, 1, 1⟩]) := fun S bs W h =>
    (own_close h (by simp)).mono fun e w' ⟨T, x1, x2⟩ => ⟨T, by rw [x1, hcl]; rfl, Lib.hid (by have := x2.out; rw [hcl] at this; exact ⟨this.1, this.2.1⟩)⟩
  have h6 : ∀ S bs W, Ow w W S 1 2 [] bs → Calls Try.prog 8 #[.pointer (some ⟨S, 0, none⟩)] W fun e w' => e = .returned (.int .i64 0) ∧ W = w' := fun S bs W h => plen_any W h.1
  have hab : abv 1 0 1 1 = true := rfl
  have h7 := fun W => above_any 1 0 1 1 W (by omega) (by omega) (by omega) (by omega)
  rw [hab] at h7
  have H0 := Lib.hid hN
  have H1 := Lib.hid h1
  have H2 := Lib.hid h2
  have H3 := Lib.hid h3
  have H4 := Lib.hid h4
  have H5 := Lib.hid h5
  have H6 := Lib.hid h6
  have H7 := Lib.hid h7
  have HN0 := Lib.hid hN0
  have HN1 := Lib.hid hN1
  clear hN hN0 hN1 h1 h2 h3 h4 h5 h6 h7 hcl hab
  go_enter Try.func4, Try.ntmps4
  go_wp2_with fail
  refine H0.out.mono ?_
  rintro e w1 ⟨S, bs, rfl, HO⟩
  go_wp2_with fail
  refine (HN0.out _).mono ?_
  rintro e w' ⟨rfl, rfl⟩
  go_wp2_with fail
  refine (HN1.out _).mono ?_
  rintro e w' ⟨rfl, rfl⟩
  go_wp2_with fail
  refine (H1.out _ _ _ HO.out).mono ?_
  rintro e w2 ⟨rfl, bs2, HO2⟩
  go_wp2_with fail
  refine (H2.out _ _ _ HO2.out).mono ?_
  rintro e w3 ⟨rfl, bs3, HO3⟩
  go_wp2_with fail
  refine (H3.out _ _).mono ?_
  rintro e w' ⟨rfl, rfl⟩
  go_wp2_with fail
  refine (H4.out _ _ _ HO3.out).mono ?_
  rintro e w' ⟨rfl, rfl⟩
  go_wp2_with fail
  refine (H5.out _ _ _ HO3.out).mono ?_
  rintro e w4 ⟨T, rfl, HO4⟩
  obtain ⟨c0, c1, c2⟩ := HO4.out.2.cell (i := 0) (by omega)
  have k0 : w4.cell? ⟨T, 0, none⟩ = some (.int .i64 0) := c0
  have k1 : w4.cell? ⟨T, 1, none⟩ = some (.int .u64 1) := c1
  have k2 : w4.cell? ⟨T, 2, none⟩ = some (.int .u64 1) := c2
  clear c0 c1 c2
  go_wp2_with fail
  refine (H6.out _ _ _ HO4.out.1).mono ?_
  rintro e w' ⟨rfl, rfl⟩
  go_wp2_with fail
  refine (H7.out _).mono ?_
  rintro e w' ⟨rfl, rfl⟩
  go_wp2_with fail
  go_ret
  exact ⟨rfl, HO4.out.1.2.1⟩
end Go.Proofs.Ytmjbdjcpjaeemaa
