/-
  A sketch of a law's own, from world to world: counted, added to, beside another one.
-/
import Derived.Test.YtkhbodlffhfmnaaDoorSkKey
namespace Go.Proofs.YtkhbodlffhfmnaaDoor
open Go.RowKit Go.Proofs.HashMath Go.Proofs.SkMath

/-- In world W, which is as w was below n₀, there is this sketch, whose blocks are from n₀ on. -/
structure On (n₀ : Nat) (w W : World) (S A G r m seed : Nat) (f : Nat → Nat → Nat) (tot : Nat) : Prop where
  st : Steps w
  lt : 2 < n₀
  sn : n₀ ≤ S
  an : n₀ ≤ A
  gn : n₀ ≤ G
  le : n₀ ≤ W.heap.size
  b : Below n₀ w W
  k : Sk W S A G r m seed f tot
theorem On.steps {n₀ : Nat} {w W : World} {S A G r m seed tot : Nat} {f : Nat → Nat → Nat} (h : On n₀ w W S A G r m seed f tot) : Steps W := h.st.below h.lt h.b
theorem On.later {n₀ : Nat} {w W W' : World} {S A G r m seed tot : Nat} {f : Nat → Nat → Nat} (h : On n₀ w W S A G r m seed f tot) (hb : Below W.heap.size W W') : On n₀ w W' S A G r m seed f tot :=
  { h with
    le := Nat.le_trans h.le hb.size
    b := h.b.trans (hb.mono h.le)
    k := h.k.later hb }
theorem On.mut {n₀ : Nat} {w W W' : World} {S A G r m seed tot : Nat} {f : Nat → Nat → Nat} (h : On n₀ w W S A G r m seed f tot) {bs : List Nat} (hm : Mut bs W W') (hbs : ∀ k ∈ bs, n₀ ≤ k) (hS : S ∉ bs) (hA : A ∉ bs) (hG : G ∉ bs) : On n₀ w W' S A G r m seed f tot :=
  { h with
    le := Nat.le_trans h.le hm.size
    b := h.b.trans (hm.below h.le hbs)
    k := h.k.mut hm hS hA hG }
theorem On.to {n₀ : Nat} {w W : World} {S A G r m seed tot : Nat} {f g : Nat → Nat → Nat} {x : Nat} (h : On n₀ w W S A G r m seed f tot) (e : f = g) (ex : tot = x) : On n₀ w W S A G r m seed g x := e ▸ ex ▸ h

theorem On.count {n₀ : Nat} {w W : World} {S A G r m seed tot : Nat} {f : Nat → Nat → Nat} (h : On n₀ w W S A G r m seed f tot) (s : ByteArray) (hs : s.size ≤ 9223372036854775807) {x : Nat} (hx : least (placeOf seed s.data.toList m) f r = x) :
    Calls Tryd.prog 39 #[.pointer (some ⟨S, 0, none⟩), .string s] W fun e w' => e = .returned (.int .u64 (x : Int)) ∧ Below W.heap.size W w' :=
  hx ▸ count_any s W h.steps h.k hs
theorem On.add {n₀ : Nat} {w W : World} {S A G r m seed tot : Nat} {f : Nat → Nat → Nat} (h : On n₀ w W S A G r m seed f tot) (s : ByteArray) (hs : s.size ≤ 9223372036854775807) (n : Nat) (hn : n < 18446744073709551616) :
    Calls Tryd.prog 40 #[.pointer (some ⟨S, 0, none⟩), .string s, .int .u64 (n : Int)] W fun e w' => e = .returned (.tuple #[]) ∧ Mut [S, G] W w' ∧ On n₀ w w' S A G r m seed (add r (placeOf seed s.data.toList m) n f) (plus tot n) :=
  (add_any s n W h.steps h.k hs hn).mono fun _ _ ⟨he, hm, hk⟩ => ⟨he, hm, { h with
    le := Nat.le_trans h.le hm.size
    b := h.b.trans (hm.below h.le (by have := h.sn; have := h.gn; simp; omega))
    k := hk }⟩
theorem on_new {n₀ : Nat} {w W : World} (r m seed : Nat) (hS : Steps w) (hlt : 2 < n₀) (hle : n₀ ≤ W.heap.size) (hb : Below n₀ w W) (r1 : 1 ≤ r) (r8 : r ≤ 8) (m1 : 1 ≤ m) (m2 : m ≤ 1024) (hs : seed < 18446744073709551616) :
    Calls Tryd.prog 36 #[.int .i64 (r : Int), .int .i64 (m : Int), .int .u64 (seed : Int)] W fun e w' => ∃ S A G, e = .returned (.pointer (some ⟨S, 0, none⟩)) ∧ Below W.heap.size W w' ∧ W.heap.size ≤ S ∧ W.heap.size ≤ A ∧ W.heap.size ≤ G ∧ On n₀ w w' S A G r m seed (fun _ _ => 0) 0 :=
  (new_any r m seed W r1 r8 m1 m2 hs).mono fun _ _ ⟨S, A, G, he, hb', hS', hA', hG', hk⟩ => ⟨S, A, G, he, hb', hS', hA', hG', { st := hS, lt := hlt, sn := by omega, an := by omega, gn := by omega, le := Nat.le_trans hle hb'.size, b := hb.trans (hb'.mono hle), k := hk }⟩
/-- The blocks of one that is made later are others. -/
theorem least_0 (p : Nat → Nat) {r : Nat} (h : 1 ≤ r) : least p (fun _ _ => 0) r = 0 := least_alone h (by omega) fun _ _ => rfl
theorem least_all {p : Nat → Nat} {f : Nat → Nat → Nat} {r all : Nat} (h : 1 ≤ r) (hf : ∀ i j, f i j ≤ all) : least p f r ≤ all := Nat.le_trans (least_le (k := r) (i := 0) (by omega)) (hf _ _)
end Go.Proofs.YtkhbodlffhfmnaaDoor
