/-
  What the laws that offer a list share: the offers of a list that came in, one behind the other; a sampler to which they were offered.
-/
import Derived.Laws.StructEq
import Derived.Test.YtmjbdjcpjaeemaaPrArgs
import Derived.Test.YtmjbdjcpjaeemaaPrKnown
namespace Go.Proofs.Ytmjbdjcpjaeemaa
open Go.RowKit Go.Proofs.PrioMath

/-- The first k offers of a list, each of its weight and 1. -/
def mkO (m : Nat) (l : List Oa) : Nat → List Of
  | 0 => []
  | k + 1 => mkO m l k ++ [⟨k, (l.getD k (0, 0)).1 + 1, (l.getD k (0, 0)).2 % dr m⟩]
theorem mk_len (m : Nat) (l : List Oa) (k : Nat) : (mkO m l k).length = k := by
  induction k with
  | zero => rfl
  | succ k ih => rw [mkO, List.length_append, ih]; rfl
theorem mk_at (m : Nat) (l : List Oa) {k i : Nat} (h : i < k) : at_ (mkO m l k) i = ⟨i, (l.getD i (0, 0)).1 + 1, (l.getD i (0, 0)).2 % dr m⟩ := by
  induction k with
  | zero => omega
  | succ k ih =>
    have hl := mk_len m l k
    by_cases e : i = k
    · subst e
      have : at_ (mkO m l (i + 1)) i = ⟨i, (l.getD i (0, 0)).1 + 1, (l.getD i (0, 0)).2 % dr m⟩ := by
        unfold at_
        rw [mkO, List.getD, List.getElem?_append_right (by omega), hl]
        simp
      exact this
    · rw [← ih (by omega)]
      unfold at_
      rw [mkO, List.getD, List.getElem?_append_left (by omega)]
      rfl
theorem mk_pl (m : Nat) (l : List Oa) (k : Nat) : Pl (mkO m l k) := fun i hi => by rw [mk_at m l (by rwa [mk_len] at hi)]
theorem kept_pl {k m : Nat} {os : List Of} (h : Pl os) : (closeL k m os).length = min os.length k := by
  obtain ⟨s, r, hT⟩ := top_of k h
  unfold closeL
  rw [List.length_map, hT.kept_len]
theorem close_few {k m : Nat} {os : List Of} (h : Pl os) (hn : os.length ≤ k) {i : Nat} (hi : i < os.length) : at_ (closeL k m os) i = ⟨i, (at_ os i).w, 1⟩ := by
  obtain ⟨s, r, hT⟩ := top_of k h
  obtain ⟨_, _, e1, e2⟩ := hT.few hn
  rw [close_at (by rw [e1]; exact hi), e1, e2, h i hi]
  simp [cnts]
/-- A sampler to which the first i offers of a list were offered. -/
def Of_ (w W : World) (S k m : Nat) (os : List Of) : Prop := ∃ bs, Ow w W S k m os bs
theorem Of_.later {w W W' : World} {S k m : Nat} {os : List Of} (h : Of_ w W S k m os) (hb : Below W.heap.size W W') : Of_ w W' S k m os := by
  obtain ⟨bs, h⟩ := h
  exact ⟨bs, h.later hb⟩
theorem Of_.below {w W : World} {S k m : Nat} {os : List Of} (h : Of_ w W S k m os) : Below w.heap.size w W := by
  obtain ⟨bs, h⟩ := h
  exact h.2.1
theorem of_add {w W : World} {S k m i : Nat} {l : List Oa} {x d x1 : Nat} (h : Of_ w W S k m (mkO m l i)) (hx : (l.getD i (0, 0)).1 = x) (hd : (l.getD i (0, 0)).2 = d) (hx1 : x1 = x + 1) (hxl : x ≤ 255) (hdl : d ≤ 255) (hi : i ≤ 1000000) :
    Calls Try.prog 7 #[.pointer (some ⟨S, 0, none⟩), .int .u64 (x1 : Int), .int .u64 (d : Int)] W fun e w' => e = .returned (.tuple #[.int .i64 (i : Int), .int .u16 0]) ∧ Hid (Of_ w w' S k m (mkO m l (i + 1))) := by
  obtain ⟨bs, h⟩ := h
  have := own_add x1 d h (by omega) (by omega) (by omega) (by rw [mk_len]; exact hi)
  rw [mk_len] at this
  refine this.mono fun e w' ⟨he, bs', h2⟩ => ⟨he, Lib.hid ⟨bs', ?_⟩⟩
  rw [mkO, hx, hd, ← hx1]
  exact h2.out.1
theorem of_close {w W : World} {S k m : Nat} {os : List Of} (h : Of_ w W S k m os) (hn : os.length ≤ 1000000) {n : Nat} (hk : (closeL k m os).length = n) :
    Calls Try.prog 9 #[.pointer (some ⟨S, 0, none⟩)] W fun e w' => ∃ T, e = .returned (.slice (some ⟨T, 0, none⟩) n n) ∧ Hid (Ow w w' S k m [] [S] ∧ Kp w' T n (closeL k m os) ∧ T ≠ S ∧ W.heap.size ≤ T) := by
  obtain ⟨bs, h⟩ := h
  subst hk
  exact (own_close h hn).mono fun e w' ⟨T, he, h1⟩ => ⟨T, he, Lib.hid ⟨h1.out.1, h1.out.2.1, h1.out.2.2.1, h1.out.2.2.2.1⟩⟩
/-- The cells of a list that came in. -/
theorem ofs_at {B : Nat} {W : World} {g off n i : Nat} {l : List Oa} (h : ∀ j, j < l.length → W.cell? ⟨g, off + j * 2, none⟩ = some (.int .u8 ((l.getD j (0, 0)).1 : Int)) ∧ W.cell? ⟨g, off + j * 2 + 1, none⟩ = some (.int .u8 ((l.getD j (0, 0)).2 : Int)) ∧ (l.getD j (0, 0)).1 ≤ 255 ∧ (l.getD j (0, 0)).2 ≤ 255) (hg : g < B) (hi : i < n) (hn : l.length = n) {x d : Nat} (hx : (l.getD i (0, 0)).1 = x) (hd : (l.getD i (0, 0)).2 = d) :
    (x ≤ 255 ∧ d ≤ 255) ∧ ∀ W', Below B W W' → W'.cell? ⟨g, off + i * 2, none⟩ = some (.int .u8 (x : Int)) ∧ W'.cell? ⟨g, off + i * 2 + 1, none⟩ = some (.int .u8 (d : Int)) := by
  obtain ⟨h1, h2, h3, h4⟩ := h i (by omega)
  rw [hx] at h1 h3
  rw [hd] at h2 h4
  exact ⟨⟨h3, h4⟩, fun W' hb => ⟨(hb.cell (p := ⟨g, off + i * 2, none⟩) hg).trans h1, (hb.cell (p := ⟨g, off + i * 2 + 1, none⟩) hg).trans h2⟩⟩

theorem kept_ne (a b c : Int) (w : World) : (binOp .neq 38 (.agg #[.int .i64 a, .int .u64 b, .int .u64 c]) (.agg #[.int .i64 a, .int .u64 b, .int .u64 c])).run Try.prog w = .ok (.bool false) w := by
  have u3 := Try.underlying3
  have u4 := Try.underlying22
  have hS : Try.prog.underlying 38 = some (.struct (Try.prog.fieldsOf 38)) := by kernel_rfl
  have hp : Try.prog.stoodInHeld 38 = false := by kernel_rfl
  rw [run_neq_struct, show (10000 : Nat) = 9999 + 1 from rfl, run_equalIn_agg w 9999 38 _ _ hS hp]
  simp only [Program.fieldsOf, Try.underlying38]
  go_simp
/-- A sampler beside a list that Close told before. -/
def Ob (w W : World) (S k m : Nat) (os : List Of) (T c : Nat) (out : List Of) : Prop := ∃ bs, Ow w W S k m os bs ∧ Kp W T c out ∧ T ∉ bs
theorem Ob.later {w W W' : World} {S k m T c : Nat} {os out : List Of} (h : Ob w W S k m os T c out) (hb : Below W.heap.size W W') : Ob w W' S k m os T c out := by
  obtain ⟨bs, h1, h2, h3⟩ := h
  exact ⟨bs, h1.later hb, h2.later hb, h3⟩
theorem Ob.below {w W : World} {S k m T c : Nat} {os out : List Of} (h : Ob w W S k m os T c out) : Below w.heap.size w W := by
  obtain ⟨bs, h, _⟩ := h
  exact h.2.1
theorem ob_add {w W : World} {S k m i T c : Nat} {l : List Oa} {out : List Of} {x d x1 : Nat} (h : Ob w W S k m (mkO m l i) T c out) (hx : (l.getD i (0, 0)).1 = x) (hd : (l.getD i (0, 0)).2 = d) (hx1 : x1 = x + 1) (hxl : x ≤ 255) (hdl : d ≤ 255) (hi : i ≤ 1000000) :
    Calls Try.prog 7 #[.pointer (some ⟨S, 0, none⟩), .int .u64 (x1 : Int), .int .u64 (d : Int)] W fun e w' => e = .returned (.tuple #[.int .i64 (i : Int), .int .u16 0]) ∧ Hid (Ob w w' S k m (mkO m l (i + 1)) T c out) := by
  obtain ⟨bs, h, hk, hT⟩ := h
  have := own_add x1 d h (by omega) (by omega) (by omega) (by rw [mk_len]; exact hi)
  rw [mk_len] at this
  refine this.mono fun e w' ⟨he, bs', h2⟩ => ⟨he, Lib.hid ⟨bs', ?_, hk.mut h2.out.2.1 hT, fun hm => ?_⟩⟩
  · rw [mkO, hx, hd, ← hx1]
    exact h2.out.1
  · rcases h2.out.2.2 T hm with h3 | h3
    · exact hT h3
    · have := hk.lt; omega
theorem ob_close {w W : World} {S k m T c : Nat} {os out : List Of} (h : Ob w W S k m os T c out) (hn : os.length ≤ 1000000) {n : Nat} (hk : (closeL k m os).length = n) :
    Calls Try.prog 9 #[.pointer (some ⟨S, 0, none⟩)] W fun e w' => ∃ T', e = .returned (.slice (some ⟨T', 0, none⟩) n n) ∧ Hid (Ob w w' S k m [] T c out ∧ Kp w' T' n (closeL k m os)) := by
  obtain ⟨bs, h, hkk, hT⟩ := h
  subst hk
  have hS : S ∈ bs := by obtain ⟨_, _, _, _, _, _, _, _, _, _, _, h8, _⟩ := h.1; exact h8
  exact (own_close h hn).mono fun e w' ⟨T', he, h1⟩ => ⟨T', he, Lib.hid ⟨⟨[S], h1.out.1, hkk.mut h1.out.2.2.2.2 hT, by simp; intro e; exact hT (e ▸ hS)⟩, h1.out.2.1⟩⟩
theorem close_nil (k m : Nat) : closeL k m [] = [] := rfl
end Go.Proofs.Ytmjbdjcpjaeemaa
