/-
  What num.Zig, num.Zag, num.PutText and num.GetText do, at every number and every text within the reach.
-/
import Derived.WalkKit
import Derived.WalkSpells
import Derived.WalkLawsBesides
import Derived.Lib.Hide
import Derived.Lib.AppendStr
import Derived.Laws.IdiomStrings
import Derived.Laws.BytesArg
import Derived.Test.YtmgjckgoiieppaaNumGet
namespace Go.Proofs.Ytmgjckgoiieppaa
open Go.RowKit Go.Proofs.NumMath

def zig (m : Int) : Int := if m < 0 then 2 * (-(m + 1)) + 1 else 2 * m
def zag (n : Int) : Int := if n % 2 = 1 then -(n / 2) - 1 else n / 2
theorem ret_i {k : IntKind} {a b : Int} (h : a = b) : Ending.returned (.int k a) = .returned (.int k b) := by rw [h]

set_option maxHeartbeats 400000 in
theorem zig_any (m : Int) (w : World) (hlo : -9223372036854775808 ≤ m) (hhi : m ≤ 9223372036854775807) :
    Calls Try.prog 17 #[.int .i64 m] w fun e w' => e = .returned (.int .u64 (zig m)) ∧ w = w' := by
  by_cases h : m < 0
  · go_enter Try.func17, Try.ntmps17
    go_wp2
    go_ret
    exact ⟨ret_i (by unfold zig; rw [if_pos h]), rfl⟩
  · go_enter Try.func17, Try.ntmps17
    go_wp2
    go_ret
    exact ⟨ret_i (by unfold zig; rw [if_neg (by omega)]), rfl⟩

set_option maxHeartbeats 400000 in
theorem zag_any (n : Int) (w : World) (hlo : 0 ≤ n) (hhi : n < 18446744073709551616) :
    Calls Try.prog 19 #[.int .u64 n] w fun e w' => e = .returned (.int .i64 (zag n)) ∧ w = w' := by
  by_cases h : n % 2 = 1
  · have hb : (n % 2 == 1) = true := by simp [h]
    go_enter Try.func19, Try.ntmps19
    go_wp2
    go_ret
    exact ⟨ret_i (by unfold zag; rw [if_pos h]), rfl⟩
  · have hb : (n % 2 == 1) = false := by simp; omega
    go_enter Try.func19, Try.ntmps19
    go_wp2
    go_ret
    exact ⟨ret_i (by unfold zag; rw [if_neg h]), rfl⟩

/-- A text with its length ahead. -/
def putText (s : List UInt8) : List UInt8 := put s.length ++ s

theorem strCells_map (s : ByteArray) : Lib.strCells s = s.data.toList.map b8 := rfl

set_option maxHeartbeats 1000000 in
theorem putText_any (s : ByteArray) (w : World) (hs : s.size ≤ 140737488351232) :
    Calls Try.prog 12 #[.string s] w fun e w' => ∃ v, e = .returned v ∧ w'.ownsRow w.heap.size 5 1 v (putText s.data.toList).length ((putText s.data.toList).map b8) ∧ Below w.heap.size w w' := by
  obtain ⟨i0, hi, hz0, hz1, hz2⟩ := info_parts info_u8
  have hl := put_len10 (n := s.size) (by omega)
  have e1 : (putText s.data.toList).length = (put s.size).length + s.size := by simp [putText]
  have e2 : (putText s.data.toList).map b8 = (put s.size).map b8 ++ Lib.strCells s := by rw [strCells_map]; simp [putText]
  rw [e1, e2]
  clear e1 e2
  go_enter Try.func12, Try.ntmps12
  go_wp2_with (first
    | (go_at_call 15; refine (put_any s.size (by omega) _).mono ?_; rintro e w1 ⟨v1, rfl, hown1, hb1⟩)
    | (at_builtin; refine Lib.wpList_append_own_string _ rfl (.tmp 6) (.tmp 7) 23 9 rfl w.heap.size 5 i0 Try.underlying23 Try.underlying9 hi hz0 hz1 hz2 v1 _ _ rfl hown1 s rfl (by unfold maxLen; omega) (by omega) hb1.size ?_; intro v2 w2 hown2 hg2 _))
  go_ret
  refine ⟨v2, rfl, hown2, hb1.grown hg2 hb1.size (fun k hk => ?_)⟩
  rcases hown1.2 with ⟨rfl, _⟩ | ⟨g, cap, cur, rfl, hgb, _⟩
  · simp [Value.ownBlock] at hk
  · obtain rfl : g = k := by simpa [Value.ownBlock] using hk
    exact hgb

theorem getAt_le {cs : List UInt8} {i : Int} {n to : Nat} (h : getAt cs i = (n, to, 0)) : to ≤ cs.length ∧ n < 18446744073709551616 := by
  unfold getAt at h
  by_cases h0 : i < 0 ∨ (cs.length : Int) < i
  · rw [if_pos h0] at h; simp at h
  · rw [if_neg h0] at h
    generalize hs : scan 0 0 (cs.drop i.toNat) = r at h
    obtain ⟨a, s, e⟩ := r
    by_cases he : e = 0
    · subst he
      simp at h
      obtain ⟨m, _, e1, e2, _, e4, _, e6⟩ := scan_inv _ 0 0 _ _ (by omega) hs
      simp at e1 e2 e4 e6
      omega
    · simp [he] at h

def getText (cs : List UInt8) (i most : Int) : List UInt8 × Nat × Nat :=
  if (getAt cs i).2.2 ≠ 0 then ([], 0, (getAt cs i).2.2)
  else if most < 0 ∨ most < ((getAt cs i).1 : Int) then ([], 0, 3)
  else if cs.length - (getAt cs i).2.1 < (getAt cs i).1 then ([], 0, 10)
  else ((cs.drop (getAt cs i).2.1).take (getAt cs i).1, (getAt cs i).2.1 + (getAt cs i).1, 0)

/-- 'string(b[lo:hi])' of a slice of bytes. -/
theorem window_run (A : Option Addr) (cs : List UInt8) (cap lo n : Nat) (hn : lo + n ≤ cs.length) (hl : cs.length ≤ cap) (W : World) (n₀ : Nat) (hr : Holds8 n₀ W A cs) :
    ∃ A' : Option Addr, (∀ w : World, (Instr.slice 23 (.slice A cs.length cap) (some (.int .i64 (lo : Int))) (some (.int .i64 ((lo : Int) + (n : Int)))) none).run Try.prog w = .ok (.slice A' n (cap - lo)) w) ∧
      (convert 23 9 (.slice A' n (cap - lo))).run Try.prog W = .ok (.string ⟨((cs.drop lo).take n).toArray⟩) W := by
  refine ⟨if cap = lo then A else A.map (·.add (lo * 1)), fun w => ?_, ?_⟩
  · rw [run_slice_lh w 23 A cs.length cap (by kernel_rfl) .i64 .i64 (lo : Int) ((lo : Int) + (n : Int)) (by omega) (by omega) (by omega)]
    have hz : (sizeOf (Try.prog.elem 23)).run Try.prog w = .ok 1 w := by kernel_rfl
    rw [hz]
    have e1 : ((lo : Int) + (n : Int)).toNat = lo + n := by omega
    simp only [sliced, Result.andThen, Int.toNat_natCast, e1, Nat.add_sub_cancel_left]
  · by_cases h0 : n = 0
    · subst h0
      simp only [List.take_zero]
      generalize (if cap = lo then A else A.map (·.add (lo * 1))) = X
      rcases X with _ | a
      · rw [run_convert_bytes_nil W 23 5 Try.underlying23 Try.underlying5 0 (cap - lo) 9 Try.underlying9]; rfl
      · exact run_convert_bytes_back W 23 9 5 a (cap - lo) [] Try.underlying23 Try.underlying5 Try.underlying9 (fun j hj => absurd hj (by simp))
    · obtain ⟨b, off, rfl, hb, hc⟩ := hr (by omega)
      rw [if_neg (by omega)]
      have hlen : ((cs.drop lo).take n).length = n := by simp; omega
      have := run_convert_bytes_back (P := Try.prog) W 23 9 5 (Addr.add ⟨b, off, none⟩ (lo * 1)) (cap - lo) ((cs.drop lo).take n) Try.underlying23 Try.underlying5 Try.underlying9 (fun j hj => by
        rw [hlen] at hj
        have e : (Addr.add ⟨b, off, none⟩ (lo * 1)).add j = ⟨b, off + (lo + j), none⟩ := by
          unfold Addr.add
          by_cases h1 : lo = 0 <;> by_cases h2 : j = 0 <;> simp [h1, h2, Nat.add_assoc]
        rw [e, hc (lo + j) (by omega)]
        simp [b8, show lo + j < cs.length by omega])
      rw [hlen] at this
      exact this

theorem Holds8.below {n₀ : Nat} {W W' : World} {A : Option Addr} {cs : List UInt8} (h : Holds8 n₀ W A cs) (hb : Below n₀ W W') : Holds8 n₀ W' A cs := fun h0 => by
  obtain ⟨b, off, e, hlt, hc⟩ := h h0
  exact ⟨b, off, e, hlt, fun j hj => (hb.cell (p := ⟨b, off + j, none⟩) hlt).trans (hc j hj)⟩

set_option maxHeartbeats 1000000 in
theorem getText_any (A : Option Addr) (cs : List UInt8) (cap : Nat) (i most : Int) (w : World) (hl : cs.length ≤ cap) (hcap : cap ≤ 9223372036854775807) (hm : most ≤ 9223372036854775807) (hr : Holds8 w.heap.size w A cs) :
    Calls Try.prog 13 #[.slice A cs.length cap, .int .i64 i, .int .i64 most] w fun e w' => e = .returned (.tuple #[.string ⟨(getText cs i most).1.toArray⟩, .int .i64 ((getText cs i most).2.1 : Int), .int .u16 ((getText cs i most).2.2 : Int)]) ∧ Below w.heap.size w w' := by
  have hget := get_any A cs cap i w hl hcap hr
  generalize hT : getText cs i most = T
  unfold getText at hT
  generalize hg : getAt cs i = g at hget hT
  obtain ⟨n, to, e0⟩ := g
  dsimp only at hT hget
  by_cases he : e0 = 0
  · subst he
    obtain ⟨hto, hn⟩ := getAt_le hg
    simp only [ne_eq, not_true_eq_false, if_false] at hT
    clear hg
    have HG := Lib.hid hget
    clear hget
    by_cases h1 : most < 0 ∨ most < (n : Int)
    · rw [if_pos h1] at hT
      subst hT
      by_cases h2 : most < 0
      · go_enter Try.func13, Try.ntmps13
        go_wp2_with (go_at_call 14; refine HG.out.mono ?_; rintro e w1 ⟨rfl, hb1⟩)
        go_ret3
        exact ⟨rfl, hb1⟩
      · have h3 : most < (n : Int) := by omega
        go_enter Try.func13, Try.ntmps13
        go_wp2_with (go_at_call 14; refine HG.out.mono ?_; rintro e w1 ⟨rfl, hb1⟩)
        go_ret3
        exact ⟨rfl, hb1⟩
    · have h2 : ¬ most < 0 := by omega
      have h3 : ¬ most < (n : Int) := by omega
      rw [if_neg h1] at hT
      clear h1
      obtain ⟨len, hlen⟩ : ∃ len, cs.length = len := ⟨_, rfl⟩
      by_cases h4 : cs.length - to < n
      · rw [if_pos h4] at hT
        subst hT
        rw [hlen] at HG h4 hto hl ⊢
        have h5 : (len : Int) - (to : Int) < (n : Int) := by omega
        clear hlen hr
        go_enter Try.func13, Try.ntmps13
        go_wp2_with (go_at_call 14; refine HG.out.mono ?_; rintro e w1 ⟨rfl, hb1⟩)
        go_ret3
        exact ⟨rfl, hb1⟩
      · rw [if_neg h4] at hT
        subst hT
        have HR := Lib.hid hr
        have HW := Lib.hid (fun (W : World) (hb : Below w.heap.size w W) => window_run A cs cap to n (by omega) hl W w.heap.size (hr.below hb))
        rw [hlen] at HG h4 hto hl HW ⊢
        have h5 : ¬ (len : Int) - (to : Int) < (n : Int) := by omega
        generalize (cs.drop to).take n = out at HW
        clear hlen hr HR
        go_enter Try.func13, Try.ntmps13
        go_wp2_with (go_at_call 14; refine HG.out.mono ?_; rintro e w1 ⟨rfl, hb1⟩; obtain ⟨A', hs1, hs2⟩ := HW.out w1 hb1)
        go_ret3
        exact ⟨rfl, hb1⟩
  · simp only [ne_eq, he, not_false_eq_true, if_true] at hT
    subst hT
    clear hg
    have he' : ((e0 : Int) != 0) = true := by simp; exact he
    have HG := Lib.hid hget
    clear hget hr
    go_enter Try.func13, Try.ntmps13
    go_wp2_with (go_at_call 14; refine HG.out.mono ?_; rintro e w1 ⟨rfl, hb1⟩)
    go_ret3
    exact ⟨rfl, hb1⟩

end Go.Proofs.Ytmgjckgoiieppaa
