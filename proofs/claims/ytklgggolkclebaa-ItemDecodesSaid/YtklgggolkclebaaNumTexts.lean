/-
  What num.PutText and num.GetText do, at every text within the reach and every place. No condition.
-/
import Derived.Lib.AppendStr
import Derived.Test.YtklgggolkclebaaNumBytes
import Derived.Test.YtklgggolkclebaaItemMath
namespace Go.Proofs.Ytklgggolkclebaa
open Go.RowKit Go.Proofs.NumMath Go.Proofs.ItemMath

/-- A text with its length ahead. -/
def putText (s : List UInt8) : List UInt8 := put s.length ++ s

theorem strCells_map (s : ByteArray) : Lib.strCells s = s.data.toList.map b8 := rfl

set_option maxHeartbeats 1000000 in
theorem putText_any (s : ByteArray) (w : World) (hs : s.size ≤ 140737488351232) :
    Calls Try.prog 48 #[.string s] w fun e w' => ∃ v, e = .returned v ∧ w'.ownsRow w.heap.size 5 1 v (putText s.data.toList).length ((putText s.data.toList).map b8) ∧ Below w.heap.size w w' := by
  obtain ⟨i0, hi, hz0, hz1, hz2⟩ := info_parts info_u8
  have hl := put_len10 (n := s.size) (by omega)
  have e1 : (putText s.data.toList).length = (put s.size).length + s.size := by simp [putText]
  have e2 : (putText s.data.toList).map b8 = (put s.size).map b8 ++ Lib.strCells s := by rw [strCells_map]; simp [putText]
  rw [e1, e2]
  clear e1 e2
  go_enter Try.func48, Try.ntmps48
  go_wp2_with (first
    | (go_at_call 49; refine (put_any s.size (by omega) _).mono ?_; rintro e w1 ⟨v1, rfl, hown1, hb1⟩)
    | (at_builtin; refine Lib.wpList_append_own_string _ rfl (.tmp 6) (.tmp 7) 22 9 rfl w.heap.size 5 i0 Try.underlying22 Try.underlying9 hi hz0 hz1 hz2 v1 _ _ rfl hown1 s rfl (by unfold maxLen; omega) (by omega) hb1.size ?_; intro v2 w2 hown2 hg2 _))
  go_ret
  refine ⟨v2, rfl, hown2, hb1.grown hg2 hb1.size (fun k hk => ?_)⟩
  rcases hown1.2 with ⟨rfl, _⟩ | ⟨g, cap, cur, rfl, hgb, _⟩
  · simp [Value.ownBlock] at hk
  · obtain rfl : g = k := by simpa [Value.ownBlock] using hk
    exact hgb

/-- num.PutText, its result read as bytes. -/
theorem putText_holds (s : ByteArray) (w : World) (hs : s.size ≤ 140737488351232) :
    Calls Try.prog 48 #[.string s] w fun e w' => ∃ A cap, e = .returned (.slice A (putText s.data.toList).length cap) ∧ (putText s.data.toList).length ≤ cap ∧ cap ≤ 9223372036854775807 ∧ Holds8 w'.heap.size w' A (putText s.data.toList) ∧ Below w.heap.size w w' :=
  (putText_any s w hs).mono fun e w' ⟨v, he, ho, hb⟩ => by
    obtain ⟨A, cap, rfl, h1, h2, h3⟩ := holds_of_own ho
    exact ⟨A, cap, he, h1, h2, h3, hb⟩

theorem window_one (A : Option Addr) (cs : List UInt8) (cap lo n : Nat) (hn : lo + n ≤ cs.length) (hl : cs.length ≤ cap) (W : World) (n₀ : Nat) (hr : Holds8 n₀ W A cs) :
    ∃ A' : Option Addr, (∀ w : World, (Instr.slice 22 (.slice A cs.length cap) (some (.int .i64 (lo : Int))) (some (.int .i64 ((lo : Int) + (n : Int)))) none).run Try.prog w = .ok (.slice A' n (cap - lo)) w) ∧
      (convert 22 9 (.slice A' n (cap - lo))).run Try.prog W = .ok (.string ⟨((cs.drop lo).take n).toArray⟩) W := by
  obtain ⟨A', h1, h2⟩ := window_all A cs cap lo n hn hl
  exact ⟨A', h1, h2 W n₀ hr⟩

set_option maxRecDepth 100000 in
set_option maxHeartbeats 1000000 in
theorem getText_any (A : Option Addr) (cs : List UInt8) (cap : Nat) (i most : Int) (w : World) (hl : cs.length ≤ cap) (hcap : cap ≤ 9223372036854775807) (hm : most ≤ 9223372036854775807) (hr : Holds8 w.heap.size w A cs) :
    Calls Try.prog 62 #[.slice A cs.length cap, .int .i64 i, .int .i64 most] w fun e w' => e = .returned (.tuple #[.string ⟨(getText cs i most).1.toArray⟩, .int .i64 ((getText cs i most).2.1 : Int), .int .u16 ((getText cs i most).2.2 : Int)]) ∧ Below w.heap.size w w' := by
  have hget := get_any A cs cap i w hl hcap hr
  generalize hT : getText cs i most = T
  unfold getText at hT
  generalize hg : getAt cs i = g at hget hT
  obtain ⟨n, to, e0⟩ := g
  dsimp only at hT hget
  by_cases he : e0 = 0
  · subst he
    obtain ⟨hto, hn⟩ := getAt_le hg
    simp only [ne_eq, not_true_eq_false, if_false] at hT
    clear hg
    have HG := Lib.hid hget
    clear hget
    by_cases h1 : most < 0 ∨ most < (n : Int)
    · rw [if_pos h1] at hT
      subst hT
      by_cases h2 : most < 0
      · go_enter Try.func62, Try.ntmps62
        go_wp2_with (go_at_call 60; refine HG.out.mono ?_; rintro e w1 ⟨rfl, hb1⟩)
        go_ret3
        exact ⟨rfl, hb1⟩
      · have h3 : most < (n : Int) := by omega
        go_enter Try.func62, Try.ntmps62
        go_wp2_with (go_at_call 60; refine HG.out.mono ?_; rintro e w1 ⟨rfl, hb1⟩)
        go_ret3
        exact ⟨rfl, hb1⟩
    · have h2 : ¬ most < 0 := by omega
      have h3 : ¬ most < (n : Int) := by omega
      rw [if_neg h1] at hT
      clear h1
      obtain ⟨len, hlen⟩ : ∃ len, cs.length = len := ⟨_, rfl⟩
      by_cases h4 : cs.length - to < n
      · rw [if_pos h4] at hT
        subst hT
        rw [hlen] at HG h4 hto hl ⊢
        have h5 : (len : Int) - (to : Int) < (n : Int) := by omega
        clear hlen hr
        go_enter Try.func62, Try.ntmps62
        go_wp2_with (go_at_call 60; refine HG.out.mono ?_; rintro e w1 ⟨rfl, hb1⟩)
        go_ret3
        exact ⟨rfl, hb1⟩
      · rw [if_neg h4] at hT
        subst hT
        have HR := Lib.hid hr
        have HW := Lib.hid (fun (W : World) (hb : Below w.heap.size w W) => window_one A cs cap to n (by omega) hl W w.heap.size (hr.below hb))
        rw [hlen] at HG h4 hto hl HW ⊢
        have h5 : ¬ (len : Int) - (to : Int) < (n : Int) := by omega
        generalize (cs.drop to).take n = out at HW
        clear hlen hr HR
        go_enter Try.func62, Try.ntmps62
        go_wp2_with (go_at_call 60; refine HG.out.mono ?_; rintro e w1 ⟨rfl, hb1⟩; obtain ⟨A', hs1, hs2⟩ := HW.out w1 hb1)
        go_ret3
        exact ⟨rfl, hb1⟩
  · simp only [ne_eq, he, not_false_eq_true, if_true] at hT
    subst hT
    clear hg
    have he' : ((e0 : Int) != 0) = true := by simp; exact he
    have HG := Lib.hid hget
    clear hget hr
    go_enter Try.func62, Try.ntmps62
    go_wp2_with (go_at_call 60; refine HG.out.mono ?_; rintro e w1 ⟨rfl, hb1⟩)
    go_ret3
    exact ⟨rfl, hb1⟩

end Go.Proofs.Ytklgggolkclebaa
