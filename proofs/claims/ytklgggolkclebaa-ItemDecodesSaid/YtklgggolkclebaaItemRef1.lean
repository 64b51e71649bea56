/-
  The document's own answers of layer 3 (telemeterref03), the small ones: a field that is a number, one that is a text, rows joined, names, times, logs.
-/
import Derived.Test.YtklgggolkclebaaRefPut
import Derived.Test.YtklgggolkclebaaRows0
import Derived.Test.YtklgggolkclebaaItemRightOf
namespace Go.Proofs.Ytklgggolkclebaa
open Go.RowKit Go.Proofs.NumMath Go.Proofs.ItemMath

theorem own_nothing {w : World} {base : Nat} : w.ownsRow base 5 1 (.slice none 0 0) ([] : List UInt8).length (([] : List UInt8).map b8) := World.ownsRow_nil _ _ _ _
theorem own_lower0 {w : World} {b c : Nat} {e : TypeId} {v : Value} {n : Nat} {xs : List Value} (h : w.ownsRow b e 1 v n xs) (hb : c ≤ b) : w.ownsRow c e 1 v n xs := by
  refine ⟨h.1, ?_⟩
  rcases h.2 with ⟨rfl, h0⟩ | ⟨g, cap, cur, rfl, hgb, hr⟩
  · exact .inl ⟨rfl, h0⟩
  · exact .inr ⟨g, cap, cur, rfl, by omega, hr⟩

set_option maxRecDepth 100000 in
set_option maxHeartbeats 1000000 in
/-- **telemeterref03.number.** -/
theorem refNumber_any (k n : Nat) (w : World) (hk : k < 100) (hn : n < 18446744073709551616) (z : List UInt8) (m : Nat) (hz : fieldN k n = z) (hm : z.length = m) :
    Calls Try.prog 31 #[.int .i64 (k : Int), .int .u64 (n : Int)] w fun e w' => ∃ A c, e = .returned (.slice A m c) ∧ w'.ownsRow w.heap.size 5 1 (.slice A m c) z.length (z.map b8) ∧ Below w.heap.size w w' := by
  by_cases h0 : n = 0
  · subst h0
    have d : (((0 : Nat) : Int) == 0) = true := by simp
    have e : z = [] := by rw [← hz]; unfold fieldN; rw [if_pos rfl]
    subst e
    obtain rfl : 0 = m := hm
    go_enter Try.func31, Try.ntmps31
    go_wp2_with fail
    go_ret
    exact ⟨none, 0, rfl, own_nothing, Below.refl _ _⟩
  · have d : ((n : Int) == 0) = false := by simp; omega
    have hz2 : z = put (2 * k) ++ put n := by rw [← hz]; unfold fieldN; rw [if_neg h0]
    have l1 := put_len10 (n := 2 * k) (by omega)
    have l2 := put_len10 hn
    have hm10 : m ≤ 20 := by rw [← hm, hz2]; simp; omega
    have e1 : (2 : Int) * (k : Int) = ((2 * k : Nat) : Int) := by omega
    have p1 := fun W => refPut_any (2 * k) (by omega) W
    have p2 := fun W => refPut_holds n hn W
    obtain ⟨t, ht⟩ : ∃ t, t = 2 * k := ⟨_, rfl⟩
    rw [← ht] at e1 p1 hz2 l1
    obtain ⟨len2, hlen2⟩ : ∃ l, (put n).length = l := ⟨_, rfl⟩
    rw [hlen2] at p2 l2
    have htb : t < 200 := by omega
    have P1 := Lib.hid p1
    have P2 := Lib.hid p2
    have HZ := Lib.hid hz2
    have HM := Lib.hid hm
    have HL2 := Lib.hid hlen2
    clear p1 p2 hz2 hz hm ht hlen2
    go_enter Try.func31, Try.ntmps31
    go_wp2_with fail
    refine (P1.out _).mono ?_
    rintro e w1 ⟨v1, rfl, ho1, hb1⟩
    have HO1 := Lib.hid ho1
    clear ho1
    go_wp2_with fail
    refine (P2.out _).mono ?_
    rintro e w2 ⟨A2, c2, rfl, hl2, hc2, hr2, hb2⟩
    have HB := hb1.trans (hb2.mono hb1.size)
    have HO2 := Lib.hid (own_later HO1.out hb2)
    have HR2 := Lib.hid hr2
    have hS := HB.size
    have HN : Hid (A2 = none → c2 = 0) := Lib.hid (fun h => by
      subst h
      have := hr2 (by rw [HL2.out]; have := put_pos n; rw [HL2.out] at this; omega)
      obtain ⟨b, off, e, _⟩ := this
      cases e)
    clear hr2 hb1 hb2
    go_wp2_with (at_builtin; refine app_bytes rfl (.tmp 15) (.tmp 16) rfl w.heap.size w2.heap.size v1 (put t) (put n) z m HZ.out HM.out rfl HO2.out A2 len2 c2 rfl HL2.out HR2.out HN.out (by omega) hS ?_; intro A3 c3 w3 hown3 hg3; have hB3 := below_grown HB hS HO2.out hg3; have HO3 := Lib.hid hown3; clear hown3 hg3)
    go_ret
    exact ⟨A3, c3, rfl, HO3.out, hB3⟩

set_option maxRecDepth 100000 in
set_option maxHeartbeats 1000000 in
/-- **telemeterref03.text.** -/
theorem refText_any (k : Nat) (s : ByteArray) (w : World) (hk : k < 100) (hs : s.size ≤ 100000) (z : List UInt8) (m : Nat) (hz : fieldT k s.data.toList = z) (hm : z.length = m) :
    Calls Try.prog 30 #[.int .i64 (k : Int), .string s] w fun e w' => ∃ A c, e = .returned (.slice A m c) ∧ w'.ownsRow w.heap.size 5 1 (.slice A m c) z.length (z.map b8) ∧ Below w.heap.size w w' := by
  by_cases h0 : s.size = 0
  · have hnm := empty_of h0
    have e : z = [] := by
      rw [← hz]; unfold fieldT; rw [if_pos (List.eq_nil_of_length_eq_zero (by rw [size_list]; exact h0))]
    subst e
    obtain rfl : 0 = m := hm
    go_enter Try.func30, Try.ntmps30
    go_wp2_with fail
    go_ret
    exact ⟨none, 0, rfl, own_nothing, Below.refl _ _⟩
  · have hnm := full_of h0
    have hz2 : z = put (2 * k + 1) ++ putText s.data.toList := by
      rw [← hz]; unfold fieldT; rw [if_neg (fun e => h0 (by rw [← size_list, e]; rfl))]; rfl
    have l1 := put_len10 (n := 2 * k + 1) (by omega)
    have l2 := put_len10 (n := s.data.toList.length) (by rw [size_list]; omega)
    have e2 : (putText s.data.toList).length = (put s.data.toList.length).length + s.size := by unfold putText; rw [List.length_append, size_list]
    have hm10 : m ≤ 200000 := by rw [← hm, hz2, List.length_append]; omega
    have e1 : (2 : Int) * (k : Int) = ((2 * k : Nat) : Int) := by omega
    have p1 := fun W => refPut_any (2 * k + 1) (by omega) W
    have p2 := fun W => refPutText_holds s W (by omega)
    obtain ⟨t, ht⟩ : ∃ t, t = 2 * k := ⟨_, rfl⟩
    obtain ⟨t1, ht1⟩ : ∃ t1, t1 = t + 1 := ⟨_, rfl⟩
    rw [← ht, ← ht1] at p1 hz2 l1
    rw [← ht] at e1
    have e3 : (t : Int) + 1 = (t1 : Int) := by omega
    obtain ⟨len2, hlen2⟩ : ∃ l, (putText s.data.toList).length = l := ⟨_, rfl⟩
    have hpos : 0 < len2 := by rw [← hlen2, e2]; omega
    rw [hlen2] at p2
    have htb : t1 < 300 := by omega
    have htb0 : t < 300 := by omega
    have P1 := Lib.hid p1
    have P2 := Lib.hid p2
    have HZ := Lib.hid hz2
    have HM := Lib.hid hm
    have HL2 := Lib.hid hlen2
    clear p1 p2 hz2 hz hm ht ht1 hlen2 e2 l1 l2
    go_enter Try.func30, Try.ntmps30
    go_wp2_with fail
    refine (P1.out _).mono ?_
    rintro e w1 ⟨v1, rfl, ho1, hb1⟩
    have HO1 := Lib.hid ho1
    clear ho1
    go_wp2_with fail
    refine (P2.out _).mono ?_
    rintro e w2 ⟨A2, c2, rfl, hl2, hc2, hr2, hb2⟩
    have HB := hb1.trans (hb2.mono hb1.size)
    have HO2 := Lib.hid (own_later HO1.out hb2)
    have HR2 := Lib.hid hr2
    have hS := HB.size
    have HN : Hid (A2 = none → c2 = 0) := Lib.hid (fun h => by
      subst h
      have := hr2 (by rw [HL2.out]; exact hpos)
      obtain ⟨b, off, e, _⟩ := this
      cases e)
    clear hr2 hb1 hb2
    go_wp2_with (at_builtin; refine app_bytes rfl (.tmp 16) (.tmp 17) rfl w.heap.size w2.heap.size v1 (put t1) (putText s.data.toList) z m HZ.out HM.out rfl HO2.out A2 len2 c2 rfl HL2.out HR2.out HN.out (by omega) hS ?_; intro A3 c3 w3 hown3 hg3; have hB3 := below_grown HB hS HO2.out hg3; have HO3 := Lib.hid hown3; clear hown3 hg3)
    go_ret
    exact ⟨A3, c3, rfl, HO3.out, hB3⟩

theorem flat_succ {css : List (List UInt8)} {i : Nat} (h : i < css.length) : (css.take (i + 1)).flatten = (css.take i).flatten ++ css.getD i [] := by
  rw [List.take_succ_eq_append_getElem h, List.flatten_append]
  simp [List.getD_eq_getElem?_getD, h]
theorem flat_le (css : List (List UInt8)) (i : Nat) : (css.take i).flatten.length ≤ css.flatten.length := by
  have h := congrArg (fun l => (List.flatten l).length) (List.take_append_drop i css)
  simp only [List.flatten_append, List.length_append] at h
  omega

set_option maxRecDepth 100000 in
set_option maxHeartbeats 1000000 in
/-- **telemeterref03.joined.** -/
theorem refJoined_any (A : Option Addr) (css : List (List UInt8)) (n cap : Nat) (w : World) (hn : css.length = n) (hn2 : n ≤ 1000) (hz : css.flatten.length ≤ 500000) (hr : HoldsRows w.heap.size w A css) :
    Calls Try.prog 29 #[.slice A n cap] w fun e w' => ∃ A' c', e = .returned (.slice A' css.flatten.length c') ∧ w'.ownsRow w.heap.size 5 1 (.slice A' css.flatten.length c') css.flatten.length (css.flatten.map b8) ∧ Below w.heap.size w w' := by
  have HR := Lib.hid hr
  have HN := Lib.hid hn
  have HFZ := Lib.hid hz
  clear hr hn hz
  obtain ⟨F, hF⟩ : ∃ F, css.flatten.length = F := ⟨_, rfl⟩
  have HF := Lib.hid hF
  rw [hF]
  clear hF
  go_enter Try.func29, Try.ntmps29
  go_wp2_with fail
  go_loopw [3, 4] (fun v b wr => ∃ (i k c : Nat) (A1 : Option Addr), i ≤ n ∧ v = .slice A1 k c ∧ b = .int .i64 (i : Int) ∧ Hid ((css.take i).flatten.length = k) ∧ Hid (wr.ownsRow w.heap.size 5 1 (.slice A1 k c) (css.take i).flatten.length ((css.take i).flatten.map b8)) ∧ Below w.heap.size w wr) (fun _ b _ => n - (intOf b).toNat)
  case atStart => exact ⟨0, 0, 0, none, by omega, rfl, rfl, by simp [Hid], by simpa [Hid] using own_nothing, Below.refl _ _⟩
  case round =>
    obtain ⟨i, k, c, A1, hi, rfl, rfl, hk, hO, hB⟩ := hrel
    by_cases hlt : i < n
    · have dl : decide ((i : Int) < (n : Int)) = true := by simp; omega
      have dl' : decide (i < n) = true := by simp; omega
      have hil : i < css.length := by rw [HN.out]; exact hlt
      obtain ⟨b, off, rfl, hbl, hrow⟩ := (HR.out.below hB) (by omega)
      obtain ⟨Aj, cj, hc, h8, hcl, hcm, hno⟩ := hrow i hil
      obtain ⟨y, hy⟩ : ∃ y, css.getD i [] = y := ⟨_, rfl⟩
      rw [hy] at hc h8 hcl
      obtain ⟨ly, hly⟩ : ∃ l, y.length = l := ⟨_, rfl⟩
      rw [hly] at hc hcl
      have hsn := flat_succ hil
      rw [hy] at hsn
      have hle := flat_le css (i + 1)
      obtain ⟨k2, hk2⟩ : ∃ k2, (css.take (i + 1)).flatten.length = k2 := ⟨_, rfl⟩
      rw [hk2] at hle
      have hkb : k2 ≤ 1000000 := by have := HFZ.out; omega
      have HK2 := Lib.hid hk2
      have HY := Lib.hid hly
      have HS := Lib.hid hsn
      have H8 := Lib.hid h8
      have HNO := Lib.hid hno
      have hS := hB.size
      clear hk2 hly hsn h8 hno hrow hy hle hil
      go_wp2_with (at_builtin; refine app_bytes rfl (.tmp 11) (.tmp 15) rfl w.heap.size w.heap.size (.slice A1 k c) (css.take i).flatten y (css.take (i + 1)).flatten k2 HS.out HK2.out rfl hO.out Aj ly cj rfl HY.out H8.out HNO.out hkb hS ?_; intro A3 c3 w3 hown3 hg3; have hB3 := below_grown hB hS hO.out hg3; have HO3 := Lib.hid hown3; clear hown3 hg3)
      go_roundw
      case rel => exact ⟨i + 1, k2, c3, A3, by omega, rfl, by go_num, HK2, HO3, hB3⟩
      case measure => simp [intOf]; omega
    · have dl : decide ((i : Int) < (n : Int)) = false := by simp; omega
      have dl' : decide (i < n) = false := by simp; omega
      obtain rfl : i = n := by omega
      have e : css.take i = css := List.take_of_length_le (by rw [HN.out]; omega)
      rw [e] at hk hO
      obtain rfl : k = F := by rw [← hk.out, HF.out]
      rw [HF.out] at hO
      go_wp2_with fail
      go_ret
      exact ⟨A1, c, rfl, hO.out, hB⟩

theorem refTime_any (n : Int) (w : World) (r : Bool) (hr : (decide (0 ≤ n) && decide (n ≤ 1099511627776)) = r) : Calls Try.prog 43 #[.int .i64 n] w fun e w' => e = .returned (.bool r) ∧ w = w' := by
  by_cases h1 : 0 ≤ n
  · have d1 : decide (0 ≤ n) = true := by simp; omega
    rw [d1, Bool.true_and] at hr
    have HR := Lib.hid hr
    clear hr
    go_enter Try.func43, Try.ntmps43
    go_wp2_with fail
    all_goals
      go_ret
      exact ⟨ret_b (by rw [← HR.out]), rfl⟩
  · have d1 : decide (0 ≤ n) = false := by simp; omega
    rw [d1, Bool.false_and] at hr
    subst hr
    go_enter Try.func43, Try.ntmps43
    go_wp2_with fail
    all_goals
      go_ret
      exact ⟨rfl, rfl⟩

end Go.Proofs.Ytklgggolkclebaa
