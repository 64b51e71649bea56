/-
  What container/heap's down does to the first m of the row: what stands wrong at one place only goes down to where it belongs; it tells whether it went.
-/
import Derived.Test.YthpcnnkdpgjiiaaHpUp
namespace Go.Proofs.Ythpcnnkdpgjiiaa
open Go.RowKit Go.Maps Go.Proofs.HeapMath

def Dn (w : World) (S M B cap n : Nat) (mo : Value) (l : List Tm) (m i0 : Nat) (b : Bool) (w' : World) : Prop :=
  ∃ l', l'.Perm l ∧ (∀ k, m ≤ k → at_ l' k = at_ l k) ∧ Rw w' S M mo (.slice (some ⟨B, 0, none⟩) n cap) l' ∧ Mut [B, M] w w' ∧ (b = true → Hep l' m) ∧ (b = false → l' = l ∧ UpInv l m i0)
def DnE (w : World) (S M B cap n : Nat) (mo : Value) (l : List Tm) (m i0 : Nat) (e : Ending) (w' : World) : Prop := ∃ b, e = .returned (.bool b) ∧ Dn w S M B cap n mo l m i0 b w'
structure DnMid (w : World) (S M B cap n : Nat) (mo : Value) (l : List Tm) (m i0 i : Nat) (w' : World) (l' : List Tm) : Prop where
  perm : l'.Perm l
  inv : DnInv l' m i
  len : l'.length = n
  from_ : i0 ≤ i
  keep : ∀ k, m ≤ k → at_ l' k = at_ l k
  way : i = i0 ∧ l' = l ∨ i0 < i ∧ ok l' i
  ilt : i < n
  mn : m ≤ n
  n5 : n ≤ 5000
  row : Rw w' S M mo (.slice (some ⟨B, 0, none⟩) n cap) l'
  turn : Mut [B, M] w w'
theorem DnMid.stop {w w' W : World} {S M B cap n : Nat} {mo : Value} {l l' : List Tm} {m i0 i : Nat} (h : DnMid w S M B cap n mo l m i0 i w' l') (hc : ∀ c, 0 < c → c < m → (c - 1) / 2 = i → lt (at_ l' c) (at_ l' i) = false) (hb : Below w'.heap.size w' W) :
    DnE w S M B cap n mo l m i0 (.returned (.bool (decide (i0 < i)))) W := by
  refine ⟨_, rfl, l', h.perm, h.keep, h.row.later hb, h.turn.trans (Mut.of_below hb), fun hb => ?_, fun hb => ?_⟩
  · have : i0 < i := by simpa using hb
    rcases h.way with ⟨h1, _⟩ | ⟨_, h1⟩
    · omega
    · exact up_done (dn_done h.inv hc) (.inr h1)
  · have : ¬ i0 < i := by simpa using hb
    rcases h.way with ⟨h1, rfl⟩ | ⟨h1, _⟩
    · exact ⟨rfl, h1 ▸ dn_done h.inv hc⟩
    · omega
theorem DnMid.go {w w' W : World} {S M B cap n : Nat} {mo : Value} {l l' : List Tm} {m i0 i j : Nat} (h : DnMid w S M B cap n mo l m i0 i w' l') (hji : (j - 1) / 2 = i) (hj0 : 0 < j) (hj : j < m) (hmin : ∀ c, 0 < c → c < m → (c - 1) / 2 = i → lt (at_ l' c) (at_ l' j) = false) (hlt : lt (at_ l' j) (at_ l' i) = true)
    (hW : Rw W S M mo (.slice (some ⟨B, 0, none⟩) n cap) (sw l' i j)) (hM : Mut [B, M] w' W) : DnMid w S M B cap n mo l m i0 j W (sw l' i j) := by
  have hl := h.len
  have hmn := h.mn
  have hlt0 := h.ilt
  obtain ⟨h1, h2⟩ := dn_step h.inv hji hj0 hj (by omega) hmin hlt
  refine ⟨(sw_perm (by omega) (by omega)).trans h.perm, h1, by rw [length_sw]; exact hl, by have := h.from_; omega, fun k hk => ?_, .inr ⟨by have := h.from_; omega, h2⟩, by omega, hmn, h.n5, hW, h.turn.trans hM⟩
  rw [at_sw (by omega) (by omega), if_neg (by omega), if_neg (by omega)]
  exact h.keep k hk
theorem two_kids {c i : Nat} (h0 : 0 < c) (h : (c - 1) / 2 = i) : c = 2 * i + 1 ∨ c = 2 * i + 2 := by omega

set_option maxRecDepth 100000 in
set_option maxHeartbeats 2000000 in
theorem down_any {S M B cap n : Nat} {mo : Value} {l : List Tm} (i0 m : Nat) (w : World) (h : Rw w S M mo (.slice (some ⟨B, 0, none⟩) n cap) l) (hi : i0 < n) (hmn : m ≤ n) (hu : DnInv l m i0) :
    Calls Try.prog 52 #[.iface 126 (.pointer (some ⟨S, 1, none⟩)), .int .i64 (i0 : Int), .int .i64 (m : Int)] w (DnE w S M B cap n mo l m i0) := by
  have hl := h.len2.1
  have hm5 := h.most
  have h0 : DnMid w S M B cap n mo l m i0 i0 w l := ⟨List.Perm.refl _, hu, by omega, Nat.le_refl _, fun _ _ => rfl, .inl ⟨rfl, rfl⟩, hi, hmn, by omega, h, Mut.refl _ _⟩
  have hn5 : n ≤ 5000 := by omega
  have H0 := Lib.hid h0
  clear h hu hl h0 hm5
  go_enter Try.func52, Try.ntmps52
  go_wp2_with fail
  go_loopw [7] (fun iv wr => ∃ (i : Nat) (l' : List Tm), iv = .int .i64 (i : Int) ∧ i ≤ 5000 ∧ Hid (DnMid w S M B cap n mo l m i0 i wr l')) (fun iv _ => n - (intOf iv).toNat)
  case atStart => exact ⟨i0, l, rfl, by omega, H0⟩
  case round =>
    obtain ⟨i, l', rfl, hi5, HU⟩ := hrel
    have hlen := HU.out.len
    have hilt := HU.out.ilt
    have hself : Below wr.heap.size wr wr := Below.refl _ _
    obtain ⟨a, ha, ha2⟩ : ∃ a : Nat, (2 : Int) * (i : Int) = (a : Int) ∧ a = 2 * i := ⟨2 * i, by omega, rfl⟩
    obtain ⟨c, hc, hc2⟩ : ∃ c : Nat, (a : Int) + 1 = (c : Int) ∧ c = 2 * i + 1 := ⟨2 * i + 1, by omega, rfl⟩
    obtain ⟨d, hd, hd2⟩ : ∃ d : Nat, (c : Int) + 1 = (d : Int) ∧ d = 2 * i + 2 := ⟨2 * i + 2, by omega, rfl⟩
    have hic : i < c ∧ i < d := by omega
    have ha3 : a ≤ 10000 := by omega
    have hc3 : c ≤ 10001 := by omega
    have hd3 : d ≤ 10002 := by omega
    by_cases h1 : m ≤ c
    · have hend := HU.out.stop (W := wr) (fun k k0 km kp => by have := two_kids k0 kp; omega) hself
      have HE := Lib.hid hend
      have t1 : decide ((m : Int) ≤ (c : Int)) = true := by simp; omega
      clear hend HU hlen hilt hself ha2 hc2 hd2 hd
      go_wp2_with fail
      go_ret
      exact HE.out
    · have t1 : decide ((m : Int) ≤ (c : Int)) = false := by simp; omega
      have t0 : decide ((c : Int) < 0) = false := by simp
      have t0' : ¬ (c : Int) < 0 := by omega
      by_cases h2 : d < m
      · have t2 : decide ((d : Int) < (m : Int)) = true := by simp; omega
        by_cases h3 : lt (at_ l' d) (at_ l' c) = true
        · have hl1 := less_any d c wr HU.out.row (by omega) (by omega)
          rw [h3] at hl1
          have HL1 := Lib.hid hl1
          have hk : ∀ k, 0 < k → k < m → (k - 1) / 2 = i → lt (at_ l' k) (at_ l' d) = false := fun k k0 km kp => by
            rcases two_kids k0 kp with e | e
            · rw [e, ← hc2]; exact lt_asymm h3
            · rw [e, ← hd2]; exact lt_irrefl _
          have HKI := Lib.hid hk
          clear hl1 h3 hk
          by_cases hlt : lt (at_ l' d) (at_ l' i) = true
          · have hless : ∀ W, Below wr.heap.size wr W → Calls Try.prog 72 #[.pointer (some ⟨S, 1, none⟩), .int .i64 (d : Int), .int .i64 (i : Int)] W fun e w' => e = .returned (.bool true) ∧ Below W.heap.size W w' := fun W hW => by
              have := less_any d i W (HU.out.row.later hW) (by omega) (by omega)
              rwa [hlt] at this
            have hsw : ∀ W, Below wr.heap.size wr W → Calls Try.prog 75 #[.pointer (some ⟨S, 1, none⟩), .int .i64 (i : Int), .int .i64 (d : Int)] W fun e w' => e = .returned (.tuple #[]) ∧ Hid (DnMid w S M B cap n mo l m i0 d w' (sw l' i d)) := fun W hW =>
              (swap_any i d W (HU.out.row.later hW) (by omega) (by omega)).mono fun e w' ⟨h1, h2, h3⟩ => ⟨h1, Lib.hid (HU.out.go (by omega) (by omega) (by omega) HKI.out hlt h2 ((Mut.of_below hW).trans h3))⟩
            have HL := Lib.hid hless
            have HS := Lib.hid hsw
            clear hless hsw HU hlen hlt ha2 hc2 hd2
            go_wp2_with fail
            refine HL1.out.mono ?_
            rintro e w4 ⟨rfl, hb4⟩
            go_wp2_with fail
            refine (HL.out _ hb4).mono ?_
            rintro e w5 ⟨rfl, hb5⟩
            have hb6 := hb4.trans (hb5.mono hb4.size)
            clear hb5
            go_wp2_with fail
            refine (HS.out _ hb6).mono ?_
            rintro e w6 ⟨rfl, HM⟩
            clear hb6
            go_wp2_with fail
            go_roundw
            case rel => exact ⟨d, sw l' i d, rfl, by omega, HM⟩
            case measure => simp [intOf]; omega
          · have hlf : lt (at_ l' d) (at_ l' i) = false := by simpa using hlt
            have hless : ∀ W, Below wr.heap.size wr W → Calls Try.prog 72 #[.pointer (some ⟨S, 1, none⟩), .int .i64 (d : Int), .int .i64 (i : Int)] W fun e w' => e = .returned (.bool false) ∧ Below W.heap.size W w' := fun W hW => by
              have := less_any d i W (HU.out.row.later hW) (by omega) (by omega)
              rwa [hlf] at this
            have hend : ∀ W, Below wr.heap.size wr W → DnE w S M B cap n mo l m i0 (.returned (.bool (decide (i0 < i)))) W := fun W hW => HU.out.stop (fun k k0 km kp => le_trans hlf (HKI.out k k0 km kp)) hW
            have HL := Lib.hid hless
            have HE := Lib.hid hend
            clear hless hend HU hlen hlt hlf ha2 hc2 hd2
            go_wp2_with fail
            refine HL1.out.mono ?_
            rintro e w4 ⟨rfl, hb4⟩
            go_wp2_with fail
            refine (HL.out _ hb4).mono ?_
            rintro e w5 ⟨rfl, hb5⟩
            have hb6 := hb4.trans (hb5.mono hb4.size)
            clear hb5
            go_wp2_with fail
            go_ret
            exact HE.out _ hb6
        · have h3' : lt (at_ l' d) (at_ l' c) = false := by simpa using h3
          have hl1 := less_any d c wr HU.out.row (by omega) (by omega)
          rw [h3'] at hl1
          have HL1 := Lib.hid hl1
          have hk : ∀ k, 0 < k → k < m → (k - 1) / 2 = i → lt (at_ l' k) (at_ l' c) = false := fun k k0 km kp => by
            rcases two_kids k0 kp with e | e
            · rw [e, ← hc2]; exact lt_irrefl _
            · rw [e, ← hd2]; exact h3'
          have HKI := Lib.hid hk
          clear hl1 h3 h3' hk
          by_cases hlt : lt (at_ l' c) (at_ l' i) = true
          · have hless : ∀ W, Below wr.heap.size wr W → Calls Try.prog 72 #[.pointer (some ⟨S, 1, none⟩), .int .i64 (c : Int), .int .i64 (i : Int)] W fun e w' => e = .returned (.bool true) ∧ Below W.heap.size W w' := fun W hW => by
              have := less_any c i W (HU.out.row.later hW) (by omega) (by omega)
              rwa [hlt] at this
            have hsw : ∀ W, Below wr.heap.size wr W → Calls Try.prog 75 #[.pointer (some ⟨S, 1, none⟩), .int .i64 (i : Int), .int .i64 (c : Int)] W fun e w' => e = .returned (.tuple #[]) ∧ Hid (DnMid w S M B cap n mo l m i0 c w' (sw l' i c)) := fun W hW =>
              (swap_any i c W (HU.out.row.later hW) (by omega) (by omega)).mono fun e w' ⟨h1, h2, h3⟩ => ⟨h1, Lib.hid (HU.out.go (by omega) (by omega) (by omega) HKI.out hlt h2 ((Mut.of_below hW).trans h3))⟩
            have HL := Lib.hid hless
            have HS := Lib.hid hsw
            clear hless hsw HU hlen hlt ha2 hc2 hd2
            go_wp2_with fail
            refine HL1.out.mono ?_
            rintro e w4 ⟨rfl, hb4⟩
            go_wp2_with fail
            refine (HL.out _ hb4).mono ?_
            rintro e w5 ⟨rfl, hb5⟩
            have hb6 := hb4.trans (hb5.mono hb4.size)
            clear hb5
            go_wp2_with fail
            refine (HS.out _ hb6).mono ?_
            rintro e w6 ⟨rfl, HM⟩
            clear hb6
            go_wp2_with fail
            go_roundw
            case rel => exact ⟨c, sw l' i c, rfl, by omega, HM⟩
            case measure => simp [intOf]; omega
          · have hlf : lt (at_ l' c) (at_ l' i) = false := by simpa using hlt
            have hless : ∀ W, Below wr.heap.size wr W → Calls Try.prog 72 #[.pointer (some ⟨S, 1, none⟩), .int .i64 (c : Int), .int .i64 (i : Int)] W fun e w' => e = .returned (.bool false) ∧ Below W.heap.size W w' := fun W hW => by
              have := less_any c i W (HU.out.row.later hW) (by omega) (by omega)
              rwa [hlf] at this
            have hend : ∀ W, Below wr.heap.size wr W → DnE w S M B cap n mo l m i0 (.returned (.bool (decide (i0 < i)))) W := fun W hW => HU.out.stop (fun k k0 km kp => le_trans hlf (HKI.out k k0 km kp)) hW
            have HL := Lib.hid hless
            have HE := Lib.hid hend
            clear hless hend HU hlen hlt hlf ha2 hc2 hd2
            go_wp2_with fail
            refine HL1.out.mono ?_
            rintro e w4 ⟨rfl, hb4⟩
            go_wp2_with fail
            refine (HL.out _ hb4).mono ?_
            rintro e w5 ⟨rfl, hb5⟩
            have hb6 := hb4.trans (hb5.mono hb4.size)
            clear hb5
            go_wp2_with fail
            go_ret
            exact HE.out _ hb6
      · have t2 : decide ((d : Int) < (m : Int)) = false := by simp; omega
        have hk : ∀ k, 0 < k → k < m → (k - 1) / 2 = i → lt (at_ l' k) (at_ l' c) = false := fun k k0 km kp => by
          rcases two_kids k0 kp with e | e
          · rw [e, ← hc2]; exact lt_irrefl _
          · omega
        have HKI := Lib.hid hk
        clear hk
        by_cases hlt : lt (at_ l' c) (at_ l' i) = true
        · have hless : ∀ W, Below wr.heap.size wr W → Calls Try.prog 72 #[.pointer (some ⟨S, 1, none⟩), .int .i64 (c : Int), .int .i64 (i : Int)] W fun e w' => e = .returned (.bool true) ∧ Below W.heap.size W w' := fun W hW => by
            have := less_any c i W (HU.out.row.later hW) (by omega) (by omega)
            rwa [hlt] at this
          have hsw : ∀ W, Below wr.heap.size wr W → Calls Try.prog 75 #[.pointer (some ⟨S, 1, none⟩), .int .i64 (i : Int), .int .i64 (c : Int)] W fun e w' => e = .returned (.tuple #[]) ∧ Hid (DnMid w S M B cap n mo l m i0 c w' (sw l' i c)) := fun W hW =>
            (swap_any i c W (HU.out.row.later hW) (by omega) (by omega)).mono fun e w' ⟨h1, h2, h3⟩ => ⟨h1, Lib.hid (HU.out.go (by omega) (by omega) (by omega) HKI.out hlt h2 ((Mut.of_below hW).trans h3))⟩
          have HL := Lib.hid hless
          have HS := Lib.hid hsw
          clear hless hsw HU hlen hlt ha2 hc2 hd2
          go_wp2_with fail
          refine (HL.out _ hself).mono ?_
          rintro e w5 ⟨rfl, hb5⟩
          have hb6 := hself.trans (hb5.mono hself.size)
          clear hb5
          go_wp2_with fail
          refine (HS.out _ hb6).mono ?_
          rintro e w6 ⟨rfl, HM⟩
          clear hb6
          go_wp2_with fail
          go_roundw
          case rel => exact ⟨c, sw l' i c, rfl, by omega, HM⟩
          case measure => simp [intOf]; omega
        · have hlf : lt (at_ l' c) (at_ l' i) = false := by simpa using hlt
          have hless : ∀ W, Below wr.heap.size wr W → Calls Try.prog 72 #[.pointer (some ⟨S, 1, none⟩), .int .i64 (c : Int), .int .i64 (i : Int)] W fun e w' => e = .returned (.bool false) ∧ Below W.heap.size W w' := fun W hW => by
            have := less_any c i W (HU.out.row.later hW) (by omega) (by omega)
            rwa [hlf] at this
          have hend : ∀ W, Below wr.heap.size wr W → DnE w S M B cap n mo l m i0 (.returned (.bool (decide (i0 < i)))) W := fun W hW => HU.out.stop (fun k k0 km kp => le_trans hlf (HKI.out k k0 km kp)) hW
          have HL := Lib.hid hless
          have HE := Lib.hid hend
          clear hless hend HU hlen hlt hlf ha2 hc2 hd2
          go_wp2_with fail
          refine (HL.out _ hself).mono ?_
          rintro e w5 ⟨rfl, hb5⟩
          have hb6 := hself.trans (hb5.mono hself.size)
          clear hb5
          go_wp2_with fail
          go_ret
          exact HE.out _ hb6
end Go.Proofs.Ythpcnnkdpgjiiaa
