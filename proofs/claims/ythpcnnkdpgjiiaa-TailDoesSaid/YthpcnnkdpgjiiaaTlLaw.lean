/-
  What the laws ask of a buffer's calls.
-/
import Derived.Deep.DeepCutAuto
import Derived.Test.YthpcnnkdpgjiiaaTlKnown
namespace Go.Proofs.Ythpcnnkdpgjiiaa
open Go.RowKit Go.Maps Go.Proofs.HeapMath Go.Proofs.TailMath

theorem okT_of {b : St} {t : Nat} (h1 : b.time ≤ t) (h2 : t ≤ 1099511627776) : okT b (t : Int) = true := by simp [okT]; omega
theorem offer_known {b : St} {t : Nat} {s : Sp} {k : Kn} (h1 : b.time ≤ t) (h2 : t ≤ 1099511627776) (hk : askK s.hi s.lo b.K = some k) : offer b (t : Int) s = (at_ b t, k.ay, 0) := by
  unfold offer
  rw [if_pos (okT_of h1 h2), hk]
  simp
theorem offer_taken {b : St} {t : Nat} {s : Sp} (h1 : b.time ≤ t) (h2 : t ≤ 1099511627776) (hk : askK s.hi s.lo b.K = none) (hr : tot b.L < b.sp) : offer b (t : Int) s = (offered (at_ b t) s, 1, 0) := by
  unfold offer
  rw [if_pos (okT_of h1 h2), hk]
  simp only [Int.toNat_natCast]
  rw [if_neg (by omega)]
theorem offer_busy {b : St} {t : Nat} {s : Sp} (h1 : b.time ≤ t) (h2 : t ≤ 1099511627776) (hk : askK s.hi s.lo b.K = none) (hr : tot b.L = b.sp) : offer b (t : Int) s = (at_ b t, 2, 0) := by
  unfold offer
  rw [if_pos (okT_of h1 h2), hk]
  simp only [Int.toNat_natCast]
  rw [if_pos hr]
theorem tot_offered {b : St} {s : Sp} (h : Iv b) : tot (offered b s).L = tot b.L + 1 := tot_put h.L.nd
theorem came_offered (b : St) (s : Sp) : (offered b s).came ≤ b.came + 1 := by
  unfold offered
  dsimp only
  split <;> omega
/-- Behind New. -/
theorem own_new (sp wait most : Nat) (w : World) (h1 : 1 ≤ sp ∧ sp ≤ 5000) (h2 : 1 ≤ wait ∧ wait ≤ 1099511627776) (h3 : 1 ≤ most ∧ most ≤ 5000) :
    Calls Try.prog 10 #[.int .i64 (sp : Int), .int .i64 (wait : Int), .int .i64 (most : Int)] w fun e w' => ∃ S bs, e = .returned (.pointer (some ⟨S, 0, none⟩)) ∧ Hid (Ob w w' S (new sp wait most) bs) :=
  (tnew_any sp wait most w h1 h2 h3).mono fun e w' h => by
    obtain ⟨S, bs, x, y⟩ := Ob.new (Below.refl _ _) h
    exact ⟨S, bs, x, Lib.hid y⟩
/-- The chapter's example, beside a buffer. -/
theorem own_known {w W : World} {S : Nat} {b : St} {bs : List Nat} (h : Ob w W S b bs) : Calls Try.prog 11 #[] W fun e w' => e = .returned (.bool true) ∧ Hid (Ob w w' S b bs) ∧ Hid (Below W.heap.size W w') :=
  (known_any W).mono fun _ _ ⟨x, y⟩ => ⟨x, Lib.hid (h.later y), Lib.hid y⟩
theorem own_len {w W : World} {S : Nat} {b : St} {bs : List Nat} (h : Ob w W S b bs) (n : Nat) (hn : tot b.L = n) : Calls Try.prog 15 #[.pointer (some ⟨S, 0, none⟩)] W fun e w' => e = .returned (.int .i64 (n : Int)) ∧ W = w' := hn ▸ tlen_any W h.1
end Go.Proofs.Ythpcnnkdpgjiiaa
