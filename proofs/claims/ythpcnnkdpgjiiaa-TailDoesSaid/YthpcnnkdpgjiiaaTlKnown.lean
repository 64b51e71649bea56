/-
  The chapter's example holds.
-/
import Derived.Test.YthpcnnkdpgjiiaaTlOb
namespace Go.Proofs.Ythpcnnkdpgjiiaa
open Go.RowKit Go.Maps Go.Proofs.HeapMath Go.Proofs.TailMath

def kb1 : St := ⟨1, 2, 10, 0, 1, [], [⟨10, 0, 0, 1, [sp1 0 1]⟩]⟩
def kb2 : St := ⟨1, 2, 10, 4, 1, [], [⟨10, 0, 0, 1, [sp1 0 1, sp1 0 1]⟩]⟩
def kb3 : St := ⟨1, 2, 10, 9, 1, [], [⟨10, 0, 0, 1, [sp1 0 1, sp1 0 1]⟩]⟩
def kb4 : St := ⟨1, 2, 10, 10, 1, [], []⟩
theorem ke1 : offer (new 2 10 1) 0 (sp1 0 1) = (kb1, 1, 0) := by rfl
theorem ke2 : offer kb1 4 (sp1 0 1) = (kb2, 1, 0) := by rfl
theorem ke3 : offer kb2 4 (sp1 0 1) = (kb2, 2, 0) := by rfl
theorem u01 : u64 (sp1 0 1).hi ∧ u64 (sp1 0 1).lo := ⟨by show 0 < 18446744073709551616; decide, by show 1 < 18446744073709551616; decide⟩
set_option maxRecDepth 100000 in
set_option maxHeartbeats 2000000 in
theorem known_any (w : World) : Calls Try.prog 11 #[] w fun e w' => e = .returned (.bool true) ∧ Below w.heap.size w w' := by
  have hN := tnew_any 2 10 1 w (by omega) (by omega) (by omega)
  have hN0 := fun W => tnew_no 0 1 1 W (by omega)
  have hN1 := fun W => tnew_no 1 1 0 W (by omega)
  have h1 : ∀ S bs W, Ob w W S (new 2 10 1) bs → _ := fun S bs W h => h.offer 0 (sp1 0 1) u01 (by decide) _ ke1
  have h2 : ∀ S bs W, Ob w W S kb1 bs → _ := fun S bs W h => h.offer 4 (sp1 0 1) u01 (by decide) _ ke2
  have h3 : ∀ S bs W, Ob w W S kb2 bs → _ := fun S bs W h => h.offer 4 (sp1 0 1) u01 (by decide) _ ke3
  have h4 : ∀ S bs W, Ob w W S kb2 bs → _ := fun S bs W h => h.due 9 (by decide) (by decide) (by decide) [] 0 kb3 (by rfl) rfl (by rfl)
  have h5 : ∀ S bs W, Ob w W S kb3 bs → _ := fun S bs W h => h.due 10 (by decide) (by decide) (by decide) kb3.L 1 kb4 (by rfl) rfl (by rfl)
  have h6 : ∀ S bs W, Ob w W S kb4 bs → _ := fun S bs W h => tlen_any W h.1
  unfold spV sp1 at h1 h2 h3
  have H0 := Lib.hid hN
  have H1 := Lib.hid h1
  have H2 := Lib.hid h2
  have H3 := Lib.hid h3
  have H4 := Lib.hid h4
  have H5 := Lib.hid h5
  have H6 := Lib.hid h6
  have HN0 := Lib.hid hN0
  have HN1 := Lib.hid hN1
  clear hN hN0 hN1 h1 h2 h3 h4 h5 h6
  go_enter Try.func11, Try.ntmps11
  go_wp2_with fail
  refine H0.out.mono ?_
  rintro e w1 ⟨S, bs, rfl, hh, hb, hbs⟩
  have HO : Hid (Ob w w1 S (new 2 10 1) bs) := Lib.hid ⟨hh, hb, hbs⟩
  clear hh hb hbs
  go_wp2_with fail
  refine (HN0.out _).mono ?_
  rintro e w' ⟨rfl, rfl⟩
  go_wp2_with fail
  refine (HN1.out _).mono ?_
  rintro e w' ⟨rfl, rfl⟩
  go_wp2_with fail
  refine (H1.out _ _ _ HO.out).mono ?_
  rintro e w2 ⟨rfl, bs2, HO2, _⟩
  go_wp2_with fail
  refine (H2.out _ _ _ HO2.out).mono ?_
  rintro e w3 ⟨rfl, bs3, HO3, _⟩
  go_wp2_with fail
  refine (H3.out _ _ _ HO3.out).mono ?_
  rintro e w4 ⟨rfl, bs4, HO4, _⟩
  go_wp2_with fail
  refine (H4.out _ _ _ HO4.out).mono ?_
  rintro e w5 ⟨V, l, rfl, _, _, bs5, HO5, _⟩
  go_wp2_with fail
  refine (H5.out _ _ _ HO5.out).mono ?_
  rintro e w6 ⟨V6, l6, rfl, HL, HT, bs6, HO6, _⟩
  obtain ⟨y, hy⟩ : ∃ y, l6 = [y] := by
    have := congrArg List.length HL.out
    simp [kb3] at this
    match l6, this with
    | [y], _ => exact ⟨y, rfl⟩
  have hy1 : y.1 = ⟨10, 0, 0, 1, [sp1 0 1, sp1 0 1]⟩ := by
    have := HL.out
    rw [hy] at this
    simpa [kb3] using this
  obtain ⟨g, rfl, hg, hc⟩ := HT.out (by rw [hy]; simp)
  obtain ⟨c0, c1, c2, c3⟩ := hc 0 (by rw [hy]; simp)
  have c1' : w6.cell? ⟨g, 1, none⟩ = some (.int .u64 1) := by
    have e : l6[0]'(by rw [hy]; simp) = y := by simp [hy]
    rw [e, hy1] at c1
    exact c1
  have c2' : w6.cell? ⟨g, 2, none⟩ = some (.slice y.2 2 2) := by
    have e : l6[0]'(by rw [hy]; simp) = y := by simp [hy]
    rw [e, hy1] at c2
    exact c2
  clear hg hc c0 c1 c2 c3 hy hy1 HL HT HO HO2 HO3 HO4 HO5
  go_wp2_with fail
  refine (H6.out _ _ _ HO6.out).mono ?_
  rintro e w7 ⟨rfl, rfl⟩
  have HE := Lib.hid HO6.out.2.1
  go_wp2_with fail
  go_ret
  exact ⟨rfl, HE.out⟩
end Go.Proofs.Ythpcnnkdpgjiiaa
