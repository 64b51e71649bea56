/-
  Proved: NumPlaces returns true for every slice of bytes and every number: nothing is told from beyond the end, or ahead of the beginning. No condition.
-/
import Derived.Test.YtmgjckgoiieppaaNumLift
namespace Go.Proofs.Ytmgjckgoiieppaa
open Go.ChangeShapes Go.WideShapes Go.ChangeAt Go.RowKit Go.Proofs.NumMath

theorem Holds8.mono {n₀ n₁ : Nat} {W : World} {A : Option Addr} {cs : List UInt8} (h : Holds8 n₀ W A cs) (hn : n₀ ≤ n₁) : Holds8 n₁ W A cs := fun h0 => by
  obtain ⟨b, off, e, hlt, hc⟩ := h h0
  exact ⟨b, off, e, by omega, hc⟩
theorem Holds8.later {W W' : World} {A : Option Addr} {cs : List UInt8} (h : Holds8 W.heap.size W A cs) (hb : Below W.heap.size W W') : Holds8 W'.heap.size W' A cs := (h.below hb).mono hb.size

theorem get_out (A : Option Addr) (len cap : Nat) (i : Int) (w : World) (hl : len ≤ 9223372036854775807) (h : i < 0 ∨ (len : Int) < i) :
    Calls Try.prog 14 #[.slice A len cap, .int .i64 i] w fun e w' => e = .returned (.tuple #[.int .u64 0, .int .i64 0, .int .u16 1]) ∧ w = w' :=
  (callsIn_wide (n := 3)).1 (get_arg A len cap i w hl h)

theorem get_end (A : Option Addr) (cs : List UInt8) (len cap : Nat) (w : World) (hlen : cs.length = len) (hl : len ≤ cap) (hcap : cap ≤ 9223372036854775807) (hr : Holds8 w.heap.size w A cs) :
    Calls Try.prog 14 #[.slice A len cap, .int .i64 (len : Int)] w fun e w' => e = .returned (.tuple #[.int .u64 0, .int .i64 0, .int .u16 10]) ∧ Below w.heap.size w w' := by
  have h := get_any A cs cap (cs.length : Int) w (by omega) hcap hr
  have e : getAt cs (cs.length : Int) = (0, 0, 10) := by
    rw [getAt_of (Nat.le_refl _), List.drop_length]; rfl
  rw [e, hlen] at h
  exact h

set_option maxRecDepth 100000 in
set_option maxHeartbeats 1000000 in
theorem places_walk (A : Option Addr) (cs : List UInt8) (cap n : Nat) (w : World) (hl : cs.length ≤ cap) (hcap : cap ≤ 9223372036854775807) (hn : n ≤ 255) (hr : Holds8 w.heap.size w A cs) :
    Calls Try.prog 4 #[.slice A cs.length cap, .int .u8 (n : Int)] w fun e w' => e = .returned (.bool true) ∧ Below w.heap.size w w' := by
  obtain ⟨len, hlen⟩ : ∃ len, cs.length = len := ⟨_, rfl⟩
  rw [hlen] at hl ⊢
  have HL := Lib.hid hlen
  have HR := Lib.hid hr
  clear hlen hr
  by_cases h1 : 100 < len
  · go_enter Try.func4, Try.ntmps4
    go_wp2_with fail
    refine (known_any _).mono ?_
    rintro e w1 ⟨rfl, hb1⟩
    go_wp2_with fail
    go_ret
    exact ⟨rfl, hb1⟩
  · go_enter Try.func4, Try.ntmps4
    go_wp2_with fail
    refine (get_out A len cap _ _ (by omega) (by omega)).mono ?_
    rintro e w1 ⟨rfl, rfl⟩
    go_wp2_with fail
    refine (get_out A len cap _ _ (by omega) (by omega)).mono ?_
    rintro e w1 ⟨rfl, rfl⟩
    go_wp2_with fail
    refine (get_end A cs len cap _ HL.out hl hcap HR.out).mono ?_
    rintro e w1 ⟨rfl, hb1⟩
    go_wp2_with fail
    refine (known_any _).mono ?_
    rintro e w2 ⟨rfl, hb2⟩
    go_wp2_with fail
    go_ret
    exact ⟨rfl, hb1.trans (hb2.mono hb1.size)⟩

namespace NumPlaces
set_option maxRecDepth 100000 in
theorem lifted (os : Os) (started : os.Started) (H : Type) (enc : TypeId × Value → H) :
    ReturnsInHanded {} Try.checked os 4 .any (Rows.numPlacesSpec.pre6 enc Try.prog Try.f4 Rows.numPlacesRow.domain false) (Rows.numPlacesSpec.post enc Try.prog Try.f4 false true false false) := by
  refine returnsInHanded_of_change (C := Try.checked) own started (by kernel_rfl) Try.func4
    (ChangeSpec.witness6 (enc := enc) (C := Try.checked) false ⟨#[], #[.slice none 0 0, .int .u8 0], []⟩ 8 (by kernel_rfl) (by kernel_rfl) (by kernel_rfl) (by kernel_rfl)) ?_
  intro W base args ds gs before hval0 hW _ _
  have hval : ∀ (j : Nat) t v, Try.f4.params[j]? = some t → args[j]? = some v → Value.okWide Try.prog W .any base t v := hval0
  have hW' := hW
  obtain ⟨p, q, hA0, hV, rfl, _, _⟩ := hW
  have hA : DataW.TrodAll enc Try.prog W 0 (fun _ => true) true Try.f4.params.toList args.toList ds p := hA0
  rw [Try.params4] at hA hval
  obtain ⟨v0, vs0, d0, ds0, p0, q0, hargs, rfl, rfl, h0, r0⟩ := trodAll_cons hA
  obtain ⟨v1, vs1, d1, ds1, p1, q1, rfl, rfl, rfl, h1, r1⟩ := trodAll_cons r0
  obtain ⟨rfl, rfl, rfl⟩ := trodAll_nil r1
  obtain rfl : args = #[v0, v1] := by cases args; simp_all
  obtain ⟨rfl, rfl⟩ := trodVars_none hV
  obtain ⟨A0, cs0, cap0, rfl, l0, m0, b0, again0⟩ := arg_bytes (hval 0 23 v0 rfl rfl) h0
  obtain ⟨a1, rfl, rfl, rfl, w1⟩ := open_int Try.underlying5 (hval 1 5 v1 rfl rfl) h1
  have k1 := wf_u8 w1
  obtain ⟨n1, rfl⟩ : ∃ n : Nat, a1 = n := ⟨a1.toNat, by omega⟩
  clear hA0 hval0
  simp only [List.append_nil] at hW'
  refine (places_walk A0 cs0 cap0 n1 W l0 m0 (by omega) b0).mono fun e W' ⟨he, hg⟩ => ?_
  subst he
  exact ⟨_, rfl, true_post hW' rfl (by kernel_rfl) Try.underlying4 rfl rfl (fun sp hsp => by have h := (trodAll_cons_mk (again0 W' sp hg (fun x hx => hsp x (by simp [hx]))) (trodAll_cons_mk (shut_int Try.underlying5 w1) trodAll_mk0)); simp only [List.append_nil] at h; exact h) hg⟩

/-- **NumPlaces, at every input.** -/
theorem proved : Rows.NumPlacesSaid :=
  OpenClaim.holds_of_wide 4 Try.f4 rfl rfl rfl rfl rfl rfl rfl ⟨rfl, rfl, rfl, rfl, rfl⟩ rfl rfl rfl rfl rfl (by kernel_rfl) Try.func4 (by kernel_rfl)
    (of_decide_eq_true (by kernel_rfl)) (by unfold Func.isWrapper; first | (rw [if_pos (by decide +kernel)]; kernel_rfl) | (rw [if_neg (by decide +kernel)]; exact ⟨rfl, rfl⟩))
    (fun os started H enc _ => lifted os started H enc)
end NumPlaces

end Go.Proofs.Ytmgjckgoiieppaa
