/-
  Proved: FrameLong returns true for every number and byte: no frame has more than may be; one that says so is told to be too long. No condition.
-/
import Derived.Laws.OwnMore
import Derived.Test.YtibmiffiinninaaBytesLift
import Derived.Test.YtibmiffiinninaaFrameKnown
namespace Go.Proofs.Ytibmiffiinninaa
open Go.ChangeShapes Go.WideShapes Go.ChangeAt Go.RowKit Go.Proofs.NumMath Go.Proofs.FrameMath

/-- So many bytes x, and noughts up to L. -/
def fill (x : UInt8) (L k : Nat) : List UInt8 := List.replicate k x ++ List.replicate (L - k) 0
theorem fill_length {x : UInt8} {L k : Nat} (h : k ≤ L) : (fill x L k).length = L := by simp [fill]; omega
theorem fill_set {x : UInt8} {L k : Nat} (h : k < L) : ((fill x L k).map b8).set k (b8 x) = (fill x L (k + 1)).map b8 := by
  rw [List.map_set.symm]
  congr 1
  apply List.ext_getElem
  · simp [fill]; omega
  · intro i h1 h2
    simp [fill] at h1
    rw [List.getElem_set]
    by_cases hi : k = i
    · subst hi; simp [fill]
    · rw [if_neg hi]
      simp only [fill, List.getElem_append, List.length_replicate, List.getElem_replicate]
      by_cases h3 : i < k
      · simp [h3, show i < k + 1 by omega]
      · simp [h3, show ¬ i < k + 1 by omega]
theorem take_4097 : take [129, 32, 0, 0, 0, 0] 0 = ([], 0, 3) := by decide

theorem make_fill (x : UInt8) (L : Nat) (w : World) (hL : L ≤ 1000000) : ∃ w1, (Instr.makeSlice 23 (.int .i64 (L : Int)) (.int .i64 (L : Int))).run Try.prog w = .ok (.slice (some ⟨w.heap.size, 0, none⟩) L L) w1 ∧
    w1.ownsRow w.heap.size 5 1 (.slice (some ⟨w.heap.size, 0, none⟩) L L) L ((fill x L 0).map b8) ∧ Below w.heap.size w w1 := by
  obtain ⟨i0, hi, hz0, hz1, hz2⟩ := info_parts info_u8
  obtain ⟨w1, h1, h2, h3⟩ := run_make_full (P := Try.prog) w w.heap.size 23 5 i0 (.int .u8 0) 1 Try.underlying23 hi hz0 hz1 .i64 .i64 L (by rw [hz2]; omega) (by unfold maxLen; omega) (Nat.le_refl _)
  refine ⟨w1, h1, ?_, (Below.refl _ w).grown h3 (Nat.le_refl _) (fun k hk => by cases hk)⟩
  have e : (madeCells (Value.int .u8 0).cells (L * 1)).toList = (fill x L 0).map b8 := by
    have : (Value.int IntKind.u8 0).cells = #[.int .u8 0] := rfl
    rw [this, toList_madeCells_one]
    simp [fill, b8]
  rw [e] at h2
  exact h2
theorem own_step {W w : World} {B : Nat} {x : UInt8} {L k : Nat} (hk : k < L) (h : W.ownsRow B 5 1 (.slice (some ⟨B, 0, none⟩) L L) L ((fill x L k).map b8)) (hb : Below B w W) :
    (W.setCell ⟨B, k, none⟩ (.int .u8 (x.toNat : Int))).ownsRow B 5 1 (.slice (some ⟨B, 0, none⟩) L L) L ((fill x L (k + 1)).map b8) ∧ Below B w (W.setCell ⟨B, k, none⟩ (.int .u8 (x.toNat : Int))) := by
  obtain ⟨h1, _⟩ := h.stored k (b8 x)
  rw [fill_set hk] at h1
  exact ⟨h1, hb.setCell (p := ⟨B, k, none⟩) (Nat.le_refl _) _⟩
theorem take_big (w : World) (o : Obj) (t : TypeId) (ho : o = .cells (([129, 32, 0, 0, 0, 0] : List UInt8).map b8).toArray t) :
    Calls Try.prog 11 #[.slice (some ⟨w.heap.size, 0, none⟩) 6 6, .int .i64 0] (w.alloc o) fun e w' => ∃ A' c', e = .returned (.tuple #[.slice A' 0 c', .int .i64 0, .int .u16 3]) ∧ Below (w.alloc o).heap.size (w.alloc o) w' := by
  have h := take_any (some ⟨w.heap.size, 0, none⟩) [129, 32, 0, 0, 0, 0] 6 0 (w.alloc o) (by simp) (by omega) (holds_new _ ho)
  rw [take_4097] at h
  exact h.mono fun _ _ ⟨A', c', he, _, hb⟩ => ⟨A', c', he, hb⟩

set_option maxRecDepth 100000 in
set_option maxHeartbeats 2000000 in
theorem long_walk (n : Nat) (x : UInt8) (w : World) (hn : n ≤ 65535) :
    Calls Try.prog 3 #[.int .u16 (n : Int), .int .u8 (x.toNat : Int)] w fun e w' => e = .returned (.bool true) ∧ Below w.heap.size w w' := by
  obtain ⟨m, hm, hm2⟩ : ∃ m : Nat, (n : Int) % 200 = (m : Int) ∧ m < 200 := ⟨n % 200, by omega, by omega⟩
  obtain ⟨L, hL, hL1, hL2⟩ : ∃ L : Nat, 4000 + (m : Int) = (L : Int) ∧ 4000 ≤ L ∧ L < 4200 := ⟨4000 + m, by omega, by omega, by omega⟩
  obtain ⟨w1, hmk, hown1, hB1⟩ := make_fill x L w (by omega)
  have HO1 := Lib.hid hown1
  have hx := x.toNat_lt
  clear hown1
  go_enter Try.func3, Try.ntmps3
  go_wp2_with fail
  go_loopw [6] (fun iv wr => ∃ k : Nat, k ≤ L ∧ iv = .int .i64 (k : Int) ∧ Hid (wr.ownsRow w.heap.size 5 1 (.slice (some ⟨w.heap.size, 0, none⟩) L L) L ((fill x L k).map b8)) ∧ Below w.heap.size w wr) (fun iv _ => L - (intOf iv).toNat)
  case atStart => exact ⟨0, by omega, rfl, HO1, hB1⟩
  case round =>
    obtain ⟨k, hk, rfl, HO, hB⟩ := hrel
    clear hmk hm hL
    by_cases hlt : k < L
    · obtain ⟨old, hcx⟩ : ∃ old, wr.cell? ⟨w.heap.size, k, none⟩ = some old :=
        ⟨_, by rw [HO.out.cellAt k (by simp; exact hlt), List.getElem?_eq_getElem (by simp [fill_length hk]; exact hlt)]⟩
      have hfz := HO.out.frozenAt k
      have HST := Lib.hid (own_step hlt HO.out hB)
      go_wp2
      go_roundw
      case rel => exact ⟨k + 1, by omega, by go_num, HST.out.1, HST.out.2⟩
      case measure => simp [intOf]; omega
    · obtain rfl : k = L := by omega
      have hcs : fill x k k = List.replicate k x := by simp [fill]
      rw [hcs] at HO
      have hlen : (List.replicate k x).length = k := by simp
      have HL := Lib.hid hlen
      clear hcs hlen
      generalize List.replicate k x = cs at HO HL
      have hr : Holds8 wr.heap.size wr (some ⟨w.heap.size, 0, none⟩) cs := (own_facts (by have h := HO.out; rw [HL.out]; exact h)).2.2
      have HR := Lib.hid hr
      have hS := hB.size
      clear hr HO
      by_cases hfit : k ≤ 4096
      · have d1 : decide ((k : Int) ≤ 4096) = true := by simp; omega
        have hfl : (frame cs).length = k + 6 := by rw [frame_length, HL.out, put_two (by omega) (by omega)]; omega
        have HF := Lib.hid hfl
        clear hfl
        go_wp2_with fail
        refine (frame_fits (some ⟨w.heap.size, 0, none⟩) cs k k (k + 6) wr HL.out HF.out hfit HR.out (fun h => by cases h)).mono ?_
        rintro e w2 ⟨A2, c2, rfl, _, hb2⟩
        have hB2 := hB.trans (hb2.mono hS)
        have hS2 := hB2.size
        clear hb2
        go_wp2_with fail
        refine (take_big w2 _ _ rfl).mono ?_
        rintro e w3 ⟨A3, c3, rfl, hb3⟩
        have hB3 : Below w.heap.size w w3 := (hB2.alloc hS2 _).trans (hb3.mono (by simp; omega))
        clear hb3
        go_wp2_with fail
        refine (known_any _).mono ?_
        rintro e w4 ⟨rfl, hb4⟩
        have hB4 := hB3.trans (hb4.mono hB3.size)
        clear hb4
        go_wp2_with fail
        go_ret
        exact ⟨rfl, hB4⟩
      · have d1 : decide ((k : Int) ≤ 4096) = false := by simp; omega
        have d2 : ((0 : Int) == (k : Int) + 6) = false := by simp; omega
        go_wp2_with fail
        refine (frame_long (some ⟨w.heap.size, 0, none⟩) k k wr (by omega) (by omega)).mono ?_
        rintro e w2 ⟨rfl, rfl⟩
        go_wp2_with fail
        refine (take_big wr _ _ rfl).mono ?_
        rintro e w3 ⟨A3, c3, rfl, hb3⟩
        have hB3 : Below w.heap.size w w3 := (hB.alloc hS _).trans (hb3.mono (by simp; omega))
        clear hb3
        go_wp2_with fail
        refine (known_any _).mono ?_
        rintro e w4 ⟨rfl, hb4⟩
        have hB4 := hB3.trans (hb4.mono hB3.size)
        clear hb4
        go_wp2_with fail
        go_ret
        exact ⟨rfl, hB4⟩

namespace FrameLong
set_option linter.unusedSimpArgs false in
set_option maxRecDepth 100000 in
theorem lifted (os : Os) (started : os.Started) (H : Type) (enc : TypeId × Value → H) :
    ReturnsInHanded {} Try.checked os 3 .any (Rows.frameLongSpec.pre6 enc Try.prog Try.f3 Rows.frameLongRow.domain false) (Rows.frameLongSpec.post enc Try.prog Try.f3 false true false false) := by
  refine returnsInHanded_of_change (C := Try.checked) own started (by kernel_rfl) Try.func3
    (ChangeSpec.witness6 (enc := enc) (C := Try.checked) false ⟨#[], #[.int .u16 0, .int .u8 0], []⟩ 8 (by kernel_rfl) (by kernel_rfl) (by kernel_rfl) (by kernel_rfl)) ?_
  intro W base args ds gs before hval0 hW _ _
  have hval : ∀ (j : Nat) t v, Try.f3.params[j]? = some t → args[j]? = some v → Value.okWide Try.prog W .any base t v := hval0
  have hW' := hW
  obtain ⟨p, q, hA0, hV, rfl, _, _⟩ := hW
  have hA : DataW.TrodAll enc Try.prog W 0 (fun _ => true) true Try.f3.params.toList args.toList ds p := hA0
  rw [Try.params3] at hA hval
  obtain ⟨v0, vs0, d0, ds0, p0, q0, hargs, rfl, rfl, h0, r0⟩ := trodAll_cons hA
  obtain ⟨v1, vs1, d1, ds1, p1, q1, rfl, rfl, rfl, h1, r1⟩ := trodAll_cons r0
  obtain ⟨rfl, rfl, rfl⟩ := trodAll_nil r1
  obtain rfl : args = #[v0, v1] := by cases args; simp_all
  obtain ⟨rfl, rfl⟩ := trodVars_none hV
  obtain ⟨a0, rfl, rfl, rfl, w0⟩ := open_int Try.underlying22 (hval 0 22 v0 rfl rfl) h0
  have k0 := wf_u16 w0
  obtain ⟨n0, rfl⟩ : ∃ n : Nat, a0 = n := ⟨a0.toNat, by omega⟩
  obtain ⟨a1, rfl, rfl, rfl, w1⟩ := open_int Try.underlying5 (hval 1 5 v1 rfl rfl) h1
  have k1 := wf_u8 w1
  obtain ⟨n1, rfl⟩ : ∃ u : UInt8, a1 = (u.toNat : Int) := ⟨UInt8.ofNat a1.toNat, by simp; omega⟩
  clear hA0 hval0
  simp only [List.append_nil] at hW'
  refine (long_walk n0 n1 W (by omega)).mono fun e W' ⟨he, hg⟩ => ?_
  subst he
  exact ⟨_, rfl, true_post hW' rfl (by kernel_rfl) Try.underlying4 rfl rfl (fun sp _ => (trodAll_cons_mk (shut_int Try.underlying22 w0) (trodAll_cons_mk (shut_int Try.underlying5 w1) trodAll_mk0))) hg⟩

/-- **FrameLong, at every input.** -/
theorem proved : Rows.FrameLongSaid :=
  OpenClaim.holds_of_wide 3 Try.f3 rfl rfl rfl rfl rfl rfl rfl ⟨rfl, rfl, rfl, rfl, rfl⟩ rfl rfl rfl rfl rfl (by kernel_rfl) Try.func3 (by kernel_rfl)
    (of_decide_eq_true (by kernel_rfl)) (by unfold Func.isWrapper; first | (rw [if_pos (by decide +kernel)]; kernel_rfl) | (rw [if_neg (by decide +kernel)]; exact ⟨rfl, rfl⟩))
    (fun os started H enc _ => lifted os started H enc)
end FrameLong

end Go.Proofs.Ytibmiffiinninaa
