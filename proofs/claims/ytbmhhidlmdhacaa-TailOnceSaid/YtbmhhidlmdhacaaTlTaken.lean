/-
  What is told, as a row of starts: taken.
-/
import Derived.Deep.DeepCutAuto
import Derived.Deep.QuietTactic
import Derived.BigQuiet
import Derived.Test.YtbmhhidlmdhacaaTlRow
namespace Go.Proofs.Ytbmhhidlmdhacaa
open Go.RowKit Go.Maps Go.Proofs.HeapMath Go.Proofs.TailMath

def stG (g : Gr) : List Int := g.spans.map (·.start)
def stOf (l : List Gr) : List Int := l.flatMap stG
structure Fine (g : Gr) : Prop where
  all : ∀ s ∈ g.spans, s.hi = g.hi ∧ s.lo = g.lo ∧ 0 ≤ s.start ∧ s.start ≤ 1000
  up : g.spans.Pairwise fun a b => a.start < b.start
theorem stOf_append (a b : List Gr) : stOf (a ++ b) = stOf a ++ stOf b := by simp [stOf]
theorem stOf_take {l : List Gr} {i : Nat} (h : i < l.length) : stOf (l.take (i + 1)) = stOf (l.take i) ++ stG l[i] := by
  rw [List.take_succ_eq_append_getElem h, stOf_append]
  simp [stOf]
theorem stG_take {g : Gr} {k : Nat} (h : k < g.spans.length) : (stG g).take (k + 1) = (stG g).take k ++ [g.spans[k].start] := by
  have h2 : k < (stG g).length := by simpa [stG] using h
  rw [List.take_succ_eq_append_getElem h2]
  simp [stG]
theorem stOf_le {l : List Gr} (i : Nat) : (stOf (l.take i)).length ≤ (stOf l).length := by
  have e : stOf l = stOf (l.take i) ++ stOf (l.drop i) := by rw [← stOf_append, List.take_append_drop]
  rw [e, List.length_append]
  omega
def vI (l : List Int) : List Value := l.map fun x => Value.int .i64 x
theorem vI_append (a b : List Int) : vI (a ++ b) = vI a ++ vI b := by simp [vI]
theorem info_int' : (Try.prog.info? 3).map (fun i => (i.zero, i.size, i.bytes)) = some (some (.int .i64 0), 1, 8) := by kernel_rfl
theorem tk_grown {w w1 w2 : World} {B n cap : Nat} {A : Option Addr} {T size : Nat} {xs : List Value} (h : Below B w w1) (hs : B ≤ w.heap.size) (hg : w1.grownBy w2 (Value.slice A n cap).ownBlock) (hr : w1.ownsRow B T size (.slice A n cap) n xs) : Below B w w2 :=
  h.trans ((mut_grown hg hr).below (Nat.le_trans hs (by have := h.size; omega)) fun k hk => (hr.lt k (by simpa using hk)).1)

set_option linter.unusedSimpArgs false in
set_option maxRecDepth 100000 in
set_option maxHeartbeats 2000000 in
theorem taken_any (V : Option Addr) (l : List (Gr × Option Addr)) (L : List Gr) (w : World) (N M : Nat) (hL : l.map (·.1) = L) (hN : L.length = N) (hT : Told w V l) (hf : ∀ g ∈ L, Fine g) (hM : (stOf L).length = M) (hb : M ≤ 1000) (hN1 : N ≤ 1000) :
    Calls Try.prog 22 #[.slice V N N] w fun e w' => ∃ A cap, e = .returned (.slice A M cap) ∧ Hid (w'.ownsRow w.heap.size 3 1 (.slice A M cap) M (vI (stOf L))) ∧ Hid (Below w.heap.size w w') := by
  have hat : ∀ i, i < N → ∃ gt gh gl K Ai, V = some ⟨gt, 0, none⟩ ∧ K ≤ 1000 ∧ (∃ h : i < L.length, L[i].spans.length = K) ∧ (stOf (L.take i)).length + K ≤ 1000 ∧ (∀ W, Below w.heap.size w W → W.cell? ⟨gt, i * 3, none⟩ = some (.int .u64 ((gh : Nat) : Int)) ∧ W.cell? ⟨gt, i * 3 + 1, none⟩ = some (.int .u64 ((gl : Nat) : Int)) ∧ W.cell? ⟨gt, i * 3 + 2, none⟩ = some (.slice Ai K K)) ∧
      ∀ k, k < K → ∃ (gs q : Nat), Ai = some ⟨gs, 0, none⟩ ∧ q ≤ 1000 ∧ (∃ (h : i < L.length) (h2 : k < L[i].spans.length), L[i].spans[k].start = (q : Int)) ∧ (∃ (id pa rv : Nat) (nm : ByteArray) (st : Int) (bad : Bool), ∀ W, Below w.heap.size w W → W.cell? ⟨gs, k * 10, none⟩ = some (.int .u64 (gh : Int)) ∧ W.cell? ⟨gs, k * 10 + 1, none⟩ = some (.int .u64 (gl : Int)) ∧ W.cell? ⟨gs, k * 10 + 2, none⟩ = some (.int .u64 (id : Int)) ∧ W.cell? ⟨gs, k * 10 + 3, none⟩ = some (.int .u64 (pa : Int)) ∧ W.cell? ⟨gs, k * 10 + 4, none⟩ = some (.string nm) ∧ W.cell? ⟨gs, k * 10 + 5, none⟩ = some (.int .i64 (q : Int)) ∧ W.cell? ⟨gs, k * 10 + 6, none⟩ = some (.int .i64 st) ∧ W.cell? ⟨gs, k * 10 + 7, none⟩ = some (.bool bad) ∧ W.cell? ⟨gs, k * 10 + 8, none⟩ = some (.slice none 0 0) ∧ W.cell? ⟨gs, k * 10 + 9, none⟩ = some (.int .u64 (rv : Int))) ∧
        (k = 0 ∨ ∃ k' q' : Nat, (k : Int) - 1 = (k' : Int) ∧ k' < K ∧ q' < q ∧ ∀ W, Below w.heap.size w W → W.cell? ⟨gs, k' * 10 + 5, none⟩ = some (.int .i64 (q' : Int))) := fun i hi => by
    subst hL
    have hil : i < l.length := by simp at hN; omega
    obtain ⟨gt, e1, _, _⟩ := hT (by omega)
    have hg : l[i].1 ∈ l.map (·.1) := List.mem_map.2 ⟨_, List.getElem_mem hil, rfl⟩
    have hfi := hf _ hg
    have hiL : i < (l.map (·.1)).length := by simpa using hil
    have eL : (l.map (·.1))[i] = l[i].1 := by simp
    have htot : (stOf ((l.map (·.1)).take i)).length + l[i].1.spans.length ≤ 1000 := by
      have h1 := stOf_take hiL
      have h2 := stOf_le (l := l.map (·.1)) (i + 1)
      rw [h1, List.length_append, eL] at h2
      simp only [stG, List.length_map] at h2 ⊢
      omega
    refine ⟨gt, l[i].1.hi, l[i].1.lo, l[i].1.spans.length, l[i].2, e1, by omega, ⟨hiL, by rw [eL]⟩, htot, fun W hW => ?_, fun k hk => ?_⟩
    · obtain ⟨gt2, e2, _, hc⟩ := hT.later hW (by omega)
      rw [e1] at e2
      injection e2 with e2
      injection e2 with e2
      subst e2
      obtain ⟨a, b, c, _⟩ := hc i hil
      exact ⟨a, b, c⟩
    · obtain ⟨_, e2, _, hc⟩ := hT (by omega)
      obtain ⟨gs, e3, hgs, _⟩ := (hc i hil).2.2.2 (by omega)
      have hcell : ∀ W, Below w.heap.size w W → ∀ j (h : j < l[i].1.spans.length) m, m < 10 → W.cell? ⟨gs, j * 10 + m, none⟩ = (spL l[i].1.spans[j])[m]? := fun W hW j hj m hm => by
        obtain ⟨_, _, _, hc⟩ := hT.later hW (by omega)
        obtain ⟨gs2, e4, _, hc2⟩ := (hc i hil).2.2.2 (by omega)
        rw [e3] at e4
        injection e4 with e4
        injection e4 with e4
        subst e4
        exact hc2 j hj m hm
      obtain ⟨a1, a2, a3, a4⟩ := hfi.all l[i].1.spans[k] (List.getElem_mem hk)
      have hq : l[i].1.spans[k].start = ((l[i].1.spans[k].start.toNat : Nat) : Int) := by omega
      refine ⟨gs, l[i].1.spans[k].start.toNat, e3, by omega, ⟨hiL, by rw [eL]; exact hk, by simp only [eL]; exact hq⟩, ⟨l[i].1.spans[k].id, l[i].1.spans[k].parent, l[i].1.spans[k].rv, l[i].1.spans[k].name, l[i].1.spans[k].stop, l[i].1.spans[k].bad, fun W hW => ?_⟩, ?_⟩
      · have h := hcell W hW k hk
        refine ⟨?_, ?_, h 2 (by omega), h 3 (by omega), h 4 (by omega), ?_, h 6 (by omega), h 7 (by omega), h 8 (by omega), h 9 (by omega)⟩
        · rw [← a1]; exact h 0 (by omega)
        · rw [← a2]; exact h 1 (by omega)
        · rw [← hq]; exact h 5 (by omega)
      · by_cases hk0 : k = 0
        · exact .inl hk0
        · obtain ⟨b1, b2, b3, b4⟩ := hfi.all l[i].1.spans[k - 1] (List.getElem_mem (by omega))
          have hup := List.pairwise_iff_getElem.1 hfi.up (k - 1) k (by omega) hk (by omega)
          have hq' : l[i].1.spans[k - 1].start = ((l[i].1.spans[k - 1].start.toNat : Nat) : Int) := by omega
          exact .inr ⟨k - 1, l[i].1.spans[k - 1].start.toNat, by omega, by omega, by omega, fun W hW => by rw [← hq']; exact hcell W hW (k - 1) (by omega) 5 (by omega)⟩
  have HAT := Lib.hid hat
  have HL := Lib.hid hN
  have HM := Lib.hid hM
  clear hat hT hf hL hN hM
  obtain ⟨i0, hi0, hz0, hz1, hz2⟩ := info_parts info_int'
  have HI := Lib.hid (show Try.prog.info? 3 = some i0 ∧ i0.zero = some (.int .i64 0) ∧ i0.size = 1 ∧ i0.bytes = 8 from ⟨hi0, hz0, hz1, hz2⟩)
  clear hi0 hz0 hz1 hz2
  go_enter Try.func22, Try.ntmps22
  go_wp2_with fail
  go_loopw [4, 3] (fun iv ov wr => ∃ (i n : Nat) (A : Option Addr) (cap : Nat), iv = .int .i64 (i : Int) ∧ ov = .slice A n cap ∧ i ≤ N ∧ Hid ((stOf (L.take i)).length = n) ∧ Hid (wr.ownsRow w.heap.size 3 1 (.slice A n cap) n (vI (stOf (L.take i))) ∧ Below w.heap.size w wr)) (fun iv _ _ => N - (intOf iv).toNat)
  case atStart => exact ⟨0, 0, none, 0, rfl, rfl, by omega, Lib.hid rfl, Lib.hid ⟨World.ownsRow_nil _ _ _ _, Below.refl _ _⟩⟩
  case round =>
    obtain ⟨i, n, A, cap, rfl, rfl, hi, HN, HB⟩ := hrel
    by_cases hin : i < N
    · have di : decide ((i : Int) < (N : Int)) = true := by simp; omega
      obtain ⟨gt, gh, gl, K, Ai, rfl, hK, hiL, htot, hcells, hrest⟩ := HAT.out i hin
      have HCE := Lib.hid hcells
      have HRE := Lib.hid hrest
      have HIL := Lib.hid hiL
      have HTO := Lib.hid htot
      clear hcells hrest hiL htot
      go_wp2_with fail
      go_loopw [5, 3] (fun kv ov wr => ∃ (k n : Nat) (A : Option Addr) (cap : Nat), kv = .int .i64 (k : Int) ∧ ov = .slice A n cap ∧ k ≤ K ∧ Hid ((stOf (L.take i)).length + k = n) ∧ Hid (wr.ownsRow w.heap.size 3 1 (.slice A n cap) n (vI (stOf (L.take i) ++ (L[i]'(HIL.out.1) |> stG).take k)) ∧ Below w.heap.size w wr)) (fun kv _ _ => K - (intOf kv).toNat)
      case atStart => exact ⟨0, n, A, cap, rfl, rfl, by omega, Lib.hid (by rw [HN.out]; rfl), Lib.hid (by simpa using HB.out)⟩
      case round =>
        clear HB HN
        obtain ⟨k, n, A, cap, rfl, rfl, hk, HN, HB⟩ := hrel
        obtain ⟨c0, c1, c2⟩ := HCE.out wr HB.out.2
        by_cases hkK : k < K
        · have dk : decide ((k : Int) < (K : Int)) = true := by simp; omega
          obtain ⟨gs, q, rfl, hq, hqs, ⟨id, pa, rv, nm, st, bad, hc⟩, hpre⟩ := HRE.out k hkK
          have HQS := Lib.hid hqs
          have HC := Lib.hid hc
          have HPR := Lib.hid hpre
          clear hc hpre hqs
          obtain ⟨s0, s1, s2, s3, s4, s5, s6, s7, s8, s9⟩ := HC.out wr HB.out.2
          obtain ⟨nr, hnr⟩ : ∃ n, wr.heap.size = n := ⟨_, rfl⟩
          have hBk := hnr ▸ blk_new wr #[.int .u64 (gh : Int), .int .u64 (gl : Int), .int .u64 (id : Int), .int .u64 (pa : Int), .string nm, .int .i64 (q : Int), .int .i64 st, .bool bad, .slice none 0 0, .int .u64 (rv : Int)] 35
          have hBe : Below wr.heap.size wr (wr.alloc (.cells #[.int .u64 (gh : Int), .int .u64 (gl : Int), .int .u64 (id : Int), .int .u64 (pa : Int), .string nm, .int .i64 (q : Int), .int .i64 st, .bool bad, .slice none 0 0, .int .u64 (rv : Int)] 35)) := box_below _
          have HBK := Lib.hid hBk
          have HBE := Lib.hid hBe
          clear hBk hBe
          go_wp2_with fail
          generalize wr.alloc (.cells #[.int .u64 (gh : Int), .int .u64 (gl : Int), .int .u64 (id : Int), .int .u64 (pa : Int), .string nm, .int .i64 (q : Int), .int .i64 st, .bool bad, .slice none 0 0, .int .u64 (rv : Int)] 35) = w5 at HBK HBE ⊢
          clear c0 c1 c2 s0 s1 s2 s3 s4 s5 s6 s7 s8 s9
          have hB5 : Below w.heap.size w w5 := HB.out.2.trans (HBE.out.mono HB.out.2.size)
          have HB5 := Lib.hid hB5
          have hR5 := Lib.hid (row_same HB.out.1 fun g hg => HBE.out.block g (HB.out.1.lt g hg).2)
          obtain ⟨c0, c1, c2⟩ := HCE.out w5 hB5
          have x0 := HBK.out.cell 0 rfl
          have x1 := HBK.out.cell 1 rfl
          have x5 := HBK.out.cell 5 rfl
          clear hnr hB5
          by_cases hk0 : k = 0
          · have e0 : decide ((0 : Int) < (k : Int)) = false := by simp; omega
            have e2 : decide (0 < k) = false := by simp; omega
            clear hk0
            go_quiet (fail)
            generalize hw6 : w5.drewN nq = w6
            have hD : Below w5.heap.size w5 w6 := hw6 ▸ Below.drewN' (Below.refl _ _) nq
            have hB6 : Below w.heap.size w w6 := HB5.out.trans (hD.mono HB5.out.size)
            have HB6 := Lib.hid hB6
            have hR6 := Lib.hid (row_same hR5.out fun g hg => hD.block g (hR5.out.lt g hg).2)
            have z5 := (hD.cell (p := ⟨nr, 5, none⟩) HBK.out.lt).trans x5
            clear hB6 hD hw6 x0 x1 x5 c0 c1 c2 e0 e2
            obtain ⟨i0, hi0, hz0, hz1, hz2⟩ := info_parts info_int'
            obtain ⟨n6, hn6⟩ : ∃ n, w6.heap.size = n := ⟨_, rfl⟩
            have hb1 := hn6 ▸ blk_new w6 #[.int .i64 (q : Int)] 3
            have HX := Lib.hid (show ∀ j u, [Value.int .i64 (q : Int)][j]? = some u → (w6.alloc (.cells #[.int .i64 (q : Int)] 3)).cell? ⟨n6, j, none⟩ = some u from fun j u hj => hb1.cell j (by simpa using hj))
            have hn1000 : n ≤ 1000 := by have := HN.out; have := HTO.out; omega
            have hqs := HQS.out
            clear hb1
            go_wp2_with (refine app_one Try.underlying26 hi0 hz0 hz1 hz2 rfl (by decide) rfl (.tmp 71) (.tmp 74) rfl w.heap.size A n cap _ [.int .i64 (q : Int)] n6 1 rfl (hR6.out.alloc _) rfl rfl HX.out (by simp [Value.oneCell']) (by omega) (by omega) (by rw [World.size_alloc]; exact Nat.le_succ_of_le HB6.out.size) ?_)
            intro g cap3 W2 hown hgr hor
            have HG := Lib.hid (tk_grown (HB6.out.trans ((box_below (W := w6) (.cells #[.int .i64 (q : Int)] 3)).mono HB6.out.size)) (Nat.le_refl _) hgr (hR6.out.alloc _))
            have HOW := Lib.hid hown
            clear hown hgr hor hi0 hz0 hz1 hz2 hn6 z5
            go_wp2_with fail
            go_roundw
            case rel => exact ⟨k + 1, n + 1, some ⟨g, 0, none⟩, cap3, by simp, rfl, by omega, Lib.hid (by rw [← HN.out]; omega), Lib.hid ⟨by
              obtain ⟨h, h2, h3⟩ := HQS.out
              rw [stG_take h2, h3, ← List.append_assoc, vI_append]
              exact HOW.out, HG.out⟩⟩
            case measure => simp [intOf]; omega
          · obtain ⟨k', q', hk', hkK', hqq, hcq⟩ := HPR.out.resolve_left hk0
            have e0 : decide ((0 : Int) < (k : Int)) = true := by simp; omega
            have e1 : decide ((q : Int) ≤ (q' : Int)) = false := by simp; omega
            have e2 : decide (0 < k) = true := by simp; omega
            have e3 : decide (q ≤ q') = false := by simp; omega
            have y5 := hcq w5 HB5.out
            have ew1 : IntKind.i64.wrap ((k : Int) - 1) = (k' : Int) := by rw [hk']; exact IntWalk.i64_in _ (by omega)
            have ew2 : IntKind.i64.wrap (k' : Int) = (k' : Int) := IntWalk.i64_in _ (by omega)
            go_quiet (fail)
            generalize hw6 : w5.drewN nq = w6
            have hD : Below w5.heap.size w5 w6 := hw6 ▸ Below.drewN' (Below.refl _ _) nq
            have hB6 : Below w.heap.size w w6 := HB5.out.trans (hD.mono HB5.out.size)
            have HB6 := Lib.hid hB6
            have hR6 := Lib.hid (row_same hR5.out fun g hg => hD.block g (hR5.out.lt g hg).2)
            have z5 := (hD.cell (p := ⟨nr, 5, none⟩) HBK.out.lt).trans x5
            clear hB6 hD hw6 x0 x1 x5 c0 c1 c2 e0 e1 e2 e3 ew1 ew2 y5
            obtain ⟨i0, hi0, hz0, hz1, hz2⟩ := info_parts info_int'
            obtain ⟨n6, hn6⟩ : ∃ n, w6.heap.size = n := ⟨_, rfl⟩
            have hb1 := hn6 ▸ blk_new w6 #[.int .i64 (q : Int)] 3
            have HX := Lib.hid (show ∀ j u, [Value.int .i64 (q : Int)][j]? = some u → (w6.alloc (.cells #[.int .i64 (q : Int)] 3)).cell? ⟨n6, j, none⟩ = some u from fun j u hj => hb1.cell j (by simpa using hj))
            have hn1000 : n ≤ 1000 := by have := HN.out; have := HTO.out; omega
            have hqs := HQS.out
            clear hb1
            go_wp2_with (refine app_one Try.underlying26 hi0 hz0 hz1 hz2 rfl (by decide) rfl (.tmp 71) (.tmp 74) rfl w.heap.size A n cap _ [.int .i64 (q : Int)] n6 1 rfl (hR6.out.alloc _) rfl rfl HX.out (by simp [Value.oneCell']) (by omega) (by omega) (by rw [World.size_alloc]; exact Nat.le_succ_of_le HB6.out.size) ?_)
            intro g cap3 W2 hown hgr hor
            have HG := Lib.hid (tk_grown (HB6.out.trans ((box_below (W := w6) (.cells #[.int .i64 (q : Int)] 3)).mono HB6.out.size)) (Nat.le_refl _) hgr (hR6.out.alloc _))
            have HOW := Lib.hid hown
            clear hown hgr hor hi0 hz0 hz1 hz2 hn6 z5
            go_wp2_with fail
            go_roundw
            case rel => exact ⟨k + 1, n + 1, some ⟨g, 0, none⟩, cap3, by simp, rfl, by omega, Lib.hid (by rw [← HN.out]; omega), Lib.hid ⟨by
              obtain ⟨h, h2, h3⟩ := HQS.out
              rw [stG_take h2, h3, ← List.append_assoc, vI_append]
              exact HOW.out, HG.out⟩⟩
            case measure => simp [intOf]; omega
        · obtain rfl : k = K := by omega
          have dk : decide ((k : Int) < (k : Int)) = false := by simp
          go_wp2_with fail
          go_roundw
          case rel => exact ⟨i + 1, n, A, cap, by simp, rfl, by omega, Lib.hid (by obtain ⟨h, h2⟩ := HIL.out; rw [stOf_take h, List.length_append, HN.out.symm]; simp [stG, h2]), Lib.hid (by
            obtain ⟨h, h2⟩ := HIL.out
            rw [stOf_take h]
            have h3 := HB.out
            have e : (stG L[i]).length = k := by unfold stG; rw [List.length_map]; exact h2
            rw [List.take_of_length_le (Nat.le_of_eq e)] at h3
            exact h3)⟩
          case measure => simp [intOf]; omega
    · obtain rfl : i = N := by omega
      have di : decide ((i : Int) < (i : Int)) = false := by simp
      go_wp2_with fail
      go_ret
      have e : n = M := by rw [← HN.out, List.take_of_length_le (by rw [HL.out]; exact Nat.le_refl _), HM.out]
      subst e
      have h3 := HB.out
      rw [List.take_of_length_le (by rw [HL.out]; exact Nat.le_refl _)] at h3
      exact ⟨A, cap, rfl, Lib.hid h3.1, Lib.hid h3.2⟩
end Go.Proofs.Ytbmhhidlmdhacaa
