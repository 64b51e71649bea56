/-
  What (*reader).members tells, whatever the text.
-/
import Derived.Maps.OwnIn
import Derived.Carry
import Derived.Test.YtkfidolbbnmjfaaDoorCtxKey
import Derived.Test.YtkfidolbbnmjfaaDoorCtxPairs
import Derived.Test.YtkfidolbbnmjfaaDoorBlk0
namespace Go.Proofs.YtkfidolbbnmjfaaDoor
open Go.RowKit Go.Shelf Go.Proofs.CtxState Go.Proofs.SeqOwn
attribute [local go_sem] Oper.semAt_some wide_depth wide_fn round_depth round_fn

set_option maxRecDepth 100000 in
set_option maxHeartbeats 1000000 in
theorem members_any (n : Nat) (p : Option Addr) (s : ByteArray) (w : World) :
    CallsIn Fence.wide n Tryd.prog 33 #[.pointer p, .string s] w fun e w' => e = .returned (.func (.func 46) #[] #[.pointer (some ⟨w.heap.size + 1, 0, none⟩), .pointer (some ⟨w.heap.size, 0, none⟩)]) ∧
      w' = (w.alloc (.cells #[.pointer p] 99)).alloc (.cells #[.string s] 9) := by
  refine callsIn_of_wp Tryd.func33 rfl trivial ?_ rfl
  simp only [Tryd.ntmps33, List.size_toArray, List.length_cons, List.length_nil, Nat.reduceAdd, Nat.reduceSub, Array.replicate_succ, Array.replicate_zero, List.push_toArray, List.append_toArray, List.nil_append, List.cons_append]
  gi_wp2
  go_ret
  exact ⟨rfl, rfl⟩

abbrev setL (pre : List (List UInt8 × List UInt8)) : DataW Unit := Maps.setOf (.agg []) (pre.map fun kv => Lit.string kv.1)
theorem setL_snoc (pre : List (List UInt8 × List UInt8)) (kv : List UInt8 × List UInt8) : setL (pre ++ [kv]) = (setL pre).put (Lit.string kv.1) (.agg []) := by
  unfold setL; rw [List.map_append]; exact Maps.setOf_snoc _ _ _
theorem has_setL (pre : List (List UInt8 × List UInt8)) (k : List UInt8) : Maps.has (setL pre) (Lit.string k) = (pre.map Prod.fst).contains k := by
  unfold setL
  rw [Maps.has_setOf _ _ _ (fun x hx => by obtain ⟨kv, _, rfl⟩ := List.mem_map.1 hx; trivial)]
  induction pre with
  | nil => rfl
  | cons kv pre ih =>
    rw [List.map_cons, List.any_cons, List.map_cons, List.contains_cons, ih]
    congr 1
    show (kv.1 == k) = (k == kv.1)
    exact Bool.beq_comm

def boxes2 (b k : Nat) : Prop := k = b ∨ k = b + 1
theorem nm7 {B C N k : Nat} (hC : C = B + 7) (hk : k < B + 3) : ¬ Mine (boxes4 (B + 1 + 1 + 1)) C N k := by
  unfold Mine boxes4
  omega
theorem mm7 {B C N k : Nat} {T : Nat → Prop} (hC : C = B + 7) (hN : C ≤ N) (h : Mine (boxes4 (B + 1 + 1 + 1)) C N k) : Mine T B N k := by
  unfold Mine boxes4 at *
  omega

set_option maxRecDepth 100000 in
set_option maxHeartbeats 4000000 in
theorem members_tells (s : ByteArray) (b br : Nat) (w : World) (hs : s.size ≤ 512) (n : Nat) (hbr : br < b)
    (hb0 : Boxed w b 99 (.pointer (some ⟨br, 0, none⟩))) (hb1 : Boxed w (b + 1) 9 (.string s)) :
    Tells Fence.wide n Tryd.prog 46 #[.pointer (some ⟨b + 1, 0, none⟩), .pointer (some ⟨b, 0, none⟩)] encs2 (boxes2 b)
      (members s.data.toList).1 (if (members s.data.toList).2 then some br else none) False w := by
  obtain ⟨M0, hM0⟩ : ∃ M0, members s.data.toList = M0 := ⟨_, rfl⟩
  rw [hM0]
  obtain ⟨told, htold⟩ : ∃ told, M0.1 = told := ⟨_, rfl⟩
  obtain ⟨bad, hbe⟩ : ∃ bad, (if M0.2 then some br else none) = bad := ⟨_, rfl⟩
  rw [htold, hbe]
  have HM0 := Lib.hid hM0
  have HT := Lib.hid htold
  have HB := Lib.hid hbe
  clear hM0 htold hbe
  intro l J Jx Jb hJ hJx hJb hbad hrd hY h0
  by_cases hz : s.size = 0
  · have d0 := empty_of hz
    have hse : s.data.toList.isEmpty = true := by rw [← list_data]; exact d0
    have hM : M0 = ([], false) := by rw [← HM0.out]; unfold members; rw [hse]; rfl
    have ht : told = [] := by rw [← HT.out, hM]
    have hbn : bad = none := by rw [← HB.out, hM]; rfl
    have hj := h0 (w.heap.size + 1) (w.alloc (.cells #[.func (.yield l) #[] #[]] 100)) ((Only.refl _ w).alloc _) (by simp)
    rw [← ht] at hj
    have HJ := Lib.hid hj
    have HBN := Lib.hid hbn
    have c1 := (hb1.alloc (.cells #[.func (.yield l) #[] #[]] 100)).cell
    clear hJ hJx hJb hbad hrd hY h0 ht hbn hj hM
    refine callsIn_of_wp_marks Tryd.func46 rfl trivial ?_ rfl
    simp only [Tryd.ntmps46, List.size_toArray, List.length_cons, List.length_nil, Nat.reduceAdd, Nat.reduceSub, Array.replicate_succ, Array.replicate_zero, List.push_toArray, List.append_toArray, List.nil_append, List.cons_append]
    gi_wp2
    exact ⟨_, results_none rfl _ _ _, ⟨_, rfl⟩, w.heap.size + 1, by simp, by simp, .inl ⟨HBN.out, HJ.out⟩⟩
  · have d0 := full_of hz
    have c1 := (hb1.alloc (.cells #[.func (.yield l) #[] #[]] 100)).cell
    have c2 := (((hb0.alloc (.cells #[.func (.yield l) #[] #[]] 100)).alloc (.map #[] 0)).alloc (.cells #[.map (some (w.heap.size + 1))] 101)).cell
    have c3 := (((hb1.alloc (.cells #[.func (.yield l) #[] #[]] 100)).alloc (.map #[] 0)).alloc (.cells #[.map (some (w.heap.size + 1))] 101)).cell
    have hmm := @run_makeMap Tryd.prog
    have hlb := hb1.lt
    refine callsIn_of_wp_marks Tryd.func46 rfl trivial ?_ rfl
    simp only [Tryd.ntmps46, List.size_toArray, List.length_cons, List.length_nil, Nat.reduceAdd, Nat.reduceSub, Array.replicate_succ, Array.replicate_zero, List.push_toArray, List.append_toArray, List.nil_append, List.cons_append]
    gi_wp2_with (gi_at_call 47; refine (pairs_any _ _ _ _ _ _).mono ?_; rintro e w' ⟨rfl, rfl⟩)
    obtain ⟨W0, hW0⟩ : ∃ W0, (((((((w.alloc (.cells #[.func (.yield l) #[] #[]] 100)).alloc (.map #[] 0)).alloc (.cells #[.map (some (w.heap.size + 1))] 101)).alloc (.cells #[.pointer (some ⟨br, 0, none⟩)] 99)).alloc (.cells #[.string s] 9)).alloc (.cells #[.string ⟨#[44]⟩] 9)).alloc (.cells #[.string ⟨#[61]⟩] 9)) = W0 := ⟨_, rfl⟩
    have hS0 : W0.heap.size = w.heap.size + 7 := by rw [← hW0]; simp
    have hO0 : Only (fun _ => False) w W0 := by rw [← hW0]; exact ((((((Only.refl _ w).alloc _).alloc _).alloc _).alloc _).alloc _).alloc _ |>.alloc _
    have hown0 : W0.ownsMap Tryd.prog 9 unitElem (w.heap.size + 1) 0 (setL []) := by
      rw [← hW0]
      have := World.ownsMap_made (w.alloc (.cells #[.func (.yield l) #[] #[]] 100)) Tryd.prog 9 (unitElem (H := Unit))
      rw [World.size_alloc] at this
      exact ((((this.alloc _).alloc _).alloc _).alloc _).alloc _
    have x0 : Boxed W0 (w.heap.size) 100 (.func (.yield l) #[] #[]) := by
      rw [← hW0]
      have := Boxed.new w 100 (.func (.yield l) #[] #[])
      exact ((((((this.alloc _).alloc _).alloc _).alloc _).alloc _).alloc _)
    have x1 : Boxed W0 (w.heap.size + 1 + 1) 101 (.map (some (w.heap.size + 1))) := by
      rw [← hW0]
      have := Boxed.new ((w.alloc (.cells #[.func (.yield l) #[] #[]] 100)).alloc (.map #[] 0)) 101 (.map (some (w.heap.size + 1)))
      rw [World.size_alloc, World.size_alloc] at this
      exact ((((this.alloc _).alloc _).alloc _).alloc _)
    have y0 : Boxed W0 (w.heap.size + 1 + 1 + 1) 99 (.pointer (some ⟨br, 0, none⟩)) := by
      rw [← hW0]
      have := Boxed.new (((w.alloc (.cells #[.func (.yield l) #[] #[]] 100)).alloc (.map #[] 0)).alloc (.cells #[.map (some (w.heap.size + 1))] 101)) 99 (.pointer (some ⟨br, 0, none⟩))
      rw [World.size_alloc, World.size_alloc, World.size_alloc] at this
      exact (((this.alloc _).alloc _).alloc _)
    have y1 : Boxed W0 (w.heap.size + 1 + 1 + 1 + 1) 9 (.string s) := by
      rw [← hW0]
      have := Boxed.new ((((w.alloc (.cells #[.func (.yield l) #[] #[]] 100)).alloc (.map #[] 0)).alloc (.cells #[.map (some (w.heap.size + 1))] 101)).alloc (.cells #[.pointer (some ⟨br, 0, none⟩)] 99)) 9 (.string s)
      rw [World.size_alloc, World.size_alloc, World.size_alloc, World.size_alloc] at this
      exact ((this.alloc _).alloc _)
    have y2 : Boxed W0 (w.heap.size + 1 + 1 + 1 + 1 + 1) 9 (.string ⟨#[44]⟩) := by
      rw [← hW0]
      have := Boxed.new (((((w.alloc (.cells #[.func (.yield l) #[] #[]] 100)).alloc (.map #[] 0)).alloc (.cells #[.map (some (w.heap.size + 1))] 101)).alloc (.cells #[.pointer (some ⟨br, 0, none⟩)] 99)).alloc (.cells #[.string s] 9)) 9 (.string ⟨#[44]⟩)
      rw [World.size_alloc, World.size_alloc, World.size_alloc, World.size_alloc, World.size_alloc] at this
      exact (this.alloc _)
    have y3 : Boxed W0 (w.heap.size + 1 + 1 + 1 + 1 + 1 + 1) 9 (.string ⟨#[61]⟩) := by
      rw [← hW0]
      have := Boxed.new ((((((w.alloc (.cells #[.func (.yield l) #[] #[]] 100)).alloc (.map #[] 0)).alloc (.cells #[.map (some (w.heap.size + 1))] 101)).alloc (.cells #[.pointer (some ⟨br, 0, none⟩)] 99)).alloc (.cells #[.string s] 9)).alloc (.cells #[.string ⟨#[44]⟩] 9)) 9 (.string ⟨#[61]⟩)
      rw [World.size_alloc, World.size_alloc, World.size_alloc, World.size_alloc, World.size_alloc, World.size_alloc] at this
      exact this
    have x2 := hO0.box hb0 id
    rw [hW0]
    clear hW0 c1 c2 c3 hmm
    obtain ⟨P0, hP0⟩ : ∃ P0, pairs 61 (split 44 s.data.toList) = P0 := ⟨_, rfl⟩
    obtain ⟨tp, htp⟩ : ∃ tp, P0.1 = tp := ⟨_, rfl⟩
    obtain ⟨bp, hbp⟩ : ∃ bp, (if P0.2 then some br else none) = bp := ⟨_, rfl⟩
    have hM : M0 = mem P0.2 [] tp := by
      rw [← HM0.out, ← htp, ← hP0]
      unfold members
      rw [← list_data, d0, list_data]
      rfl
    have HP0 := Lib.hid hP0
    have HTP := Lib.hid htp
    have HBP := Lib.hid hbp
    have HM := Lib.hid hM
    clear hP0 htp hbp hM
    obtain ⟨I, hIe⟩ : ∃ I : Nat → List (List UInt8 × List UInt8) → World → Prop, I = fun N pre W => okPre P0.2 pre ∧ J N pre W ∧ Boxed W w.heap.size 100 (.func (.yield l) #[] #[]) ∧ Boxed W (w.heap.size + 1 + 1) 101 (.map (some (w.heap.size + 1))) ∧ W.ownsMap Tryd.prog 9 unitElem (w.heap.size + 1) pre.length (setL pre) ∧ Boxed W b 99 (.pointer (some ⟨br, 0, none⟩)) := ⟨_, rfl⟩
    obtain ⟨Ib, hIbe⟩ : ∃ Ib : Nat → World → Prop, Ib = fun N W => bad ≠ none ∧ Jb N W := ⟨_, rfl⟩
    obtain ⟨Ix, hIxe⟩ : ∃ Ix : Nat → Code → List (List UInt8 × List UInt8) → World → Prop, Ix = fun N c' _ W => c' = .ret ∧ bad ≠ none ∧ Jb N W := ⟨_, rfl⟩
    have HI := Lib.hid hIe
    have HX := Lib.hid hIxe
    have HIb := Lib.hid hIbe
    clear hIe hIxe hIbe
    have HBB : Hid (∀ x, bp = some x → x = br) := Lib.hid (fun x h => by rw [← HBP.out] at h; split at h; exact (Option.some.inj h).symm; cases h)
    obtain ⟨B0, hB0⟩ : ∃ B0, W0.heap.size = B0 := ⟨_, rfl⟩
    refine wpIn_range rfl (by simp [Fence.wide]) (gf := 68) (lb := #[.pointer (some ⟨w.heap.size + 1 + 1 + 1 + 1, 0, none⟩), .pointer (some ⟨w.heap.size + 1 + 1 + 1 + 1 + 1, 0, none⟩), .pointer (some ⟨w.heap.size + 1 + 1 + 1 + 1 + 1 + 1, 0, none⟩), .pointer (some ⟨w.heap.size + 1 + 1 + 1, 0, none⟩)]) rfl trivial (enters_of Tryd.func68 (by kernel_rfl) rfl)
      (encs := encs2) (T := boxes4 (w.heap.size + 1 + 1 + 1)) (xs := tp) (bad := bp) (S := True) (by rw [hS0]; unfold boxes4; intro k hk; omega) (fun x h => by rw [HBB.out x h, hS0]; omega)
      (fun W1 hO => by
        have := pairs_tells s 44 61 (w.heap.size + 1 + 1 + 1) br W1 (by omega) (n - 1) True (by omega) (hO.box y0 id) (hO.box y1 id) (hO.box y2 id) (hO.box y3 id)
        rw [HP0.out, HTP.out, HBP.out] at this
        exact this) (fun _ => rfl)
      I Ix Ib
      ?hI ?hIx ?hIb ?hbad ?hrd ?h0
      (fun p => { tmps := #[.func (.yield l) #[] #[], .pointer (some ⟨b + 1, 0, none⟩), .pointer (some ⟨b, 0, none⟩), .pointer (some ⟨w.heap.size, 0, none⟩), .pointer (some ⟨w.heap.size + 1 + 1, 0, none⟩), .string (bs p.1), .string (bs p.2), undef, undef, .string s, .bool false, .map (some (w.heap.size + 1)), .pointer (some ⟨br, 0, none⟩), .string s, .func (.func 68) #[] #[.pointer (some ⟨w.heap.size + 1 + 1 + 1 + 1, 0, none⟩), .pointer (some ⟨w.heap.size + 1 + 1 + 1 + 1 + 1, 0, none⟩), .pointer (some ⟨w.heap.size + 1 + 1 + 1 + 1 + 1 + 1, 0, none⟩), .pointer (some ⟨w.heap.size + 1 + 1 + 1, 0, none⟩)], .string (bs p.1), .string (bs p.2), undef, undef, undef, undef, undef, undef, undef, undef, undef, undef, undef, undef, undef, undef, undef, undef, undef, undef, undef, undef, undef, undef, undef, undef, undef, undef, undef, undef], defers := [] }) ?assign ?body ?done ?fail ?stop
    case hI =>
      rintro N pre A B hN hA h hO
      rw [HI.out] at h ⊢
      obtain ⟨h1, h2, h3, h4, h5, h6⟩ := h
      rw [hS0] at hN
      have hb5 := h5.lt
      refine ⟨h1, hJ N _ A B (by omega) hA h2 (hO.mono fun _ _ => mm7 hS0 (hS0 ▸ hN)), hO.box h3 (nm7 hS0 (by omega)), hO.box h4 (nm7 hS0 (by omega)), ?_, hO.box h6 (nm7 hS0 (by omega))⟩
      obtain ⟨es, clock, hb, r⟩ := h5
      exact ⟨es, clock, hO.at' hb (nm7 hS0 (by omega)), r⟩
    case hIx =>
      rintro N c' pre A B hN hA h hO
      rw [HX.out] at h ⊢
      obtain ⟨h1, h2, h3⟩ := h
      rw [hS0] at hN
      exact ⟨h1, h2, hJb N A B (by omega) hA h3 (hO.mono fun _ _ => mm7 hS0 (hS0 ▸ hN))⟩
    case hIb =>
      rintro N A B hN hA h hO
      rw [HIb.out] at h ⊢
      rw [hS0] at hN
      exact ⟨h.1, hJb N A B (by omega) hA h.2 (hO.mono fun _ _ => mm7 hS0 (hS0 ▸ hN))⟩
    case hbad =>
      rintro x hx N A hN hA h
      rw [HI.out] at h
      obtain ⟨h1, h2, _⟩ := h
      have hp2 : P0.2 = true := by
        rw [← HBP.out] at hx
        split at hx
        · assumption
        · cases hx
      have hall := okPre_all h1
      rw [hp2] at hall
      have hMM := HM.out
      rw [hp2, hall] at hMM
      have ht : told = tp := by rw [← HT.out, hMM]
      have hbb : bad = some br := by rw [← HB.out, hMM]; rfl
      rw [HIb.out, HBB.out x hx]
      rw [hS0] at hN
      exact ⟨by rw [hbb]; simp, hbad br hbb N A (by omega) hA (by rw [ht]; exact h2)⟩
    case hrd =>
      rintro x hx N pre A h
      rw [HI.out] at h
      have hp2 : P0.2 = true := by
        rw [← HBP.out] at hx
        split at hx
        · assumption
        · cases hx
      have hMM := HM.out
      rw [hp2] at hMM
      have hbb : bad = some br := by rw [← HB.out, hMM, mem_true]; rfl
      rw [HBB.out x hx]
      exact hrd br hbb N pre A h.2.1
    case h0 =>
      rintro N W1 hO hN
      have hO1 : Only (boxes4 (w.heap.size + 1 + 1 + 1)) w W1 := (hO0.mono (fun _ _ h => h.elim)).trans hO
      rw [HI.out]
      have hn : ∀ k, k < w.heap.size + 3 → ¬ boxes4 (w.heap.size + 1 + 1 + 1) k := fun k hk => by unfold boxes4; omega
      refine ⟨okPre_nil _, h0 N W1 (hO1.mono (fun i hi h => by unfold boxes4 at h; omega)) hN, hO.box x0 (hn _ (by omega)), hO.box x1 (hn _ (by omega)), ?_, hO.box x2 (hn _ (by omega))⟩
      obtain ⟨es, clock, hb, r⟩ := hown0
      exact ⟨es, clock, hO.at' hb (hn _ (by omega)), r⟩
    case assign =>
      intro l2 x W K hK
      clear hJ hJx hJb hbad hrd hY h0
      dsimp only [encs2]
      gi_wp2
      exact hK
    case body =>
      rintro l2 N pre ⟨k, v⟩ W hN hNW hp h
      rw [HI.out] at h
      obtain ⟨hok, hj, X0, X1, hown, X2⟩ := h
      have hwN : w.heap.size ≤ N := by omega
      have hlN : w.heap.size + 3 ≤ N := by omega
      have hnb : ¬ Mine (boxes4 (w.heap.size + 1 + 1 + 1)) W0.heap.size N br := nm7 hS0 (by omega)
      have hnm : ¬ Mine (boxes4 (w.heap.size + 1 + 1 + 1)) W0.heap.size N (w.heap.size + 1) := nm7 hS0 (by omega)
      have hsub : ∀ i, Mine (boxes4 (w.heap.size + 1 + 1 + 1)) W0.heap.size N i → Mine (boxes2 b) w.heap.size N i := fun i => mm7 hS0 hN
      rw [hB0] at hN hsub hnb hnm ⊢
      clear hS0 hB0 x0 x1 x2 y0 y1 y2 y3 hown0 hO0 h0
      have hkl : k.length ≤ 512 ∧ v.length ≤ 512 := by
        rw [← HTP.out, ← HP0.out] at hp
        have := told_lens hp
        exact ⟨Nat.le_trans this.1 hs, Nat.le_trans this.2 hs⟩
      have hks : (bs k).size ≤ maxLen := by rw [size_bs]; exact Nat.le_trans hkl.1 (by decide)
      have hkey : keyOf Tryd.prog 9 (.string (bs k)) = some (.string k) := by rw [WideMaps.keyOf_string_mk Tryd.underlying9 hks, list_bs]
      have hhas := has_setL pre k
      have d1 := X1.cell
      have d2 := X2.cell
      obtain ⟨r, hr⟩ := hp
      have hr0 := hr
      have hr' : tp = pre ++ (k, v) :: r := by rw [← hr]; simp
      have hwrong : ((pre.map Prod.fst).contains k || !rightKey k || !rightVal v) = true → told = pre ∧ bad = some br := fun hw => by
        have := okPre_bad (kv := (k, v)) hok hw r
        have hMM := HM.out
        rw [hr', this] at hMM
        exact ⟨by rw [← HT.out, hMM], by rw [← HB.out, hMM]; rfl⟩
      have hfin : told = pre → bad = some br → ∀ W', Only (fun i => ¬ Mine (boxes4 (w.heap.size + 1 + 1 + 1)) B0 N i) W W' → N ≤ W'.heap.size → J N pre W' → (Only (fun i => ¬ Mine (boxes4 (w.heap.size + 1 + 1 + 1)) B0 N i) W (W'.setCell ⟨br, 0, none⟩ (.int .u16 31)) ∧ Ix N .ret (pre ++ [(k, v)]) (W'.setCell ⟨br, 0, none⟩ (.int .u16 31))) := fun ht hb W' hO hN' hj' => by
        refine ⟨hO.setCell _ (fun _ => hnb), ?_⟩
        rw [HX.out]
        exact ⟨rfl, by rw [hb]; simp, hbad br hb N W' hwN hN' (by rw [ht]; exact hj')⟩
      have HF := Lib.hid hfin
      have HW := Lib.hid hwrong
      have HOK := Lib.hid hok
      have HO := Lib.hid hown
      have hrdr := fun h1 => hrd br h1 N pre W hj
      have HR := Lib.hid hrdr
      have hr := hr0
      clear hfin hwrong hok hr0 hr' hJb hJx hbad hrdr hrd
      obtain ⟨D, hD⟩ : ∃ D, setL pre = D := ⟨_, rfl⟩
      rw [hD] at hhas
      have hownD : W.ownsMap Tryd.prog 9 unitElem (w.heap.size + 1) pre.length D := hD ▸ HO.out
      have hJk := fun A h => hJ N pre W A hwN hNW hj h
      have HJ := Lib.hid hJk
      have O1 : Only (fun _ => False) W (W.alloc (.cells #[] 103)) := (Only.refl _ W).alloc _
      have hIK := fun W => isKey_any (bs k) W (by rw [size_bs]; omega)
      have hIV := fun W => isValue_any (bs v) W (by rw [size_bs]; omega)
      rw [list_bs] at hIK hIV
      clear hJ hJk hown
      cases hcon : (pre.map Prod.fst).contains k with
      | true =>
        rw [hcon] at hhas
        obtain ⟨ht, hb⟩ := HW.out (by rw [hcon]; rfl)
        obtain ⟨ty, v0, hBr⟩ := HR.out hb
        have HB1 := Lib.hid hb
        have z1 := (O1.box X2 id).cell
        have zb := (O1.box hBr id).cell
        have zf := (O1.box hBr id).frozen
        clear hcon hY hD hb hIK hIV
        gi_wp2_with (gi_at_lookup; refine wpListIn_lookup_own_unit _ rfl _ _ 101 rfl 9 103 (Maps.string_keyed Tryd.underlying9) Tryd.underlying101 (Tryd.zeroValue103 _) (w.heap.size + 1) pre.length D rfl hownD _ (Lit.string k) rfl hkey ?_)
        have hF2 := HF.out ht HB1.out _ (O1.mono fun _ _ h => h.elim) (Nat.le_trans hNW O1.size) (HJ.out _ (O1.mono fun _ _ h => h.elim))
        exact ⟨trivial, hF2.1, hF2.2⟩
      | false =>
        rw [hcon] at hhas
        cases hrk : rightKey k with
        | false =>
          obtain ⟨ht, hb⟩ := HW.out (by rw [hcon, hrk]; rfl)
          obtain ⟨ty, v0, hBr⟩ := HR.out hb
          have HB1 := Lib.hid hb
          rw [hrk] at hIK
          have HIK := Lib.hid hIK
          clear hcon hY hD hb hIK hIV hrk
          gi_wp2_with (first | (gi_at_lookup; refine wpListIn_lookup_own_unit _ rfl _ _ 101 rfl 9 103 (Maps.string_keyed Tryd.underlying9) Tryd.underlying101 (Tryd.zeroValue103 _) (w.heap.size + 1) pre.length D rfl hownD _ (Lit.string k) rfl hkey ?_) | (gi_at_call 48; refine (CallsIn.inRound l2 (callsIn_wide.2 (HIK.out _))).mono ?_; rintro e w2 ⟨rfl, hb2⟩; have hO2 := O1.trans (Only.ofBelow hb2); have z1 := (hO2.box X2 id).cell; have zb := (hO2.box hBr id).cell; have zf := (hO2.box hBr id).frozen))
          have hF2 := HF.out ht HB1.out _ (hO2.mono fun _ _ h => h.elim) (Nat.le_trans hNW hO2.size) (HJ.out _ (hO2.mono fun _ _ h => h.elim))
          exact ⟨trivial, hF2.1, hF2.2⟩
        | true =>
          rw [hrk] at hIK
          have HIK := Lib.hid hIK
          cases hrv : rightVal v with
          | false =>
            obtain ⟨ht, hb⟩ := HW.out (by rw [hcon, hrk, hrv]; rfl)
            obtain ⟨ty, v0, hBr⟩ := HR.out hb
            have HB1 := Lib.hid hb
            rw [hrv] at hIV
            have HIV := Lib.hid hIV
            clear hcon hY hD hb hIK hIV hrk hrv
            gi_wp2_with (first | (gi_at_lookup; refine wpListIn_lookup_own_unit _ rfl _ _ 101 rfl 9 103 (Maps.string_keyed Tryd.underlying9) Tryd.underlying101 (Tryd.zeroValue103 _) (w.heap.size + 1) pre.length D rfl hownD _ (Lit.string k) rfl hkey ?_) | (gi_at_call 48; refine (CallsIn.inRound l2 (callsIn_wide.2 (HIK.out _))).mono ?_; rintro e w2 ⟨rfl, hb2⟩; have hO2 := O1.trans (Only.ofBelow hb2); skip) | (gi_at_call 49; refine (CallsIn.inRound l2 (callsIn_wide.2 (HIV.out _))).mono ?_; rintro e w3 ⟨rfl, hb3⟩; have hO3 := hO2.trans (Only.ofBelow hb3); have z1 := (hO3.box X2 id).cell; have zb := (hO3.box hBr id).cell; have zf := (hO3.box hBr id).frozen))
            have hF2 := HF.out ht HB1.out _ (hO3.mono fun _ _ h => h.elim) (Nat.le_trans hNW hO3.size) (HJ.out _ (hO3.mono fun _ _ h => h.elim))
            exact ⟨trivial, hF2.1, hF2.2⟩
          | true =>
            rw [hrv] at hIV
            have HIV := Lib.hid hIV
            have hok2 := okPre_snoc (kv := (k, v)) HOK.out hcon hrk hrv
            have hpre : pre ++ [(k, v)] <+: told := by
              have hMM := HM.out
              have := okPre_pre (r := r) hok2
              rw [← HT.out, hMM, ← hr]
              exact this
            have hlen : pre.length < maxLen := by
              have h1 := pairs_count 61 (split 44 s.data.toList)
              rw [HP0.out, HTP.out, ← hr] at h1
              have h2 := split_count 44 s.data.toList
              have h3 : s.data.toList.length = s.size := by simp
              have h4 : (513 : Nat) < maxLen := by decide
              simp only [List.length_append, List.length_cons, List.length_nil] at h1
              omega
            have hYk := fun A hA h => hY N pre (k, v) A hwN hA hpre h
            dsimp only [encs2] at hYk
            have hmap : Mine (boxes2 b) w.heap.size N (w.heap.size + 1) := .inr ⟨by omega, by omega⟩
            have HOK2 := Lib.hid hok2
            have HDD := Lib.hid hD
            clear hcon hY hD hIK hIV hrk hrv hok2 hr
            gi_wp2_with (first | (gi_at_lookup; refine wpListIn_lookup_own_unit _ rfl _ _ 101 rfl 9 103 (Maps.string_keyed Tryd.underlying9) Tryd.underlying101 (Tryd.zeroValue103 _) (w.heap.size + 1) pre.length D rfl hownD _ (Lit.string k) rfl hkey ?_) | (gi_at_call 48; refine (CallsIn.inRound l2 (callsIn_wide.2 (HIK.out _))).mono ?_; rintro e w2 ⟨rfl, hb2⟩; have hO2 := O1.trans (Only.ofBelow hb2); skip) | (gi_at_call 49; refine (CallsIn.inRound l2 (callsIn_wide.2 (HIV.out _))).mono ?_; rintro e w3 ⟨rfl, hb3⟩; have hO3 := hO2.trans (Only.ofBelow hb3); have z1 := (hO3.box X1 id).cell; have z0 := (hO3.box X0 id).cell; have own3 := hO3.map hownD id) | (gi_at_mapUpdate; refine wpListIn_mapUpdate_own _ rfl _ _ _ 101 rfl 9 103 (Maps.string_keyed Tryd.underlying9) Tryd.underlying101 unitElem (w.heap.size + 1) pre.length D rfl own3 hlen _ _ (Lit.string k) rfl rfl hkey (.agg []) [] unitElem_mk ?_; intro w4 hown4 hg4; have hO4 : Only (fun i => i = w.heap.size + 1) W w4 := (hO3.mono (fun _ _ h => h.elim)).grown hg4 (fun j e _ => (Option.some.inj e).symm); have q0 := (hO4.box X0 (Nat.succ_ne_self _).symm).cell; obtain ⟨fn, tmps, assign, body, hy, hR⟩ := hYk w4 (Nat.le_trans hNW hO4.size) (HJ.out _ (hO4.mono (fun i _ e => e ▸ hmap)))))
            refine RoundIn.mono (roundIn_wide hR) ?_
            rintro e W5 (⟨rfl, hJ5, hk5⟩ | ⟨hf, _⟩)
            · gi_wp2
              refine ⟨(hO4.mono (fun i _ e => e ▸ hnm)).step hk5 (fun i _ h e => h (hsub i e)), ?_⟩
              rw [HI.out]
              refine ⟨HOK2.out, hJ5, hk5.box (hO4.box X0 (Nat.succ_ne_self _).symm) (fun h => h (.inr ⟨Nat.le_refl _, by omega⟩)), hk5.box (hO4.box X1 (Nat.succ_ne_self _)) (fun h => h (.inr ⟨by omega, by omega⟩)), ?_, hk5.box (hO4.box X2 (by omega)) (fun h => h (.inl (.inl rfl)))⟩
              have hm5 := hk5.map hown4 (fun h => h hmap)
              rw [setL_snoc, HDD.out, List.length_append]
              exact hm5
            · exact hf.elim
    case done =>
      rintro N W hbn hN hNW h hK
      rw [HI.out] at h
      obtain ⟨hok, hj, _⟩ := h
      have hp2 : P0.2 = false := by
        rw [← HBP.out] at hbn
        cases h : P0.2
        · rfl
        · rw [h] at hbn; cases hbn
      have hMM := HM.out
      rw [okPre_all hok, hp2] at hMM
      have ht : told = tp := by rw [← HT.out, hMM]
      have hbb : bad = none := by rw [← HB.out, hMM]; rfl
      rw [← ht] at hj
      have hwN : w.heap.size ≤ N := by omega
      have hm : Mine (boxes2 b) w.heap.size N W0.heap.size := .inr ⟨by omega, by omega⟩
      have hj2 := hJ N _ W (W.putObj W0.heap.size (.deferred none)) hwN hNW hj (Only.put _ _ _ _ hm)
      have HBN := Lib.hid hbb
      have HJ2 := Lib.hid hj2
      clear hbb hok hbad hrd hY h0 hJ hJx hJb hj hj2 ht hMM hp2 hbn
      rw [hB0] at hK HJ2 hm ⊢
      clear hB0 hS0 x0 x1 x2 y0 y1 y2 y3 hown0 hO0
      gi_wp2
      refine ⟨by simp, .inl ⟨_, _, rfl, run_takeDeferred hK, ?_⟩⟩
      exact ⟨_, results_none rfl _ _ _, ⟨_, rfl⟩, N, hwN, by simpa using hNW, .inl ⟨HBN.out, HJ2.out⟩⟩
    case fail =>
      rintro N W _ hN hNW h hK
      rw [HIb.out] at h
      obtain ⟨h1, h2⟩ := h
      have hwN : w.heap.size ≤ N := by omega
      have hm : Mine (boxes2 b) w.heap.size N W0.heap.size := .inr ⟨by omega, by omega⟩
      have hj2 := hJb N W (W.putObj W0.heap.size (.deferred none)) hwN hNW h2 (Only.put _ _ _ _ hm)
      have HBN := Lib.hid h1
      have HJ2 := Lib.hid hj2
      clear h1 h2 hbad hrd hY h0 hJ hJx hJb hj2
      rw [hB0] at hK HJ2 hm ⊢
      clear hB0 hS0 x0 x1 x2 y0 y1 y2 y3 hown0 hO0
      gi_wp2
      refine ⟨by simp, .inl ⟨_, _, rfl, run_takeDeferred hK, ?_⟩⟩
      exact ⟨_, results_none rfl _ _ _, ⟨_, rfl⟩, N, hwN, by simpa using hNW, .inr (.inl ⟨HBN.out, HJ2.out⟩)⟩
    case stop =>
      rintro N c' pre W _ _ hN hNW h hK
      rw [HX.out] at h
      obtain ⟨rfl, h1, h2⟩ := h
      have hwN : w.heap.size ≤ N := by omega
      have hm : Mine (boxes2 b) w.heap.size N W0.heap.size := .inr ⟨by omega, by omega⟩
      have hj2 := hJb N W (W.putObj W0.heap.size (.deferred none)) hwN hNW h2 (Only.put _ _ _ _ hm)
      have HBN := Lib.hid h1
      have HJ2 := Lib.hid hj2
      clear h1 h2 hbad hrd hY h0 hJ hJx hJb hj2
      rw [hB0] at hK HJ2 hm ⊢
      clear hB0 hS0 x0 x1 x2 y0 y1 y2 y3 hown0 hO0
      gi_wp2
      refine ⟨by simp, .inl ⟨_, _, rfl, run_takeDeferred hK, ?_⟩⟩
      exact ⟨_, results_none rfl _ _ _, ⟨_, rfl⟩, N, hwN, by simpa using hNW, .inr (.inl ⟨HBN.out, HJ2.out⟩)⟩
end Go.Proofs.YtkfidolbbnmjfaaDoor
