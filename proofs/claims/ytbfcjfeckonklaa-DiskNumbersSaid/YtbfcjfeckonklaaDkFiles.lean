/-
  What a disk's Files tells: the numbers of all files, rising.
-/
import Derived.Maps.RangeWalk
import Derived.Test.YtbfcjfeckonklaaDkSort
import Derived.Test.YtbfcjfeckonklaaDkWrite
namespace Go.Proofs.Ytbfcjfeckonklaa
open Go.RowKit Go.Maps Go.Proofs.DiskMath

/-- The keys that a range over a map has told so far. -/
structure Coll (D : DataW Unit) (left : Lit → Bool) (zs : List Int) : Prop where
  nd : zs.Nodup
  mem : ∀ x : Int, x ∈ zs ↔ (Maps.has D (kl x) = true ∧ left (kl x) = false)
  sub : ∀ k, left k = true → Maps.has D k = true
theorem Coll.start (D : DataW Unit) : Coll D (Maps.has D) [] := ⟨List.nodup_nil, fun x => by cases e : Maps.has D (kl x) <;> simp, fun _ h => h⟩
theorem Coll.step {D : DataW Unit} {left : Lit → Bool} {zs : List Int} (h : Coll D left zs) {x : Int} (hl : left (kl x) = true) : Coll D (fun z => left z && !z.sameKey (kl x)) (zs ++ [x]) := by
  have hx : x ∉ zs := fun hm => by
    have := ((h.mem x).1 hm).2
    rw [hl] at this; cases this
  refine ⟨List.nodup_append.2 ⟨h.nd, by simp, fun a ha b hb e => hx (by simp at hb; rw [← hb, ← e]; exact ha)⟩, fun y => ?_, fun k hk => h.sub k (by simp at hk; exact hk.1)⟩
  by_cases e : y = x
  · subst e
    have h3 := h.sub _ hl
    unfold kl at h3
    simp [h3, Lit.sameKey, kl]
  · have h1 := h.mem y
    have h2 : (kl y).sameKey (kl x) = false := sameKey_ne (kl_ne e)
    simp only [List.mem_append, List.mem_singleton, e, or_false, h2, Bool.not_false, Bool.and_true]
    exact h1
theorem Coll.perm {W : World} {M : Nat} {F : List Fe} {s : List Fi} {D : DataW Unit} {left : Lit → Bool} {zs : List Int} (h : Coll D left zs) (hl : ∀ k, left k = false) (hD : As ptrElem D (fE F)) (hfl : F.map (·.f) = s) (hi : Iv s) (_ : W.heap.size = M ∨ True) : zs.Perm (s.map fun f => (f.no : Int)) := by
  have hn : (s.map fun f => (f.no : Int)).Nodup := by
    rw [List.nodup_iff_pairwise_ne, List.pairwise_map]
    exact hi.rise.imp fun {a b} h => by omega
  rw [List.perm_ext_iff_of_nodup h.nd hn]
  intro x
  rw [h.mem x, hl]
  simp only [and_true]
  constructor
  · intro hx
    obtain ⟨p, hp, e⟩ := hD.only _ hx
    obtain ⟨y, hy, rfl⟩ := List.mem_map.1 hp
    have e2 : (y.f.no : Int) = x := by
      by_cases e3 : (y.f.no : Int) = x
      · exact e3
      · exact absurd e (kl_ne e3)
    rw [← hfl]
    exact List.mem_map.2 ⟨y.f, List.mem_map.2 ⟨y, hy, rfl⟩, e2⟩
  · intro hx
    obtain ⟨f, hf, rfl⟩ := List.mem_map.1 hx
    rw [← hfl] at hf
    obtain ⟨y, hy, rfl⟩ := List.mem_map.1 hf
    exact (hD.has _ (List.mem_map.2 ⟨y, hy, rfl⟩)).1
/-- A row of numbers that a call has told: new memory. -/
def Nos (W : World) (B : Nat) (A : Option Addr) (l : List Nat) : Prop := 0 < l.length → ∃ g, A = some ⟨g, 0, none⟩ ∧ B ≤ g ∧ g < W.heap.size ∧ ∀ j, j < l.length → W.cell? ⟨g, j, none⟩ = some (.int .i64 (l.getD j 0 : Nat))
theorem Nos.mut {W W' : World} {B : Nat} {A : Option Addr} {l : List Nat} (h : Nos W B A l) {bs : List Nat} (hb : Mut bs W W') (hn : ∀ g, A.map (·.block) = some g → g ∉ bs) : Nos W' B A l := fun h0 => by
  obtain ⟨g, rfl, h1, h2, h3⟩ := h h0
  exact ⟨g, rfl, h1, Nat.lt_of_lt_of_le h2 hb.size, fun j hj => by rw [← h3 j hj]; exact World.cell?_of_block (hb.block g h2 (hn g rfl))⟩
theorem Nos.later {W W' : World} {B : Nat} {A : Option Addr} {l : List Nat} (h : Nos W B A l) (hb : Below W.heap.size W W') : Nos W' B A l := h.mut (bs := []) (Mut.of_below hb) (by simp)
theorem info_int : (Try.prog.info? 3).map (fun i => (i.zero, i.size, i.bytes)) = some (some (.int .i64 0), 1, 8) := by kernel_rfl
/-- 'l[:n:n]'. -/
theorem cut_all (A : Option Addr) (n cap : Nat) (h : n ≤ cap) (W : World) : (Instr.slice 52 (.slice A n cap) none (some (.int .i64 (n : Int))) (some (.int .i64 (n : Int)))).run Try.prog W = .ok (.slice A n n) W := by
  rw [run_slice_hm W 52 A n cap (by kernel_rfl) .i64 .i64 (n : Int) (n : Int) (by omega) (by omega) (by omega)]
  have hz : (sizeOf (Try.prog.elem 52)).run Try.prog W = .ok 1 W := by kernel_rfl
  rw [hz]
  simp only [sliced, Result.andThen, Int.toNat_natCast, Nat.zero_mul, Nat.sub_zero]
  have e : A.map (·.add 0) = A := by cases A <;> simp [Addr.add]
  by_cases h0 : n = 0
  · rw [if_pos h0]
  · rw [if_neg h0, e]

set_option linter.unusedSimpArgs false in
set_option maxRecDepth 100000 in
set_option maxHeartbeats 1000000 in
theorem files_any {bs : List Nat} {S : Nat} {s : List Fi} (w : World) (h : Dd w bs S s) (n : Nat) (hn : s.length = n) (hb : n ≤ 100000) :
    Calls Try.prog 25 #[.pointer (some ⟨S, 0, none⟩)] w fun e w' => ∃ A, e = .returned (.slice A n n) ∧ Nos w' w.heap.size A (s.map (·.no)) ∧ Below w.heap.size w w' := by
  obtain ⟨M, F, hk, hbs⟩ := h
  have c0 : w.cell? ⟨S, 0, none⟩ = some (.map (some M)) := hk.blk.cell 0 rfl
  obtain ⟨D, hown, hD⟩ := hk.map
  have hMlt := hown.lt
  have hFn : F.length = n := by rw [← hn, ← hk.fl, List.length_map]
  have hsize : Maps.size D = n := by rw [hD.size]; simp [fE, hFn]
  obtain ⟨n0, hn0⟩ : ∃ n0, w.heap.size = n0 := ⟨_, rfl⟩
  rw [hn0] at hMlt ⊢
  have HZ := Lib.hid (show ∀ D' left zs, Coll D left zs → (∀ k, left k = false) → D' = D → zs.length = n ∧ srt zs = s.map fun f => (f.no : Int) from fun D' left zs hc hl _ => by
    have hp := hc.perm (W := w) (M := 0) hl hD hk.fl hk.iv (.inr trivial)
    exact ⟨by rw [hp.length_eq, List.length_map, hn], srt_perm hp (by rw [List.pairwise_map]; exact hk.iv.rise.imp fun {a b} h => by omega)⟩)
  have HO := Lib.hid hown
  have HD := Lib.hid hsize
  have HN := Lib.hid hn
  clear hk hbs hD hown hFn hsize hn
  go_enter Try.func25, Try.ntmps25
  go_wp2_with (first
    | (at_range; refine wpList_range_own _ rfl _ 59 rfl 3 62 law_int Try.underlying59 _ M _ _ rfl HO.out ?_; intro w0 hrg0 hg0 hs0)
    | fail)
  go_frame
  rw [hn0] at hrg0 hs0 ⊢
  rw [HD.out] at hrg0
  have HR0 := Lib.hid hrg0
  have HG0 := Lib.hid hg0
  clear hg0 hrg0 hs0
  go_loopw [3] (fun v wr => ∃ (left : Lit → Bool) (cnt : Nat) (zs : List Int) (k : Nat) (A : Option Addr) (cap : Nat), v = .slice A k cap ∧ k + cnt ≤ n ∧ Hid (wr.ranges Try.prog 3 ptrElem M n0 (fE F).length D left cnt) ∧ Hid (Coll D left zs) ∧ Hid (zs.length = k) ∧ Hid (wr.ownsRow (n0 + 1) 3 1 (.slice A k cap) k (zs.map (Value.int .i64))) ∧ Hid (Below n0 w wr))
    (fun _ wr => wr.rangeLeft M n0)
  case atStart =>
    refine ⟨_, _, [], 0, none, 0, rfl, by omega, HR0, Lib.hid (Coll.start D), Lib.hid rfl, Lib.hid ⟨rfl, .inl ⟨rfl, rfl⟩⟩, Lib.hid ?_⟩
    have hg := HG0.out
    exact ⟨hg.os, hg.tape, hg.output, by have := hg.size; omega, fun k hk => hg.block k (by omega) (by simp)⟩
  case round =>
    obtain ⟨left, cnt, zs, k, A, cap, rfl, hkc, HRG, HC, HL, HW, HB⟩ := hrel
    go_wp2_with (first
      | (at_next; refine wpList_next_ranges _ rfl _ rfl 3 law_int ptrElem (Value.int .i64) Value.pointer (fun key kl hkey => by obtain ⟨x, rfl, _⟩ := Maps.keyOf_int_inv Try.underlying3 hkey; exact ⟨x, rfl⟩) (fun v y hv => by rcases ptrElem_inv hv with ⟨b, rfl, _⟩ | ⟨rfl, _⟩ <;> exact ⟨_, rfl⟩) M n0 _ _ _ _ rfl HRG.out ?_ ?_)
      | fail)
    · intro hc0 hl0
      obtain ⟨hzn, hsr⟩ := HZ.out D left zs HC.out hl0 rfl
      obtain rfl : k = n := by rw [← HL.out, hzn]
      have hS := sort_any wr HW.out HL.out (by omega)
      have HSS := Lib.hid hS
      have HSR := Lib.hid hsr
      have hkc2 := (HW.out : wr.ownsRow (n0 + 1) 3 1 (.slice A k cap) k (zs.map (Value.int .i64)))
      have hcap : k ≤ cap := by
        rcases hkc2.2 with ⟨h1, h2⟩ | ⟨g, cap', cur, h1, _, _, h2, _⟩
        · omega
        · injection h1 with _ _ h1; omega
      have hcut := fun W => cut_all A k cap hcap W
      clear hS hsr hc0 hl0 hzn hkc2 hcap HRG HC HZ
      go_wp2_with fail
      refine HSS.out.mono ?_
      rintro e w2 ⟨rfl, ho2, hm2⟩
      have HF := Lib.hid (show Nos w2 n0 A (s.map (·.no)) ∧ Below n0 w w2 from by
        have hltr := HW.out
        refine ⟨fun h0 => ?_, HB.out.trans (hm2.below (by have := HB.out.size; omega) fun g hg => ?_)⟩
        · rw [List.length_map, HN.out] at h0
          rcases ho2.2 with ⟨_, h1⟩ | ⟨g, cap', cur, h1, h2, h3, h4, h5, h6, h7⟩
          · omega
          · injection h1 with h1 _ h8
            subst h1 h8
            refine ⟨g, rfl, by omega, (Array.getElem?_eq_some_iff.1 h3).1, fun j hj => ?_⟩
            rw [List.length_map, HN.out] at hj
            rw [ho2.cellAt j (by omega), HSR.out]
            have hj' : j < s.length := by rw [HN.out]; exact hj
            simp [hj']
        · have hg' : (Value.slice A k cap).ownBlock = some g := by simpa using hg
          have := (HW.out.lt g hg').1
          omega)
      clear ho2 hm2 HSS
      go_wp2_with fail
      go_ret
      exact ⟨A, rfl, HF.out⟩
    · intro x c kl' yd yp w1 cnt1 hkey hlk hv hat hrg1 hlt1 hg1 hs1 hen
      obtain ⟨x', ex, rfl, _⟩ := Maps.keyOf_int_inv Try.underlying3 hkey
      obtain rfl : x = x' := by injection ex
      have HC2 := Lib.hid (HC.out.step (x := x) hlk)
      have hb1 : Below n0 w w1 := HB.out.grown hg1 (by have := HB.out.size; omega) (fun j hj => by cases hj; exact Nat.le_refl _)
      have hw1 : w1.ownsRow (n0 + 1) 3 1 (.slice A k cap) k (zs.map (Value.int .i64)) := HW.out.kept hg1 (.inr fun e => by
        have := (HW.out.lt n0 e).1
        omega)
      obtain ⟨n1, hn1⟩ : ∃ n1, w1.heap.size = n1 := ⟨_, rfl⟩
      have hn1l : n0 + 1 ≤ n1 := by
        have h2 := hrg1.lt
        omega
      have hbx := (blk_new w1 #[.int .i64 x] 3).cell 0 rfl
      rw [hn1] at hbx
      have HRG1 := Lib.hid (hrg1.alloc (.cells #[.int .i64 x] 3))
      have HW1 := Lib.hid (hw1.alloc (.cells #[.int .i64 x] 3))
      have HB1 := Lib.hid (hb1.alloc (by omega) (.cells #[.int .i64 x] 3))
      have HBX := Lib.hid hbx
      have hsz1 : (w1.alloc (.cells #[.int .i64 x] 3)).heap.size = n1 + 1 := by rw [World.size_alloc, hn1]
      have HSZ := Lib.hid hsz1
      obtain ⟨i0, hi, hz0, hz1, hz2⟩ := info_parts info_int
      have HI := Lib.hid (And.intro hi (And.intro hz0 (And.intro hz1 hz2)))
      have HLT := Lib.hid hlt1
      clear hat hv hlk hs1 hg1 hkey hrg1 hw1 hb1 hbx hsz1 hi hz0 hz1 hz2 hlt1
      go_wp2_with (first
        | (refine app_one Try.underlying52 HI.out.1 HI.out.2.1 HI.out.2.2.1 HI.out.2.2.2 rfl (by decide) rfl _ _ rfl (n0 + 1) A k cap _ [.int .i64 x] n1 1 rfl HW1.out rfl rfl (fun j u hj => ?_) (by simp [Value.oneCell']) (by omega) (by omega) (by rw [HSZ.out]; omega) ?_)
        | fail)
      · match j, hj with
        | 0, hj =>
          have e : u = .int .i64 x := by simpa using hj.symm
          rw [e]
          exact HBX.out
        | j + 1, hj => simp at hj
      · intro g cap' w2 ho2 hg2 _
        have hrow := HW1.out
        have HRG2 := Lib.hid (HRG1.out.kept hg2 (fun e => by have := (hrow.lt M e.symm).1; omega) (fun e => by have := (hrow.lt n0 e.symm).1; omega))
        have HB2 := Lib.hid (HB1.out.grown hg2 (by have := HSZ.out; omega) (fun j hj => by have := (hrow.lt j hj).1; omega))
        have HW2 := Lib.hid (show w2.ownsRow (n0 + 1) 3 1 (.slice (some ⟨g, 0, none⟩) (k + 1) cap') (k + 1) ((zs ++ [x]).map (Value.int .i64)) from by simpa using ho2)
        have HME := Lib.hid (show w2.rangeLeft M n0 < wr.rangeLeft M n0 from by rw [HRG2.out.left_eq, HRG.out.left_eq]; exact HLT.out)
        have hkc3 : k + 1 + cnt1 ≤ n := by have := HLT.out; omega
        have HL2 := Lib.hid (show (zs ++ [x]).length = k + 1 from by simp [HL.out])
        clear hrow ho2 hg2 hkc
        go_wp2_with fail
        go_roundw
        case rel => exact ⟨_, cnt1, zs ++ [x], k + 1, some ⟨g, 0, none⟩, cap', rfl, hkc3, HRG2, HC2, HL2, HW2, HB2⟩
        case measure => exact HME.out
end Go.Proofs.Ytbfcjfeckonklaa
