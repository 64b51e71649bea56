/-
  What slices.SortFunc makes of a row of offers, by Close's own comparison: they stand by rising places.
-/
import Derived.Sort.Grow
import Derived.Test.YtmjbdjcpjaeemaaPrShelf
import Derived.Test.YtmjbdjcpjaeemaaPrRow
namespace Go.Proofs.Ytmjbdjcpjaeemaa
open Go.RowKit Go.Sort Go.Proofs.PrioMath

instance : Inhabited Of := ⟨⟨0, 0, 0⟩⟩
/-- The offers' cells, one behind the other. -/
theorem flat_cl (d : List Of) : (flatK oc 3 d.toArray).toList = cl d := by
  apply List.ext_getElem?
  intro j
  by_cases hj : j < d.length * 3
  · have hq : j / 3 < d.length := by omega
    have h1 : (flatK oc 3 d.toArray).toList[j]? = some ((flatK oc 3 d.toArray)[j]!) := by
      have hs : j < (flatK oc 3 d.toArray).size := by rw [size_flatK]; simpa using hj
      rw [Array.getElem?_toList, Array.getElem?_eq_getElem hs, getElem!_pos _ j hs]
    rw [h1, get_flatK oc 3 d.toArray j (by simpa using hj)]
    have h2 : d.toArray[j / 3]! = at_ d (j / 3) := by
      rw [getElem!_pos d.toArray (j / 3) (by simpa using hq), at_get hq]
      simp
    rw [h2]
    obtain ⟨c1, c2, c3⟩ := cl_at hq
    have hm : j % 3 < 3 := Nat.mod_lt _ (by omega)
    have e : j = j / 3 * 3 + j % 3 := by omega
    obtain ⟨q, hqq⟩ : ∃ q, j / 3 = q := ⟨_, rfl⟩
    obtain ⟨r, hr⟩ : ∃ r, j % 3 = r := ⟨_, rfl⟩
    rw [hqq, hr] at e
    rw [hqq] at c1 c2 c3 ⊢
    rw [hr] at hm ⊢
    subst e
    match r, hm with
    | 0, _ => exact c1.symm
    | 1, _ => exact c2.symm
    | 2, _ => exact c3.symm
  · rw [List.getElem?_eq_none (by simp; omega), List.getElem?_eq_none (by rw [cl_length]; omega)]
theorem holds_of {w : World} {g : Nat} {cur : Array Value} {e : TypeId} {d : List Of} (hb : w.heap[g]? = some (.cells cur e (0, 0))) (ht : cur.toList.take (d.length * 3) = cl d) : HoldsK oc 3 w g 0 d.toArray := by
  intro j hj
  rw [size_flatK] at hj
  have hj' : j < d.length * 3 := by simpa using hj
  refine ⟨?_, by simp [World.frozen?, hb]⟩
  have h0 : cur.toList[j]? = (cl d)[j]? := by rw [← ht, List.getElem?_take_of_lt hj']
  rw [← flat_cl] at h0
  have hs : j < (flatK oc 3 d.toArray).size := by rw [size_flatK]; simpa using hj'
  rw [Array.getElem?_toList, Array.getElem?_toList, Array.getElem?_eq_getElem hs] at h0
  simp only [World.cell?, hb, Nat.zero_add, Option.isSome_none, Bool.false_eq_true, if_false, id_eq]
  rw [getElem!_pos _ j hs]
  exact h0
theorem heap_put {w : World} {g n : Nat} {os : Array Obj} {cur : Array Value} {e : TypeId} {fr : Nat × Nat} (d : List Of) (hb : w.heap[g]? = some (.cells cur e fr)) :
    (sortWorldK oc 3 w g 0 n d.toArray os).heap[g]? = some (.cells (putCells id 0 (flatK oc 3 d.toArray) cur) e fr) := by
  have hg : g < w.heap.size := (Array.getElem?_eq_some_iff.1 hb).1
  unfold sortWorldK
  rw [heap_grow_old _ _ (by simpa [putRowK] using hg)]
  simp [putRowK, putRow, mapBlock, Sort.ahead, Array.getElem?_modify, hb, onCells]
theorem mut_put {w : World} {g n : Nat} {os : Array Obj} (d : List Of) : Mut [g] w (sortWorldK oc 3 w g 0 n d.toArray os) := by
  refine ⟨rfl, rfl, rfl, by simp [sortWorldK, putRowK], fun k hk hne => ?_⟩
  unfold sortWorldK
  rw [heap_grow_old _ _ (by simpa [putRowK] using hk)]
  have : g ≠ k := fun e => hne (by simp [e])
  simp [putRowK, putRow, mapBlock, Sort.ahead, Array.getElem?_modify, this]
theorem take_put (cur : Array Value) (d : List Of) (h : d.length * 3 ≤ cur.size) : (putCells id 0 (flatK oc 3 d.toArray) cur).toList.take (d.length * 3) = cl d := by
  rw [← flat_cl]
  apply List.ext_getElem?
  intro j
  by_cases hj : j < d.length * 3
  · have hs : j < (flatK oc 3 d.toArray).size := by rw [size_flatK]; simpa using hj
    rw [List.getElem?_take_of_lt hj, Array.getElem?_toList, Array.getElem?_toList, Array.getElem?_eq_getElem hs]
    simp [putCells, hj, show j < cur.size by omega]
  · rw [List.getElem?_take_eq_none (by omega), List.getElem?_eq_none (by simp [size_flatK]; omega)]

/-- cmp.Compare of two places. -/
def cmpOf (a b : Of) : Int := if a.p < b.p then -1 else if b.p < a.p then 1 else 0
theorem ltCmp (a b : Of) : ltOf cmpOf a b = decide (a.p < b.p) := by
  unfold ltOf cmpOf
  by_cases h1 : a.p < b.p
  · simp [h1]
  · by_cases h2 : b.p < a.p <;> simp [h1, h2]
theorem swoCmp : SWO (ltOf cmpOf) where
  irrefl x := by rw [ltCmp]; simp
  trans x y z h1 h2 := by rw [ltCmp] at *; simp at *; omega
  ntrans x y z h1 h2 := by rw [ltCmp] at *; simp at *; omega

set_option maxRecDepth 100000 in
set_option maxHeartbeats 1000000 in
theorem isNaN_any (a : Nat) (w : World) : Calls Try.prog 29 #[.int .i64 (a : Int)] w fun e w' => e = .returned (.bool false) ∧ w = w' := by
  go_enter Try.func29, Try.ntmps29
  go_wp2_with fail
  go_ret
  exact ⟨by simp, rfl⟩
set_option maxRecDepth 100000 in
set_option maxHeartbeats 1000000 in
theorem compare_any (a b : Nat) (w : World) : Calls Try.prog 20 #[.int .i64 (a : Int), .int .i64 (b : Int)] w fun e w' => e = .returned (.int .i64 (if a < b then -1 else if b < a then 1 else 0)) ∧ w = w' := by
  have hN := fun x W => isNaN_any x W
  have HN := Lib.hid hN
  clear hN
  by_cases h1 : a < b
  · have t1 : decide ((a : Int) < (b : Int)) = true := by simp; omega
    have t1' : decide (a < b) = true := by simp; omega
    rw [if_pos h1]
    clear h1
    go_enter Try.func20, Try.ntmps20
    go_wp2_with fail
    refine (HN.out _ _).mono ?_
    rintro e w' ⟨rfl, rfl⟩
    go_wp2_with fail
    refine (HN.out _ _).mono ?_
    rintro e w' ⟨rfl, rfl⟩
    go_wp2_with fail
    go_ret
    exact ⟨rfl, rfl⟩
  · have t1 : decide ((a : Int) < (b : Int)) = false := by simp; omega
    have t1' : decide (a < b) = false := by simp; omega
    rw [if_neg h1]
    clear h1
    by_cases h2 : b < a
    · have t2 : decide ((b : Int) < (a : Int)) = true := by simp; omega
      have t2' : decide (b < a) = true := by simp; omega
      rw [if_pos h2]
      clear h2
      go_enter Try.func20, Try.ntmps20
      go_wp2_with fail
      refine (HN.out _ _).mono ?_
      rintro e w' ⟨rfl, rfl⟩
      go_wp2_with fail
      refine (HN.out _ _).mono ?_
      rintro e w' ⟨rfl, rfl⟩
      go_wp2_with fail
      go_ret
      exact ⟨rfl, rfl⟩
    · have t2 : decide ((b : Int) < (a : Int)) = false := by simp; omega
      have t2' : decide (b < a) = false := by simp; omega
      rw [if_neg h2]
      clear h2
      go_enter Try.func20, Try.ntmps20
      go_wp2_with fail
      refine (HN.out _ _).mono ?_
      rintro e w' ⟨rfl, rfl⟩
      go_wp2_with fail
      refine (HN.out _ _).mono ?_
      rintro e w' ⟨rfl, rfl⟩
      go_wp2_with fail
      go_ret
      exact ⟨rfl, rfl⟩
set_option maxRecDepth 100000 in
set_option maxHeartbeats 1000000 in
/-- Close's own comparison. -/
theorem closure_any (a b : Of) (W : World) : Calls Try.prog 19 #[.agg (oc a).toArray, .agg (oc b).toArray] W fun e w' => e = .returned (.int .i64 (cmpOf a b)) ∧ ∃ q os', w' = grow (W.drewN q) os' := by
  obtain ⟨p, x, c⟩ := a
  obtain ⟨p', x', c'⟩ := b
  have hC := fun W => compare_any p p' W
  unfold cmpOf
  simp only [oc]
  obtain ⟨r, hr⟩ : ∃ r : Int, (if p < p' then -1 else if p' < p then 1 else 0) = r := ⟨_, rfl⟩
  rw [hr] at hC
  rw [hr]
  have HC := Lib.hid hC
  clear hC hr
  go_enter Try.func19, Try.ntmps19
  go_wp2_with fail
  refine (HC.out _).mono ?_
  rintro e w' ⟨rfl, rfl⟩
  go_wp2_with fail
  go_ret
  exact ⟨rfl, 0, _, by rw [alloc_eq_grow, alloc_eq_grow, grow_grow]; rfl⟩

set_option maxRecDepth 100000 in
set_option maxHeartbeats 2000000 in
theorem sort_any {B cap n : Nat} {l : List Of} (w : World) (hr : w.ownsRow 0 59 3 (.slice (some ⟨B, 0, none⟩) n cap) n (cl l)) (hl : l.length = n) (hn : n ≤ 5000) :
    Calls Try.prog 18 #[.slice (some ⟨B, 0, none⟩) n cap, .func (.func 19) #[] #[]] w fun e w' =>
      e = .returned (.tuple #[]) ∧ ∃ l', l'.Perm l ∧ l'.Pairwise (fun a b => a.p ≤ b.p) ∧ w'.ownsRow 0 59 3 (.slice (some ⟨B, 0, none⟩) n cap) n (cl l') ∧ Mut [B] w w' := by
  subst hl
  rcases hr.2 with ⟨h1, _⟩ | ⟨g, cap', cur, e, hbase, h3, h4, h5, h6, h7⟩
  · cases h1
  injection e with e1 _ e3
  injection e1 with e1
  injection e1 with e1 _ _
  subst e1 e3
  have hH := holds_of h3 h7
  have hB := (Array.getElem?_eq_some_iff.1 h3).1
  have eg : ∀ args w, (callFunc 19 args).run Try.prog w = .ok (.enter 19 args) w := enters_of Try.func19 (by kernel_rfl) rfl
  have hcmp : CmpLays Try.prog 19 #[] oc 3 cmpOf B 0 l.toArray.size w := fun _ _ _ _ x y => closure_any x y _
  have hlim : Lib.bitLen l.length < 4611686018427387904 := Nat.lt_of_le_of_lt (Lib.bitLen_le l.length 62 (by omega) (by omega)) (by omega)
  have hp := AnyQ.pdqsortCmpFunc_all Try.lays14 3 Try.isAgg59 Try.sizeOf59 oc cmpOf 19 #[] swoCmp B 0 cap l.toArray w eg hcmp ⟨fun _ => rfl, fun x v hv => by simp [oc] at hv; rcases hv with rfl | rfl | rfl <;> rfl, hH, hB⟩ (l.toArray.size + 1) 0 l.toArray.size (Lib.bitLen l.length) l.toArray w (by omega) rfl (SWK.start hH) (Nat.zero_le _) (Nat.le_refl _) (by simp; omega) hlim (Or.inl rfl)
  obtain ⟨hpm, hso⟩ := pdq_sorts (ltOf cmpOf) swoCmp l.toArray 0 l.toArray.size (Lib.bitLen l.length) true true (Nat.zero_le _) (Nat.le_refl _) (Or.inl rfl)
  have hL := fun W => Try.bits_Len (l.length : Int) W (by omega) (by omega)
  have wr : IntKind.u64.wrap (l.length : Int) = l.length := by simp [IntKind.wrap, IntKind.bits, IntKind.signed]; omega
  obtain ⟨d', hd'⟩ : ∃ d', pdq (ltOf cmpOf) l.toArray 0 l.toArray.size (Lib.bitLen l.length) true true = d' := ⟨_, rfl⟩
  rw [hd'] at hp hpm hso
  simp only [Int.toNat_natCast] at hL
  obtain ⟨bl, hbl⟩ : ∃ b, Lib.bitLen l.length = b := ⟨_, rfl⟩
  rw [hbl] at hp hL
  have hsz : d'.size = l.length := by simpa using hpm.1
  have hperm : d'.toList.Perm l := by
    have := hpm.2.2
    have e1 : d'.extract 0 l.toArray.size = d' := by
      have : l.toArray.size = d'.size := by rw [hsz]; simp
      rw [this]; exact Array.extract_size
    rw [e1, Array.extract_size] at this
    simpa using this
  have hpw : d'.toList.Pairwise (fun a b => a.p ≤ b.p) := by
    rw [List.pairwise_iff_getElem]
    intro i j hi hj hij
    have hi' : i < d'.size := by simpa using hi
    have hj' : j < d'.size := by simpa using hj
    have := hso i j (Nat.zero_le _) hij (by simp; omega)
    rw [getElem!_pos d' j hj', getElem!_pos d' i hi', ltCmp] at this
    simpa using this
  have hend : ∀ w', SWK oc 3 w B 0 d' w' → ∃ l', l'.Perm l ∧ l'.Pairwise (fun a b => a.p ≤ b.p) ∧ w'.ownsRow 0 59 3 (.slice (some ⟨B, 0, none⟩) l.length cap) l.length (cl l') ∧ Mut [B] w w' := by
    rintro w' ⟨q, os, rfl⟩
    have ed : d' = d'.toList.toArray := by simp
    have hsz' : d'.toList.length = l.length := by simpa using hsz
    rw [ed]
    refine ⟨d'.toList, hperm, hpw, ⟨by rw [cl_length, hsz'], .inr ⟨B, cap, _, rfl, Nat.zero_le _, heap_put _ h3, h4, h5, by simp [putCells, h6], ?_⟩⟩, mut_put _⟩
    rw [← hsz']
    exact take_put cur _ (by rw [hsz', h6]; exact Nat.mul_le_mul_right 3 h4)
  have hlen : (l.toArray.size : Int) = (l.length : Int) := by simp
  rw [show l.toArray.size = l.length by simp] at hp
  have HP := Lib.hid hp
  have HL := Lib.hid hL
  have HE := Lib.hid hend
  obtain ⟨n, hnn⟩ : ∃ n, l.length = n := ⟨_, rfl⟩
  rw [hnn] at wr HP HL HE hn ⊢
  clear hp hL hend hpw hperm hsz hbl hlim hcmp hH h3 h7 hr hpm hso hd' hlen h6 h4 hnn
  go_enter Try.func18, Try.ntmps18
  go_wp2_with fail
  refine (HL.out _).mono ?_
  rintro e w' ⟨rfl, rfl⟩
  go_wp2_with fail
  refine HP.out.mono ?_
  rintro e w' ⟨rfl, hs⟩
  have HS := Lib.hid hs
  clear hs
  go_wp2_with fail
  go_end0
  exact ⟨rfl, HE.out _ HS.out⟩
theorem sort_nil {A : Option Addr} {cap : Nat} (w : World) :
    Calls Try.prog 18 #[.slice A 0 cap, .func (.func 19) #[] #[]] w fun e w' => e = .returned (.tuple #[]) ∧ w = w' := by
  have hL := fun W => Try.bits_Len (0 : Int) W (by omega) (by omega)
  have hp := fun lim W => Try.pdq_none A cap lim (.func (.func 19) #[] #[]) W
  have HP := Lib.hid hp
  have HL := Lib.hid hL
  clear hp hL
  go_enter Try.func18, Try.ntmps18
  go_wp2_with fail
  refine (HL.out _).mono ?_
  rintro e w' ⟨rfl, rfl⟩
  go_wp2_with fail
  refine (HP.out _ _).mono ?_
  rintro e w' ⟨rfl, rfl⟩
  go_wp2_with fail
  go_end0
  exact ⟨rfl, rfl⟩
end Go.Proofs.Ytmjbdjcpjaeemaa
