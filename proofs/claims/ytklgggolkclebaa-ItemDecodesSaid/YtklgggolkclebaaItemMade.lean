/-
  What telemeterlaw03.Name and Log do, at every choice. No condition.
-/
import Derived.Test.YtklgggolkclebaaItemRightOf
import Derived.Deep.RegionHeld
import Derived.Deep.CutBlock
import Derived.Deep.DeepCutAuto
import Derived.Deep.LoopGhost
namespace Go.Proofs.Ytklgggolkclebaa
open Go.RowKit Go.Proofs.NumMath Go.Proofs.ItemMath

def svc : ByteArray := ⟨#[115, 118, 99, 45, 97, 47, 98, 46, 99, 95, 100, 126, 33, 71, 69, 84]⟩
def nameOf (c : Nat) : ByteArray := svc.extract (c % 8) (c % 8 + 1 + c / 8 % 8)
theorem nameOf_right : ∀ c : Fin 256, isName (nameOf c.val) = true ∧ (nameOf c.val).size ≤ 60 := by decide +kernel
theorem nameOf_is {c : Nat} (h : c < 256) : isName (nameOf c) = true := (nameOf_right ⟨c, h⟩).1
theorem nameOf_size {c : Nat} (h : c < 256) : (nameOf c).size ≤ 60 := (nameOf_right ⟨c, h⟩).2

set_option maxHeartbeats 1000000 in
theorem name_any (c : Nat) (hc : c < 256) (w : World) : Calls Try.prog 22 #[.int .u8 (c : Int)] w fun e w' => e = .returned (.string (nameOf c)) ∧ w = w' := by
  go_enter Try.func22, Try.ntmps22
  go_wp2
  go_ret
  exact ⟨by unfold nameOf svc; rfl, rfl⟩

/-- An array of m bytes of the call's own. -/
def Arr (W : World) (b m : Nat) (f : Nat → UInt8) : Prop := b < W.heap.size ∧ ∀ j, j < m → W.cell? ⟨b, j, none⟩ = some (b8 (f j)) ∧ W.frozen? ⟨b, j, none⟩ = false
theorem Arr.set {W : World} {b m : Nat} {f g : Nat → UInt8} (h : Arr W b m f) {k : Nat} (hk : k < m) {x : UInt8} (hx : g k = x) (hg : ∀ j, j ≠ k → g j = f j) : Arr (W.setCell ⟨b, k, none⟩ (b8 x)) b m g := by
  obtain ⟨h1, h2⟩ := h
  refine ⟨by rw [World.size_setCell]; exact h1, fun j hj => ⟨?_, by rw [World.frozen?_setCell]; exact (h2 j hj).2⟩⟩
  by_cases e : j = k
  · subst e
    rw [World.cell?_setCell_same _ _ _ (h2 j hj).1, hx]
  · rw [World.cell?_setCell_other _ _ _ _ (by intro h; injection h with _ h2; exact e h2.symm), hg j e]
    exact (h2 j hj).1

theorem Arr.congr {W : World} {b m : Nat} {f g : Nat → UInt8} (h : Arr W b m f) (hg : ∀ j, j < m → f j = g j) : Arr W b m g := ⟨h.1, fun j hj => hg j hj ▸ h.2 j hj⟩
theorem Arr.same {W W' : World} {b m : Nat} {f : Nat → UInt8} (h : Arr W b m f) (hb : W'.heap[b]? = W.heap[b]?) : Arr W' b m f := by
  obtain ⟨h1, h2⟩ := h
  have hlt : b < W'.heap.size := by
    rcases Nat.lt_or_ge b W'.heap.size with h | h
    · exact h
    · rw [Array.getElem?_eq_none h, Array.getElem?_eq_getElem h1] at hb; cases hb
  exact ⟨hlt, fun j hj => ⟨(World.cell?_of_block hb).trans (h2 j hj).1, (World.frozen?_of_block hb).trans (h2 j hj).2⟩⟩
theorem Arr.alloc {W : World} {b m : Nat} {f : Nat → UInt8} (h : Arr W b m f) (o : Obj) : Arr (W.alloc o) b m f := h.same (Below.heap_alloc _ _ _ h.1)
theorem Arr.far {W : World} {b m : Nat} {f : Nat → UInt8} (h : Arr W b m f) {p : Addr} (hp : p.block ≠ b) (v : Value) : Arr (W.setCell p v) b m f := h.same (Below.heap_setCell _ _ _ _ (Ne.symm hp))
theorem arr_new (W : World) {n m : Nat} {C : Array Value} {T : TypeId} (hn : W.heap.size = n) (hC : ∀ j, j < m → C[j]? = some (.int .u8 0)) (f : Nat → UInt8) (hf : ∀ j, f j = 0) : Arr (W.alloc (.cells C T)) n m f := by
  subst hn
  refine ⟨by simp, fun j hj => ⟨by rw [World.cell?_alloc_mark, hC j hj, hf j]; rfl, by rw [World.frozen?_alloc_mark]; simp⟩⟩
theorem alloc_here (W : World) (o p : Obj) : ((W.alloc o).alloc p).heap[W.heap.size]? = some o := by
  rw [Below.heap_alloc _ _ _ (by simp)]
  show (W.heap.push o)[W.heap.size]? = some o
  simp

/-- The choices that are there when k are read. -/
def upTo (cs : List UInt8) (k j : Nat) : UInt8 := if j < k then cs.getD j 0 else 0

theorem upTo_zero (cs : List UInt8) (j : Nat) : upTo cs 0 j = 0 := by simp [upTo]
theorem upTo_full {cs : List UInt8} {k m : Nat} (h : m ≤ k ∨ cs.length ≤ k) {j : Nat} (hj : j < m) : upTo cs k j = cs.getD j 0 := by
  unfold upTo
  by_cases e : j < k
  · rw [if_pos e]
  · rw [if_neg e]
    rcases h with h | h
    · omega
    · simp [List.getD_eq_getElem?_getD, show cs.length ≤ j by omega]
theorem upTo_succ (cs : List UInt8) (k : Nat) : upTo cs (k + 1) k = cs.getD k 0 ∧ ∀ j, j ≠ k → upTo cs (k + 1) j = upTo cs k j := by
  refine ⟨by simp [upTo], fun j hj => ?_⟩
  unfold upTo
  by_cases e : j < k
  · rw [if_pos e, if_pos (by omega)]
  · rw [if_neg e, if_neg (by omega)]

def bodyOf (d : Nat) : ByteArray := if d % 4 = 0 then ⟨#[]⟩ else if d % 4 = 1 then ⟨#[120]⟩ else if d % 4 = 2 then ⟨#[115, 111, 109, 101, 32, 119, 111, 114, 100, 115]⟩ else ⟨#[0]⟩
def at8 (cs : List UInt8) (j : Nat) : Nat := (cs.getD j 0).toNat
theorem at8_lt (cs : List UInt8) (j : Nat) : at8 cs j < 256 := (cs.getD j 0).toNat_lt
def logOf (cs : List UInt8) : Lg := ⟨nameOf (at8 cs 0), at8 cs 1 + 1, (at8 cs 2 : Int), bodyOf (at8 cs 3)⟩

set_option linter.unusedSimpArgs false in
set_option maxRecDepth 100000 in
set_option maxHeartbeats 2000000 in
theorem log_any (A : Option Addr) (cs : List UInt8) (len cap : Nat) (w : World) (hlen : cs.length = len) (hr : Holds8 w.heap.size w A cs) :
    Calls Try.prog 11 #[.slice A len cap] w fun e w' => e = .returned (.agg (lgCells (nameOf (at8 cs 0)) (at8 cs 1 + 1) (at8 cs 2 : Int) (bodyOf (at8 cs 3)))) ∧ Below w.heap.size w w' := by
  have HR := Lib.hid hr
  have HL := Lib.hid hlen
  clear hr hlen
  have l0 := at8_lt cs 0
  have l1 := at8_lt cs 1
  have l2 := at8_lt cs 2
  have l3 := at8_lt cs 3
  obtain ⟨x0, hx0⟩ : ∃ x, at8 cs 0 = x := ⟨_, rfl⟩
  obtain ⟨x1, hx1⟩ : ∃ x, at8 cs 1 = x := ⟨_, rfl⟩
  obtain ⟨x2, hx2⟩ : ∃ x, at8 cs 2 = x := ⟨_, rfl⟩
  obtain ⟨x3, hx3⟩ : ∃ x, at8 cs 3 = x := ⟨_, rfl⟩
  rw [hx0] at l0 ⊢
  rw [hx1] at l1 ⊢
  rw [hx2] at l2 ⊢
  rw [hx3] at l3 ⊢
  have HX0 := Lib.hid hx0
  have HX1 := Lib.hid hx1
  have HX2 := Lib.hid hx2
  have HX3 := Lib.hid hx3
  obtain ⟨s, hs⟩ : ∃ s, bodyOf x3 = s := ⟨_, rfl⟩
  obtain ⟨s0, hs0⟩ : ∃ s, nameOf x0 = s := ⟨_, rfl⟩
  have HN := fun W => name_any x0 l0 W
  rw [hs0] at HN ⊢
  rw [hs]
  obtain ⟨r, hr⟩ : ∃ r : Nat, x3 % 4 = r := ⟨_, rfl⟩
  have w3 : (x3 : Int).tmod 4 = (r : Int) := by rw [Int.tmod_eq_emod_of_nonneg (by omega)]; omega
  have r4 : (r : Int) < 4 := by omega
  have hb : ∀ W : World, (W.alloc (.cells #[.string ⟨#[]⟩, .string ⟨#[120]⟩, .string ⟨#[115, 111, 109, 101, 32, 119, 111, 114, 100, 115]⟩, .string ⟨#[0]⟩] 9)).cell? ⟨W.heap.size, r, none⟩ = some (.string s) := fun W => by
    rw [World.cell?_alloc_mark, ← hs]
    unfold bodyOf
    rw [hr]
    rcases (by omega : r = 0 ∨ r = 1 ∨ r = 2 ∨ r = 3) with rfl | rfl | rfl | rfl <;> rfl
  clear hx0 hx1 hx2 hx3 hs hs0 hr
  unfold lgCells
  go_enter Try.func11, Try.ntmps11
  go_upto_block 0 with fail
  go_cut [2, 3] (fun s2 s3 wx => s2 = .pointer (some ⟨w.heap.size, 0, none⟩) ∧ s3 = .pointer (some ⟨w.heap.size + 1, 0, none⟩) ∧ Arr wx (w.heap.size + 1) 4 (fun j => cs.getD j 0) ∧ wx.heap[w.heap.size]? = some (.cells #[.string ⟨#[]⟩, .int .u64 0, .int .i64 0, .string ⟨#[]⟩] 29) ∧ Below w.heap.size w wx)
  case first =>
    go_wp2_with fail
    go_loopw [4] (fun iv wr => ∃ k : Nat, k ≤ 4 ∧ k ≤ len ∧ iv = .int .i64 (k : Int) ∧ Arr wr (w.heap.size + 1) 4 (upTo cs k) ∧ wr.heap[w.heap.size]? = some (.cells #[.string ⟨#[]⟩, .int .u64 0, .int .i64 0, .string ⟨#[]⟩] 29) ∧ Below w.heap.size w wr) (fun iv _ => 4 - (intOf iv).toNat)
    case atStart => exact ⟨0, by omega, by omega, rfl, arr_new _ (by simp) (fun j hj => by rcases (by omega : j = 0 ∨ j = 1 ∨ j = 2 ∨ j = 3) with rfl | rfl | rfl | rfl <;> rfl) _ (upTo_zero cs), alloc_here w _ _, ((Below.refl _ w).alloc (Nat.le_refl _) _).alloc (by simp) _⟩
    case round =>
      obtain ⟨k, hk, hkl, rfl, hA, hres, hB⟩ := hrel
      by_cases h1 : k < len
      · by_cases h2 : k < 4
        · obtain ⟨b, off, rfl, hbl, hc⟩ := (HR.out.below hB) (by rw [HL.out]; omega)
          have hck := hc k (by rw [HL.out]; exact h1)
          obtain ⟨hs1, hs2⟩ := hA.2 k h2
          have HA := Lib.hid (hA.set (x := cs.getD k 0) h2 (upTo_succ cs k).1 (upTo_succ cs k).2)
          have HRS := Lib.hid hres
          have hne : b ≠ w.heap.size + 1 := by omega
          have hxl := (cs.getD k 0).toNat_lt
          unfold b8 at hck hs1 HA
          generalize (cs.getD k 0).toNat = x at hck HA hxl
          generalize upTo cs k k = y at hs1
          clear hc hA hres
          go_wp2
          go_roundw
          case rel => exact ⟨k + 1, by omega, by omega, by go_num, HA.out, by rw [Below.heap_setCell _ _ _ _ (by simp)]; exact HRS.out, hB.setCell (p := ⟨w.heap.size + 1, k, none⟩) (by simp) _⟩
          case measure => simp [intOf]; omega
        · have h3 : decide ((k : Int) < 4) = false := by simp; omega
          have hA' : Arr wr (w.heap.size + 1) 4 (fun j => cs.getD j 0) := hA.congr fun j hj => upTo_full (k := k) (.inl (by omega)) hj
          clear hA
          go_wp2_with fail
          go_meet
          exact ⟨rfl, rfl, hA', hres, hB⟩
      · have hA' : Arr wr (w.heap.size + 1) 4 (fun j => cs.getD j 0) := hA.congr fun j hj => upTo_full (k := k) (.inr (by rw [HL.out]; omega)) hj
        clear hA
        go_wp2_with fail
        go_meet
        exact ⟨rfl, rfl, hA', hres, hB⟩
  case rest =>
    obtain ⟨rfl, rfl, hA, hres, hB⟩ := hcut
    have hlt := hA.1
    have c0 : ∀ W, Arr W (w.heap.size + 1) 4 (fun j => cs.getD j 0) → W.cell? ⟨w.heap.size + 1, 0, none⟩ = some (.int .u8 (x0 : Int)) := fun W h => by rw [← HX0.out]; exact (h.2 0 (by omega)).1
    have c1 : ∀ W, Arr W (w.heap.size + 1) 4 (fun j => cs.getD j 0) → W.cell? ⟨w.heap.size + 1, 1, none⟩ = some (.int .u8 (x1 : Int)) := fun W h => by rw [← HX1.out]; exact (h.2 1 (by omega)).1
    have c2 : ∀ W, Arr W (w.heap.size + 1) 4 (fun j => cs.getD j 0) → W.cell? ⟨w.heap.size + 1, 2, none⟩ = some (.int .u8 (x2 : Int)) := fun W h => by rw [← HX2.out]; exact (h.2 2 (by omega)).1
    have c3 : ∀ W, Arr W (w.heap.size + 1) 4 (fun j => cs.getD j 0) → W.cell? ⟨w.heap.size + 1, 3, none⟩ = some (.int .u8 (x3 : Int)) := fun W h => by rw [← HX3.out]; exact (h.2 3 (by omega)).1
    have C0 := Lib.hid c0
    have C1 := Lib.hid c1
    have C2 := Lib.hid c2
    have C3 := Lib.hid c3
    clear c0 c1 c2 c3
    have hltr : w.heap.size < wc.heap.size := by omega
    have hZ : ∀ o, ((wc.alloc o).drew.cell? ⟨w.heap.size, 0, none⟩ = some (.string ⟨#[]⟩) ∧ (wc.alloc o).drew.cell? ⟨w.heap.size, 1, none⟩ = some (.int .u64 0) ∧ (wc.alloc o).drew.cell? ⟨w.heap.size, 2, none⟩ = some (.int .i64 0) ∧ (wc.alloc o).drew.cell? ⟨w.heap.size, 3, none⟩ = some (.string ⟨#[]⟩)) ∧ (∀ j, (wc.alloc o).drew.frozen? ⟨w.heap.size, j, none⟩ = false) ∧ Below w.heap.size w (wc.alloc o).drew := fun o => by
      have e : (wc.alloc o).drew.heap[w.heap.size]? = wc.heap[w.heap.size]? := Below.heap_alloc wc o _ hltr
      refine ⟨⟨?_, ?_, ?_, ?_⟩, fun j => ?_, (hB.alloc hB.size _).drew⟩
      · rw [World.cell?_of_block e]; simp [World.cell?, hres]
      · rw [World.cell?_of_block e]; simp [World.cell?, hres]
      · rw [World.cell?_of_block e]; simp [World.cell?, hres]
      · rw [World.cell?_of_block e]; simp [World.cell?, hres]
      · rw [World.frozen?_of_block e]; simp [World.frozen?, hres]
    have HZ := Lib.hid hZ
    clear hZ
    clear hres
    have w1 : IntKind.u64.wrap (x1 : Int) = (x1 : Int) := IntWalk.u64_in _ (by omega)
    have w1' : IntKind.u64.wrap ((x1 : Int) + 1) = (x1 : Int) + 1 := IntWalk.u64_in _ (by omega)
    have w2 : IntKind.i64.wrap (x2 : Int) = (x2 : Int) := IntWalk.i64_in _ (by omega)
    have r0 : 0 ≤ (r : Int) := by omega
    go_wp2_with fail
    refine wp_region_held_drew (S := fun W => Arr W (w.heap.size + 1) 4 (fun j => cs.getD j 0)) (by kernel_rfl) ?_ (fun hHeld => ?_)
    · exact hA
    refine wpAnyH_take (i := 0) (v := ?_) rfl (by kernel_rfl) (by kernel_rfl) (by kernel_rfl) (fun _ _ _ h => h) (Or.inl ⟨by rfl, ?_⟩) (by assumption) ?_
    rotate_left
    · intro wq hSw; (try dsimp only at hSw); go_simp; (try with_reducible rfl)
    simp only [Act.put, List.getElem_toArray, List.getElem_cons_succ, List.getElem_cons_zero, List.setIfInBounds_toArray, List.set_cons_zero, List.set_cons_succ]
    refine wpAnyH_take (i := 1) (v := ?_) rfl (by kernel_rfl) (by kernel_rfl) (by kernel_rfl) (fun _ _ _ h => h) (Or.inl ⟨by rfl, ?_⟩) (by assumption) ?_
    rotate_left
    · intro wq hSw; (try dsimp only at hSw); have hq := C0.out _ hSw; go_simp; (try with_reducible rfl)
    simp only [Act.put, List.getElem_toArray, List.getElem_cons_succ, List.getElem_cons_zero, List.setIfInBounds_toArray, List.set_cons_zero, List.set_cons_succ]
    refine wpAnyH_take (i := 3) (v := ?_) rfl (by kernel_rfl) (by kernel_rfl) (by kernel_rfl) (fun _ _ _ h => h) (Or.inl ⟨by rfl, ?_⟩) (by assumption) ?_
    rotate_left
    · intro wq hSw; (try dsimp only at hSw); go_simp; (try with_reducible rfl)
    simp only [Act.put, List.getElem_toArray, List.getElem_cons_succ, List.getElem_cons_zero, List.setIfInBounds_toArray, List.set_cons_zero, List.set_cons_succ]
    refine wpAnyH_take (i := 4) (v := ?_) rfl (by kernel_rfl) (by kernel_rfl) (by kernel_rfl) (fun _ _ _ h => h) (Or.inl ⟨by rfl, ?_⟩) (by assumption) ?_
    rotate_left
    · intro wq hSw; (try dsimp only at hSw); have hq := C1.out _ hSw; go_simp; (try with_reducible rfl)
    simp only [Act.put, List.getElem_toArray, List.getElem_cons_succ, List.getElem_cons_zero, List.setIfInBounds_toArray, List.set_cons_zero, List.set_cons_succ]
    refine wpAnyH_take (i := 5) (v := ?_) rfl (by kernel_rfl) (by kernel_rfl) (by kernel_rfl) (fun _ _ _ h => h) (Or.inl ⟨by rfl, ?_⟩) (by assumption) ?_
    rotate_left
    · intro wq hSw; (try dsimp only at hSw); go_simp; (try with_reducible rfl)
    simp only [Act.put, List.getElem_toArray, List.getElem_cons_succ, List.getElem_cons_zero, List.setIfInBounds_toArray, List.set_cons_zero, List.set_cons_succ]
    refine wpAnyH_take (i := 6) (v := ?_) rfl (by kernel_rfl) (by kernel_rfl) (by kernel_rfl) (fun _ _ _ h => h) (Or.inl ⟨by rfl, ?_⟩) (by assumption) ?_
    rotate_left
    · intro wq hSw; (try dsimp only at hSw); go_simp; (try with_reducible rfl)
    simp only [Act.put, List.getElem_toArray, List.getElem_cons_succ, List.getElem_cons_zero, List.setIfInBounds_toArray, List.set_cons_zero, List.set_cons_succ]
    refine wpAnyH_take (i := 7) (v := ?_) rfl (by kernel_rfl) (by kernel_rfl) (by kernel_rfl) (fun _ _ _ h => h) (Or.inl ⟨by rfl, ?_⟩) (by assumption) ?_
    rotate_left
    · intro wq hSw; (try dsimp only at hSw); go_simp; (try with_reducible rfl)
    simp only [Act.put, List.getElem_toArray, List.getElem_cons_succ, List.getElem_cons_zero, List.setIfInBounds_toArray, List.set_cons_zero, List.set_cons_succ]
    refine wpAnyH_take (i := 8) (v := ?_) rfl (by kernel_rfl) (by kernel_rfl) (by kernel_rfl) (fun _ _ _ h => h) (Or.inl ⟨by rfl, ?_⟩) (by assumption) ?_
    rotate_left
    · intro wq hSw; (try dsimp only at hSw); have hq := C2.out _ hSw; go_simp; (try with_reducible rfl)
    simp only [Act.put, List.getElem_toArray, List.getElem_cons_succ, List.getElem_cons_zero, List.setIfInBounds_toArray, List.set_cons_zero, List.set_cons_succ]
    refine wpAnyH_take (i := 9) (v := ?_) rfl (by kernel_rfl) (by kernel_rfl) (by kernel_rfl) (fun _ _ _ h => h) (Or.inl ⟨by rfl, ?_⟩) (by assumption) ?_
    rotate_left
    · intro wq hSw; (try dsimp only at hSw); go_simp; (try with_reducible rfl)
    simp only [Act.put, List.getElem_toArray, List.getElem_cons_succ, List.getElem_cons_zero, List.setIfInBounds_toArray, List.set_cons_zero, List.set_cons_succ]
    refine wpAnyH_take (i := 11) (v := ?_) rfl (by kernel_rfl) (by kernel_rfl) (by kernel_rfl) (fun _ _ _ h => h) (Or.inl ⟨by rfl, ?_⟩) (by assumption) ?_
    rotate_left
    · intro wq hSw; (try dsimp only at hSw); go_simp; (try with_reducible rfl)
    simp only [Act.put, List.getElem_toArray, List.getElem_cons_succ, List.getElem_cons_zero, List.setIfInBounds_toArray, List.set_cons_zero, List.set_cons_succ]
    refine wpAnyH_take (i := 12) (v := ?_) rfl (by kernel_rfl) (by kernel_rfl) (by kernel_rfl) (fun _ _ _ h => h) (Or.inl ⟨by rfl, ?_⟩) (by assumption) ?_
    rotate_left
    · intro wq hSw; (try dsimp only at hSw); have hq := C3.out _ hSw; go_simp; (try with_reducible rfl)
    simp only [Act.put, List.getElem_toArray, List.getElem_cons_succ, List.getElem_cons_zero, List.setIfInBounds_toArray, List.set_cons_zero, List.set_cons_succ]
    refine wpAnyH_take (i := 13) (v := ?_) rfl (by kernel_rfl) (by kernel_rfl) (by kernel_rfl) (fun _ _ _ h => h) (Or.inl ⟨by rfl, ?_⟩) (by assumption) ?_
    rotate_left
    · intro wq hSw; (try dsimp only at hSw); go_simp; (try with_reducible rfl)
    simp only [Act.put, List.getElem_toArray, List.getElem_cons_succ, List.getElem_cons_zero, List.setIfInBounds_toArray, List.set_cons_zero, List.set_cons_succ]
    refine wpAnyH_ready (rs := [2, 10]) (by kernel_rfl) (by simp) ?_
    refine AllReadyH.cons rfl (fun K hK => ?_) (AllReadyH.cons rfl (fun K hK => ?_) (AllReadyH.nil))
    · go_simp
      refine (HN _).mono ?_
      rintro e w' ⟨rfl, rfl⟩
      (try go_wp2_with fail)
      refine hK.out _ _ ?_ (fun hHeld => ?_)
      · exact hHeld
      clear hK K
      try simp only [Act.put, List.getElem_toArray, List.getElem_cons_succ, List.getElem_cons_zero, List.setIfInBounds_toArray, List.set_cons_zero, List.set_cons_succ]
      refine wpAnyH_ready (rs := [10]) (by kernel_rfl) (by simp) ?_
      refine AllReadyH.cons rfl (fun K hK => ?_) AllReadyH.nil
      go_simp
      refine hK.out _ _ ?_ (fun hHeld => ?_)
      · exact hHeld.alloc _
      clear hK K
      try simp only [Act.put, List.getElem_toArray, List.getElem_cons_succ, List.getElem_cons_zero, List.setIfInBounds_toArray, List.set_cons_zero, List.set_cons_succ]
      refine wpAnyH_take (i := 14) (v := ?_) rfl (by kernel_rfl) (by kernel_rfl) (by kernel_rfl) (fun _ _ _ h => h) (Or.inl ⟨by rfl, ?_⟩) (by assumption) ?_
      rotate_left
      · intro wq hSw; (try dsimp only at hSw); go_simp; (try with_reducible rfl)
      simp only [Act.put, List.getElem_toArray, List.getElem_cons_succ, List.getElem_cons_zero, List.setIfInBounds_toArray, List.set_cons_zero, List.set_cons_succ]
      refine wpAnyH_ready (rs := [15]) (by kernel_rfl) (by simp) ?_
      refine AllReadyH.cons rfl (fun K hK => ?_) AllReadyH.nil
      go_simp
      (try go_wp2_with fail)
      refine hK.out _ _ ?_ (fun hHeld => ?_)
      · exact hHeld
      clear hK K
      try simp only [Act.put, List.getElem_toArray, List.getElem_cons_succ, List.getElem_cons_zero, List.setIfInBounds_toArray, List.set_cons_zero, List.set_cons_succ]
      refine wpAnyH_take (i := 16) (v := ?_) rfl (by kernel_rfl) (by kernel_rfl) (by kernel_rfl) (fun _ _ _ h => h) (Or.inl ⟨by rfl, ?_⟩) (by assumption) ?_
      rotate_left
      · intro wq hSw; (try dsimp only at hSw); go_simp; (try with_reducible rfl)
      simp only [Act.put, List.getElem_toArray, List.getElem_cons_succ, List.getElem_cons_zero, List.setIfInBounds_toArray, List.set_cons_zero, List.set_cons_succ]
      refine wpAnyH_ready (rs := [17]) (by kernel_rfl) (by simp) ?_
      refine AllReadyH.cons rfl (fun K hK => ?_) AllReadyH.nil
      obtain ⟨⟨z0, z1, z2, z3⟩, fz, hB4⟩ := HZ.out (.cells #[.string ⟨#[]⟩, .string ⟨#[120]⟩, .string ⟨#[115, 111, 109, 101, 32, 119, 111, 114, 100, 115]⟩, .string ⟨#[0]⟩] 9)
      generalize (wc.alloc (.cells #[.string ⟨#[]⟩, .string ⟨#[120]⟩, .string ⟨#[115, 111, 109, 101, 32, 119, 111, 114, 100, 115]⟩, .string ⟨#[0]⟩] 9)).drew = W4 at z0 z1 z2 z3 fz hB4 hHeld ⊢
      have f0 := fz 0
      have f1 := fz 1
      have f2 := fz 2
      have f3 := fz 3
      clear fz
      go_simp
      (try go_wp2_with fail)
      refine hK.out _ _ ?_ (fun hHeld => ?_)
      · exact (((hHeld.far (p := ⟨w.heap.size, 0, none⟩) (by simp) _).far (p := ⟨w.heap.size, 1, none⟩) (by simp) _).far (p := ⟨w.heap.size, 2, none⟩) (by simp) _).far (p := ⟨w.heap.size, 3, none⟩) (by simp) _
      clear hK K
      try simp only [Act.put, List.getElem_toArray, List.getElem_cons_succ, List.getElem_cons_zero, List.setIfInBounds_toArray, List.set_cons_zero, List.set_cons_succ]
      refine wpAnyH_done (by kernel_rfl) ?_ _
      clear hHeld
      go_wp2_with fail
      exact bodyPost_ret (v := .agg #[.string s0, .int .u64 ((x1 : Int) + 1), .int .i64 (x2 : Int), .string s]) (by simp [results, Try.results11, go_sem, z0, z1, z2, z3]) rfl ⟨rfl, (((hB4.setCell (p := ⟨w.heap.size, 0, none⟩) (Nat.le_refl _) _).setCell (p := ⟨w.heap.size, 1, none⟩) (Nat.le_refl _) _).setCell (p := ⟨w.heap.size, 2, none⟩) (Nat.le_refl _) _).setCell (p := ⟨w.heap.size, 3, none⟩) (Nat.le_refl _) _⟩
    · go_simp
      (try go_wp2_with fail)
      refine hK.out _ _ ?_ (fun hHeld => ?_)
      · exact hHeld.alloc _
      clear hK K
      try simp only [Act.put, List.getElem_toArray, List.getElem_cons_succ, List.getElem_cons_zero, List.setIfInBounds_toArray, List.set_cons_zero, List.set_cons_succ]
      refine wpAnyH_take (i := 14) (v := ?_) rfl (by kernel_rfl) (by kernel_rfl) (by kernel_rfl) (fun _ _ _ h => h) (Or.inl ⟨by rfl, ?_⟩) (by assumption) ?_
      rotate_left
      · intro wq hSw; (try dsimp only at hSw); go_simp; (try with_reducible rfl)
      simp only [Act.put, List.getElem_toArray, List.getElem_cons_succ, List.getElem_cons_zero, List.setIfInBounds_toArray, List.set_cons_zero, List.set_cons_succ]
      refine wpAnyH_ready (rs := [2, 15]) (by kernel_rfl) (by simp) ?_
      refine AllReadyH.cons rfl (fun K hK => ?_) (AllReadyH.cons rfl (fun K hK => ?_) (AllReadyH.nil))
      · go_simp
        refine (HN _).mono ?_
        rintro e w' ⟨rfl, rfl⟩
        (try go_wp2_with fail)
        refine hK.out _ _ ?_ (fun hHeld => ?_)
        · exact hHeld
        clear hK K
        try simp only [Act.put, List.getElem_toArray, List.getElem_cons_succ, List.getElem_cons_zero, List.setIfInBounds_toArray, List.set_cons_zero, List.set_cons_succ]
        refine wpAnyH_ready (rs := [15]) (by kernel_rfl) (by simp) ?_
        refine AllReadyH.cons rfl (fun K hK => ?_) AllReadyH.nil
        go_simp
        (try go_wp2_with fail)
        refine hK.out _ _ ?_ (fun hHeld => ?_)
        · exact hHeld
        clear hK K
        try simp only [Act.put, List.getElem_toArray, List.getElem_cons_succ, List.getElem_cons_zero, List.setIfInBounds_toArray, List.set_cons_zero, List.set_cons_succ]
        refine wpAnyH_take (i := 16) (v := ?_) rfl (by kernel_rfl) (by kernel_rfl) (by kernel_rfl) (fun _ _ _ h => h) (Or.inl ⟨by rfl, ?_⟩) (by assumption) ?_
        rotate_left
        · intro wq hSw; (try dsimp only at hSw); go_simp; (try with_reducible rfl)
        simp only [Act.put, List.getElem_toArray, List.getElem_cons_succ, List.getElem_cons_zero, List.setIfInBounds_toArray, List.set_cons_zero, List.set_cons_succ]
        refine wpAnyH_ready (rs := [17]) (by kernel_rfl) (by simp) ?_
        refine AllReadyH.cons rfl (fun K hK => ?_) AllReadyH.nil
        obtain ⟨⟨z0, z1, z2, z3⟩, fz, hB4⟩ := HZ.out (.cells #[.string ⟨#[]⟩, .string ⟨#[120]⟩, .string ⟨#[115, 111, 109, 101, 32, 119, 111, 114, 100, 115]⟩, .string ⟨#[0]⟩] 9)
        generalize (wc.alloc (.cells #[.string ⟨#[]⟩, .string ⟨#[120]⟩, .string ⟨#[115, 111, 109, 101, 32, 119, 111, 114, 100, 115]⟩, .string ⟨#[0]⟩] 9)).drew = W4 at z0 z1 z2 z3 fz hB4 hHeld ⊢
        have f0 := fz 0
        have f1 := fz 1
        have f2 := fz 2
        have f3 := fz 3
        clear fz
        go_simp
        (try go_wp2_with fail)
        refine hK.out _ _ ?_ (fun hHeld => ?_)
        · exact (((hHeld.far (p := ⟨w.heap.size, 0, none⟩) (by simp) _).far (p := ⟨w.heap.size, 1, none⟩) (by simp) _).far (p := ⟨w.heap.size, 2, none⟩) (by simp) _).far (p := ⟨w.heap.size, 3, none⟩) (by simp) _
        clear hK K
        try simp only [Act.put, List.getElem_toArray, List.getElem_cons_succ, List.getElem_cons_zero, List.setIfInBounds_toArray, List.set_cons_zero, List.set_cons_succ]
        refine wpAnyH_done (by kernel_rfl) ?_ _
        clear hHeld
        go_wp2_with fail
        exact bodyPost_ret (v := .agg #[.string s0, .int .u64 ((x1 : Int) + 1), .int .i64 (x2 : Int), .string s]) (by simp [results, Try.results11, go_sem, z0, z1, z2, z3]) rfl ⟨rfl, (((hB4.setCell (p := ⟨w.heap.size, 0, none⟩) (Nat.le_refl _) _).setCell (p := ⟨w.heap.size, 1, none⟩) (Nat.le_refl _) _).setCell (p := ⟨w.heap.size, 2, none⟩) (Nat.le_refl _) _).setCell (p := ⟨w.heap.size, 3, none⟩) (Nat.le_refl _) _⟩
      · go_simp
        (try go_wp2_with fail)
        refine hK.out _ _ ?_ (fun hHeld => ?_)
        · exact hHeld
        clear hK K
        try simp only [Act.put, List.getElem_toArray, List.getElem_cons_succ, List.getElem_cons_zero, List.setIfInBounds_toArray, List.set_cons_zero, List.set_cons_succ]
        refine wpAnyH_ready (rs := [2]) (by kernel_rfl) (by simp) ?_
        refine AllReadyH.cons rfl (fun K hK => ?_) AllReadyH.nil
        go_simp
        refine (HN _).mono ?_
        rintro e w' ⟨rfl, rfl⟩
        (try go_wp2_with fail)
        refine hK.out _ _ ?_ (fun hHeld => ?_)
        · exact hHeld
        clear hK K
        try simp only [Act.put, List.getElem_toArray, List.getElem_cons_succ, List.getElem_cons_zero, List.setIfInBounds_toArray, List.set_cons_zero, List.set_cons_succ]
        refine wpAnyH_take (i := 16) (v := ?_) rfl (by kernel_rfl) (by kernel_rfl) (by kernel_rfl) (fun _ _ _ h => h) (Or.inl ⟨by rfl, ?_⟩) (by assumption) ?_
        rotate_left
        · intro wq hSw; (try dsimp only at hSw); go_simp; (try with_reducible rfl)
        simp only [Act.put, List.getElem_toArray, List.getElem_cons_succ, List.getElem_cons_zero, List.setIfInBounds_toArray, List.set_cons_zero, List.set_cons_succ]
        refine wpAnyH_ready (rs := [17]) (by kernel_rfl) (by simp) ?_
        refine AllReadyH.cons rfl (fun K hK => ?_) AllReadyH.nil
        obtain ⟨⟨z0, z1, z2, z3⟩, fz, hB4⟩ := HZ.out (.cells #[.string ⟨#[]⟩, .string ⟨#[120]⟩, .string ⟨#[115, 111, 109, 101, 32, 119, 111, 114, 100, 115]⟩, .string ⟨#[0]⟩] 9)
        generalize (wc.alloc (.cells #[.string ⟨#[]⟩, .string ⟨#[120]⟩, .string ⟨#[115, 111, 109, 101, 32, 119, 111, 114, 100, 115]⟩, .string ⟨#[0]⟩] 9)).drew = W4 at z0 z1 z2 z3 fz hB4 hHeld ⊢
        have f0 := fz 0
        have f1 := fz 1
        have f2 := fz 2
        have f3 := fz 3
        clear fz
        go_simp
        (try go_wp2_with fail)
        refine hK.out _ _ ?_ (fun hHeld => ?_)
        · exact (((hHeld.far (p := ⟨w.heap.size, 0, none⟩) (by simp) _).far (p := ⟨w.heap.size, 1, none⟩) (by simp) _).far (p := ⟨w.heap.size, 2, none⟩) (by simp) _).far (p := ⟨w.heap.size, 3, none⟩) (by simp) _
        clear hK K
        try simp only [Act.put, List.getElem_toArray, List.getElem_cons_succ, List.getElem_cons_zero, List.setIfInBounds_toArray, List.set_cons_zero, List.set_cons_succ]
        refine wpAnyH_done (by kernel_rfl) ?_ _
        clear hHeld
        go_wp2_with fail
        exact bodyPost_ret (v := .agg #[.string s0, .int .u64 ((x1 : Int) + 1), .int .i64 (x2 : Int), .string s]) (by simp [results, Try.results11, go_sem, z0, z1, z2, z3]) rfl ⟨rfl, (((hB4.setCell (p := ⟨w.heap.size, 0, none⟩) (Nat.le_refl _) _).setCell (p := ⟨w.heap.size, 1, none⟩) (Nat.le_refl _) _).setCell (p := ⟨w.heap.size, 2, none⟩) (Nat.le_refl _) _).setCell (p := ⟨w.heap.size, 3, none⟩) (Nat.le_refl _) _⟩

end Go.Proofs.Ytklgggolkclebaa
