/-
  Proved: TailOrder returns true for every number and bytes: traces are due in the order in which their first spans came. No condition.
-/
import Derived.Test.YtbmhhidlmdhacaaBytes0
import Derived.Test.YtbmhhidlmdhacaaTlRow
namespace Go.Proofs.Ytbmhhidlmdhacaa
open Go.ChangeShapes Go.WideShapes Go.ChangeAt Go.RowKit Go.Maps Go.Proofs.HeapMath Go.Proofs.TailMath

/-- The traces that wait, by their numbers. -/
def keyL (L : List Gr) : List (Nat × Nat) := L.map fun g => (g.hi, g.lo)
theorem keyL_put (due no : Nat) (s : Sp) (L : List Gr) : keyL (put due no s L) = if isNew s.hi s.lo L = true then keyL L ++ [(s.hi, s.lo)] else keyL L := by
  cases e : isNew s.hi s.lo L with
  | true =>
    rw [put_new e]
    simp [keyL]
  | false =>
    have h : L.any (·.is s.hi s.lo) = true := by simpa [isNew] using e
    unfold put
    rw [if_pos h]
    simp only [keyL, List.map_map, Bool.false_eq_true, if_false]
    refine List.map_congr_left fun g _ => ?_
    simp only [Function.comp_apply]
    split <;> rfl
theorem isNew_key {hi lo : Nat} {L : List Gr} : isNew hi lo L = true ↔ (hi, lo) ∉ keyL L := by
  rw [isNew_true]
  constructor
  · intro h hm
    obtain ⟨g, hg, e⟩ := List.mem_map.1 hm
    injection e with e1 e2
    exact h g hg ⟨e1, e2⟩
  · intro h g hg e
    exact h (List.mem_map.2 ⟨g, hg, by rw [e.1, e.2]⟩)
def lo1 (k : Nat) : Nat × Nat := (0, k + 1)
structure OrI (n i : Nat) (fs : List Nat) (b : St) : Prop where
  K : b.K = []
  sp : b.sp = 200
  wait : b.wait = n
  time : b.time = 0
  tot_ : tot b.L = i
  came : b.came ≤ i
  key : keyL b.L = fs.map lo1
theorem OrI.next {n i k : Nat} {fs : List Nat} {b : St} (h : OrI n i fs b) (hv : Iv b) (hi : i < 100) : offer b 0 (sp1 0 (k + 1)) = (offered (at_ b 0) (sp1 0 (k + 1)), 1, 0) ∧ OrI n (i + 1) (if k ∈ fs then fs else fs ++ [k]) (offered (at_ b 0) (sp1 0 (k + 1))) := by
  have ht : tot (offered (at_ b 0) (sp1 0 (k + 1))).L = i + 1 := by
    rw [tot_offered (hv.at_ (t := 0) (by rw [h.time]; exact Nat.le_refl _) (by omega))]
    show tot b.L + 1 = _
    rw [h.tot_]
  have hc : (offered (at_ b 0) (sp1 0 (k + 1))).came ≤ i + 1 := by
    have := came_offered (at_ b 0) (sp1 0 (k + 1))
    have h2 : (at_ b 0).came = b.came := rfl
    have := h.came
    omega
  refine ⟨offer_taken (t := 0) (by rw [h.time]; exact Nat.le_refl _) (by omega) (by rw [h.K]; rfl) (by rw [h.sp, h.tot_]; omega), h.K, h.sp, h.wait, rfl, ht, hc, ?_⟩
  show keyL (put (0 + b.wait) b.came (sp1 0 (k + 1)) b.L) = _
  rw [keyL_put]
  show (if isNew 0 (k + 1) b.L = true then keyL b.L ++ [(0, k + 1)] else keyL b.L) = _
  have hm : (0, k + 1) ∈ keyL b.L ↔ k ∈ fs := by
    rw [h.key]
    constructor
    · intro hx
      obtain ⟨j, hj, e⟩ := List.mem_map.1 hx
      unfold lo1 at e
      injection e with _ e
      have : j = k := by omega
      exact this ▸ hj
    · intro hx
      exact List.mem_map.2 ⟨k, hx, rfl⟩
  by_cases hk : k ∈ fs
  · rw [if_pos hk, if_neg fun e => isNew_key.1 e (hm.2 hk)]
    exact h.key
  · rw [if_neg hk, if_pos (isNew_key.2 fun e => hk (hm.1 e)), h.key]
    simp [lo1]
theorem OrI.due {n i : Nat} {fs : List Nat} {b : St} (h : OrI n i fs b) (hv : Iv b) (hn : n ≤ 9) : dueL ((100 : Nat) : Int) b.L = b.L := (due_all fun g hg => by
  have := (hv.L.ok g hg).2.1
  have h1 := h.time
  have h2 := h.wait
  omega).1

/-- The law's own memory. -/
structure OrW (B : Nat) (W : World) (Ns : Nat) (A : Option Addr) (n cap : Nat) (fs : List Nat) (bs : List Nat) : Prop where
  seen : ∃ C : Array Value, Blk W Ns C 27 ∧ C.size = 16 ∧ ∀ k, k < 16 → C[k]? = some (.int .i64 (if k ∈ fs then 1 else 0))
  row : W.ownsRow B 3 1 (.slice A n cap) n (fs.map fun k : Nat => Value.int .i64 (k : Int))
  len : fs.length = n
  small : ∀ k ∈ fs, k ≤ 15
  apart : Ns ∉ bs ∧ B ≤ Ns ∧ ∀ g, (Value.slice A n cap).ownBlock = some g → g ∉ bs ∧ g ≠ Ns
theorem OrW.mut {B : Nat} {W W' : World} {Ns n cap : Nat} {A : Option Addr} {fs bs bs' : List Nat} (h : OrW B W Ns A n cap fs bs) (hm : Mut bs W W') (hx : Ext W bs bs') : OrW B W' Ns A n cap fs bs' := by
  obtain ⟨C, h1, h2⟩ := h.seen
  exact ⟨⟨C, h1.mut hm h.apart.1, h2⟩, row_same h.row fun g hg => hm.block g (h.row.lt g hg).2 (h.apart.2.2 g hg).1, h.len, h.small, hx.not h.apart.1 h1.lt, h.apart.2.1, fun g hg => ⟨hx.not (h.apart.2.2 g hg).1 (h.row.lt g hg).2, (h.apart.2.2 g hg).2⟩⟩
theorem OrW.old {B : Nat} {W : World} {Ns n cap k : Nat} {A : Option Addr} {fs bs : List Nat} (h : OrW B W Ns A n cap fs bs) (hk : k ∈ fs) : OrW B (W.setCell ⟨Ns, k, none⟩ (.int .i64 1)) Ns A n cap fs bs := by
  obtain ⟨C, h1, h2, h3⟩ := h.seen
  refine ⟨⟨_, h1.set k _, by simp [h2], fun j hj => ?_⟩, row_same h.row fun g hg => Below.heap_setCell _ _ _ _ (h.apart.2.2 g hg).2, h.len, h.small, h.apart⟩
  rw [Array.getElem?_setIfInBounds]
  by_cases e : k = j
  · subst e
    rw [if_pos rfl, if_pos (by omega), if_pos hk]
  · rw [if_neg e]
    exact h3 j hj
theorem OrW.new {B : Nat} {W W2 : World} {Ns n cap k g cap' : Nat} {A : Option Addr} {fs bs : List Nat} {o : Obj} (h : OrW B W Ns A n cap fs bs) (hk15 : k ≤ 15) (hlt : ∀ k ∈ bs, k < W.heap.size) (hg : (W.alloc o).grownBy W2 (Value.slice A n cap).ownBlock) (hown : W2.ownsRow B 3 1 (.slice (some ⟨g, 0, none⟩) (n + 1) cap') (n + 1) ((fs.map fun k : Nat => Value.int .i64 (k : Int)) ++ [.int .i64 (k : Int)])) (hor : (Value.slice A n cap).ownBlock = some g ∨ (W.alloc o).heap.size ≤ g) :
    OrW B (W2.setCell ⟨Ns, k, none⟩ (.int .i64 1)) Ns (some ⟨g, 0, none⟩) (n + 1) cap' (fs ++ [k]) bs := by
  obtain ⟨C, h1, h2, h3⟩ := h.seen
  have hN := h1.lt
  have hs : (W.alloc o).heap.size = W.heap.size + 1 := World.size_alloc _ _
  have hne : ∀ g, (Value.slice A n cap).ownBlock = some g → g ≠ Ns := fun g hg => (h.apart.2.2 g hg).2
  have hgN : g ≠ Ns := by
    rcases hor with e | e
    · exact hne g e
    · omega
  have hgb : g ∉ bs := by
    rcases hor with e | e
    · exact (h.apart.2.2 g e).1
    · intro hm
      have := hlt g hm
      omega
  have hb2 : Blk W2 Ns C 27 := h1.same ((hg.block Ns (by omega) fun e => hne Ns e.symm rfl).trans (Below.heap_alloc _ _ _ hN))
  refine ⟨⟨_, hb2.set k _, by simp [h2], fun j hj => ?_⟩, row_same (by simpa using hown) fun g' hg' => ?_, by simp [h.len], fun j hj => ?_, h.apart.1, h.apart.2.1, fun g' hg' => ?_⟩
  · rw [Array.getElem?_setIfInBounds]
    by_cases e : k = j
    · subst e
      rw [if_pos rfl, if_pos (by omega), if_pos (by simp)]
    · rw [if_neg e, h3 j hj]
      simp [Ne.symm e]
  · simp [Value.ownBlock] at hg'
    subst hg'
    exact Below.heap_setCell _ _ _ _ hgN
  · rcases List.mem_append.1 hj with e | e
    · exact h.small j e
    · rw [List.mem_singleton.1 e]; exact hk15
  · simp [Value.ownBlock] at hg'
    subst hg'
    exact ⟨hgb, hgN⟩
def zs16 : Array Value := #[.int .i64 0, .int .i64 0, .int .i64 0, .int .i64 0, .int .i64 0, .int .i64 0, .int .i64 0, .int .i64 0, .int .i64 0, .int .i64 0, .int .i64 0, .int .i64 0, .int .i64 0, .int .i64 0, .int .i64 0, .int .i64 0]
theorem zs16_at : ∀ k, k < 16 → zs16[k]? = some (.int .i64 (if k ∈ ([] : List Nat) then 1 else 0)) := fun k hk => by
  obtain h | h | h | h | h | h | h | h | h | h | h | h | h | h | h | h : k = 0 ∨ k = 1 ∨ k = 2 ∨ k = 3 ∨ k = 4 ∨ k = 5 ∨ k = 6 ∨ k = 7 ∨ k = 8 ∨ k = 9 ∨ k = 10 ∨ k = 11 ∨ k = 12 ∨ k = 13 ∨ k = 14 ∨ k = 15 := by omega
  all_goals (subst h; rfl)
theorem info_int : (Try.prog.info? 3).map (fun i => (i.zero, i.size, i.bytes)) = some (some (.int .i64 0), 1, 8) := by kernel_rfl

set_option linter.unusedSimpArgs false in
set_option maxRecDepth 100000 in
set_option maxHeartbeats 2000000 in
theorem tailOrder_walk (cn : UInt8) (A0 : Option Addr) (cs : List UInt8) (cap : Nat) (w : World) (hH : Holds8 w.heap.size w A0 cs) (hcap : cs.length ≤ cap) :
    Calls Try.prog 3 #[.int .u8 (cn.toNat : Int), .slice A0 cs.length cap] w fun e w' => e = .returned (.bool true) ∧ Below w.heap.size w w' := by
  obtain ⟨N, hN⟩ : ∃ N, cs.length = N := ⟨_, rfl⟩
  rw [hN] at hcap ⊢
  obtain ⟨m, hm, hm1, hm2⟩ : ∃ m : Nat, (1 : Int) + (cn.toNat : Int) % 9 = (m : Int) ∧ 1 ≤ m ∧ m ≤ 9 := ⟨1 + cn.toNat % 9, by omega, by omega, by omega⟩
  have HNEW := Lib.hid (own_new 200 m 1 w (by omega) (by omega) (by omega))
  have hTake : ∀ S bs W b i k y fs Ns A n cap, Ob w W S b bs → OrI m i fs b → OrW w.heap.size W Ns A n cap (if k ∈ fs then fs else fs ++ [k]) bs → i < 100 → k ≤ 15 → y = k + 1 → Calls Try.prog 12 #[.pointer (some ⟨S, 0, none⟩), .int .i64 0, spV (sp1 0 y)] W fun e w' => e = .returned (.tuple #[.int .u8 1, .int .u16 0]) ∧ ∃ bs' b', Hid (Ob w w' S b' bs' ∧ OrI m (i + 1) (if k ∈ fs then fs else fs ++ [k]) b' ∧ OrW w.heap.size w' Ns A n cap (if k ∈ fs then fs else fs ++ [k]) bs') := fun S bs W b i k y fs Ns A n cap h hR hW hi hk hy => by
    subst hy
    exact (h.offer 0 (sp1 0 (k + 1)) ⟨by show 0 < 18446744073709551616; decide, by show k + 1 < 18446744073709551616; omega⟩ (by have := hR.came; omega) _ (hR.next (k := k) h.1.iv hi).1).mono fun e w' ⟨a, bs', y, z⟩ => ⟨a, bs', _, Lib.hid ⟨y.out, (hR.next h.1.iv hi).2, hW.mut z.out.1 z.out.2⟩⟩
  have hDue : ∀ S bs W b i fs Ns A n cap, Ob w W S b bs → OrI m i fs b → OrW w.heap.size W Ns A n cap fs bs → i ≤ 100 → Calls Try.prog 13 #[.pointer (some ⟨S, 0, none⟩), .int .i64 100] W fun e w' => ∃ V l, e = .returned (.tuple #[.slice V n n, .int .u16 0]) ∧ Hid (l.map (fun x => (x.1.hi, x.1.lo)) = fs.map lo1 ∧ Told w' V l ∧ Below w.heap.size w w') ∧ ∃ bs', Hid (OrW w.heap.size w' Ns A n cap fs bs') := fun S bs W b i fs Ns A n cap h hR hW hi => by
    have hd := hR.due h.1.iv hm2
    have hl : b.L.length = n := by
      have := congrArg List.length hR.key
      simp [keyL] at this
      rw [this, hW.len]
    exact (h.due 100 (by rw [hR.time]; omega) (by omega) (by have := hR.came; omega) _ n _ hd hl rfl).mono fun e w' ⟨V, l, a, hL, hT, bs', y, z⟩ => ⟨V, l, a, Lib.hid ⟨by
      have e1 : l.map (fun x => (x.1.hi, x.1.lo)) = keyL (l.map (·.1)) := by simp [keyL]
      rw [e1, hL.out, hR.key], hT.out, y.out.2.1⟩, bs', Lib.hid (hW.mut z.out.1 z.out.2)⟩
  unfold spV sp1 at hTake
  have HTAKE := Lib.hid hTake
  have HDUE := Lib.hid hDue
  have HH := Lib.hid hH
  have HN := Lib.hid hN
  clear hTake hDue hH hN
  go_enter Try.func3, Try.ntmps3
  go_wp2_with fail
  refine HNEW.out.mono ?_
  rintro e w1 ⟨S, bs, rfl, HO⟩
  by_cases hlong : 100 < N
  · have t1 : decide ((100 : Int) < (N : Int)) = true := by simp; omega
    have HK := Lib.hid (own_known HO.out)
    go_wp2_with fail
    refine HK.out.mono ?_
    rintro e w2 ⟨rfl, HO2, _⟩
    have HE := Lib.hid HO2.out.2.1
    go_wp2_with fail
    go_ret
    exact ⟨rfl, HE.out⟩
  · have t1 : decide ((100 : Int) < (N : Int)) = false := by simp; omega
    have hN100 : N ≤ 100 := by omega
    have HK := Lib.hid (own_known HO.out)
    clear hlong HNEW
    go_wp2_with fail
    refine HK.out.mono ?_
    rintro e w2 ⟨rfl, HO2, _⟩
    clear HO HK
    have hB3 : Below w2.heap.size w2 (w2.alloc (.cells zs16 27)) := box_below _
    obtain ⟨Ns, hNs⟩ : ∃ n, w2.heap.size = n := ⟨_, rfl⟩
    have hst : Ob w (w2.alloc (.cells zs16 27)) S (new 200 m 1) bs ∧ OrI m 0 [] (new 200 m 1) ∧ OrW w.heap.size (w2.alloc (.cells zs16 27)) Ns none 0 0 [] bs :=
      ⟨HO2.out.later hB3, ⟨rfl, rfl, rfl, rfl, rfl, Nat.le_refl _, rfl⟩, ⟨zs16, hNs ▸ blk_new w2 _ _, rfl, zs16_at⟩, World.ownsRow_nil _ _ _ _, rfl, by simp, fun hm => by have := HO2.out.1.lt Ns hm; omega, by rw [← hNs]; exact HO2.out.2.1.size, fun g hg => by simp [Value.ownBlock] at hg⟩
    have HST := Lib.hid hst
    clear hst hB3 HO2
    unfold zs16 at HST
    go_wp2_with fail
    clear hNs
    go_loopw [8, 6] (fun iv fv wr => ∃ (i : Nat) (A : Option Addr) (n cap2 : Nat) (fs bs : List Nat) (b : St), iv = .int .i64 (i : Int) ∧ fv = .slice A n cap2 ∧ i ≤ N ∧ n ≤ i ∧ Hid (Ob w wr S b bs ∧ OrI m i fs b ∧ OrW w.heap.size wr Ns A n cap2 fs bs)) (fun iv _ _ => N - (intOf iv).toNat)
    case atStart => exact ⟨0, none, 0, 0, [], bs, _, rfl, rfl, by omega, by omega, HST⟩
    case round =>
      clear HST t1
      obtain ⟨i, A, n, cap2, fs, bs1, b1, rfl, rfl, hi, hni, HB⟩ := hrel
      by_cases hin : i < N
      · have di : decide ((i : Int) < (N : Int)) = true := by simp; omega
        obtain ⟨b0, o0, rfl, hb0, hc0⟩ := HH.out (by rw [HN.out]; omega)
        obtain ⟨x, hx⟩ : ∃ x : UInt8, cs.getD i 0 = x := ⟨_, rfl⟩
        have hcell := (HB.out.1.2.1.cell (p := ⟨b0, o0 + i, none⟩) hb0).trans (hc0 i (by rw [HN.out]; exact hin))
        rw [hx] at hcell
        have hcell' : wr.cell? ⟨b0, o0 + i, none⟩ = some (.int .u8 (x.toNat : Int)) := hcell
        have hx1 := x.toNat_lt
        obtain ⟨k, hk, hk2⟩ : ∃ k : Nat, (x.toNat : Int) % 16 = (k : Int) ∧ k ≤ 15 := ⟨x.toNat % 16, by omega, by omega⟩
        obtain ⟨y, hy, hy2⟩ : ∃ y : Nat, (k : Int) + 1 = (y : Int) ∧ y = k + 1 := ⟨k + 1, by omega, rfl⟩
        have HY := Lib.hid hy2
        have hy16 : y ≤ 16 := by omega
        have hk16 : k < 16 := by omega
        clear hcell hx hc0 hy2
        obtain ⟨C, hC1, hC2, hC3⟩ := HB.out.2.2.seen
        have hCk := hC3 k hk16
        have hNlt := hC1.lt
        have hbel : Ns ∉ bs1 ∧ w.heap.size ≤ Ns := ⟨HB.out.2.2.apart.1, HB.out.2.2.apart.2.1⟩
        by_cases hkf : k ∈ fs
        · rw [if_pos hkf] at hCk
          have cN : wr.cell? ⟨Ns, k, none⟩ = some (.int .i64 1) := hC1.cell k hCk
          have fN := hC1.free k
          have hO2 := HB.out.1.beside ((Mut.refl [Ns] wr).setCell (p := ⟨Ns, k, none⟩) (by simp) (.int .i64 1)) (fun q hq => by rw [List.mem_singleton.1 hq]; exact hbel)
          have hC := HTAKE.out S bs1 _ b1 i k y fs Ns A n cap2 hO2 HB.out.2.1 (by rw [if_pos hkf]; exact HB.out.2.2.old hkf) (by omega) hk2 HY.out
          rw [if_pos hkf] at hC
          have HC := Lib.hid hC
          clear hC hO2 hC1 hC2 hC3 hCk hbel
          go_wp2_with fail
          refine HC.out.mono ?_
          rintro e w4 ⟨rfl, bs4, b4, HB4⟩
          go_wp2_with fail
          go_roundw
          case rel => exact ⟨i + 1, A, n, cap2, fs, bs4, b4, by simp, rfl, by omega, by omega, HB4⟩
          case measure => simp [intOf]; omega
        · rw [if_neg hkf] at hCk
          have cN : wr.cell? ⟨Ns, k, none⟩ = some (.int .i64 0) := hC1.cell k hCk
          obtain ⟨i0, hi0, hz0, hz1, hz2⟩ := info_parts info_int
          obtain ⟨nr, hnr⟩ : ∃ n, wr.heap.size = n := ⟨_, rfl⟩
          have hnrd : (wr.alloc (.cells #[.int .i64 (k : Int)] 3)).heap.size = nr + 1 := by rw [World.size_alloc, hnr]
          have hb1 := hnr ▸ blk_new wr #[.int .i64 (k : Int)] 3
          have HX := Lib.hid (show Blk wr Ns C 27 ∧ C[k]? = some (.int .i64 0) ∧ (Ns ∉ bs1 ∧ w.heap.size ≤ Ns) ∧ Ns < wr.heap.size ∧ (∀ j u, [Value.int .i64 (k : Int)][j]? = some u → (wr.alloc (.cells #[.int .i64 (k : Int)] 3)).cell? ⟨nr, j, none⟩ = some u) from ⟨hC1, hCk, hbel, hNlt, fun j u hj => hb1.cell j (by simpa using hj)⟩)
          clear hC1 hC2 hC3 hCk hbel hNlt hb1 hnrd
          go_wp2_with (refine app_one Try.underlying26 hi0 hz0 hz1 hz2 rfl (by decide) rfl (.tmp 50) (.tmp 52) rfl w.heap.size A n cap2 (fs.map fun k : Nat => Value.int .i64 (k : Int)) [.int .i64 (k : Int)] nr 1 rfl (HB.out.2.2.row.alloc _) rfl rfl HX.out.2.2.2.2 (by simp [Value.oneCell']) (by omega) (by omega) (by rw [World.size_alloc]; exact Nat.le_succ_of_le HB.out.1.2.1.size) ?_)
          intro g cap3 W2 hown hgr hor
          have hnew := HB.out.2.2.new hk2 HB.out.1.1.lt hgr hown (by rw [World.size_alloc, hnr]; exact hor)
          have hNb : W2.heap[Ns]? = wr.heap[Ns]? := (hgr.block Ns (by rw [World.size_alloc]; have := HX.out.2.2.2.1; omega) (fun e => (HB.out.2.2.apart.2.2 Ns e.symm).2 rfl)).trans (Below.heap_alloc _ _ _ HX.out.2.2.2.1)
          have cN2 : W2.cell? ⟨Ns, k, none⟩ = some (.int .i64 0) := (World.cell?_of_block (w := wr) hNb).trans cN
          have fN2 : W2.frozen? ⟨Ns, k, none⟩ = false := (HX.out.1.same hNb).free k
          have hmW : Mut (Ns :: (Value.slice A n cap2).ownBlock.toList) wr (W2.setCell ⟨Ns, k, none⟩ (.int .i64 1)) := ((Mut.of_below (box_below (.cells #[.int .i64 (k : Int)] 3))).trans ((mut_grown hgr (HB.out.2.2.row.alloc _)).wider fun q hq => List.mem_cons_of_mem _ hq)).setCell (by simp) _
          have hO2 := HB.out.1.beside hmW (fun q hq => by
            rcases List.mem_cons.1 hq with e | e
            · rw [e]; exact HX.out.2.2.1
            · have e2 : (Value.slice A n cap2).ownBlock = some q := by simpa using e
              exact ⟨(HB.out.2.2.apart.2.2 q e2).1, (HB.out.2.2.row.lt q e2).1⟩)
          have hC := HTAKE.out S bs1 _ b1 i k y fs Ns (some ⟨g, 0, none⟩) (n + 1) cap3 hO2 HB.out.2.1 (by rw [if_neg hkf]; exact hnew) (by omega) hk2 HY.out
          rw [if_neg hkf] at hC
          have HC := Lib.hid hC
          clear hC hO2 hmW hNb hnew hown hgr hor cN
          go_wp2_with fail
          refine HC.out.mono ?_
          rintro e w4 ⟨rfl, bs4, b4, HB4⟩
          go_wp2_with fail
          go_roundw
          case rel => exact ⟨i + 1, _, n + 1, cap3, fs ++ [k], bs4, b4, by simp, rfl, by omega, by omega, HB4⟩
          case measure => simp [intOf]; omega
      · obtain rfl : i = N := by omega
        have di : decide ((i : Int) < (i : Int)) = false := by simp
        have HC := Lib.hid (HDUE.out S bs1 wr b1 i fs Ns A n cap2 HB.out.1 HB.out.2.1 HB.out.2.2 (by omega))
        go_wp2_with fail
        refine HC.out.mono ?_
        rintro e w4 ⟨V, l, rfl, HL, bs4, HW4⟩
        clear HC HDUE HTAKE HB
        go_wp2_with fail
        have hfs : fs.length = n := HW4.out.len
        have hln : l.length = n := by
          have := congrArg List.length HL.out.1
          simpa [hfs] using this
        have hat : ∀ j, j < n → ∀ W, Below w4.heap.size w4 W → ∃ q y : Nat, q ≤ 1000000000 ∧ (q : Int) + 1 = (y : Int) ∧ (∃ gt, V = some ⟨gt, 0, none⟩ ∧ W.cell? ⟨gt, j * 3 + 1, none⟩ = some (.int .u64 (y : Int))) ∧ ∃ gr, A = some ⟨gr, 0, none⟩ ∧ n ≤ cap2 ∧ W.cell? ⟨gr, j, none⟩ = some (.int .i64 (q : Int)) := fun j hj W hW => by
          have hjl : j < l.length := by omega
          have hjf : j < fs.length := by omega
          obtain ⟨gt, e1, hg1, hc1⟩ := HL.out.2.1.later hW (by omega)
          obtain ⟨_, c1, _, _⟩ := hc1 j hjl
          have hr := HW4.out.row
          obtain ⟨gr, capr, e2, _, hg2⟩ := hr.form (by omega)
          injection e2 with e2 _ e3
          subst e2
          have hrc := hr.cellAt j (by omega)
          have hkey : (l[j].1.hi, l[j].1.lo) = lo1 fs[j] := by
            have h1 := HL.out.1
            have h2 : (l.map fun x => (x.1.hi, x.1.lo))[j]? = (fs.map lo1)[j]? := by rw [h1]
            simpa [hjl, hjf] using h2
          have hlo : l[j].1.lo = fs[j] + 1 := congrArg Prod.snd hkey
          have hsm := HW4.out.small fs[j] (List.getElem_mem hjf)
          refine ⟨fs[j], fs[j] + 1, by omega, by omega, ⟨gt, e1, by rw [hlo] at c1; exact c1⟩, gr, rfl, ?_, ?_⟩
          · rcases hr.2 with ⟨e, _⟩ | ⟨g', c', cur, e, _, _, h2, _⟩
            · cases e
            · injection e with _ _ e; omega
          · exact (hW.cell (p := ⟨gr, j, none⟩) hg2).trans (by rw [hrc]; simp [hjf])
        have HAT := Lib.hid hat
        have HB4 := Lib.hid HL.out.2.2
        clear hfs hln hat HL HW4
        go_loopw [12] (fun jv wr => ∃ j : Nat, jv = .int .i64 (j : Int) ∧ j ≤ n ∧ Hid (Below w4.heap.size w4 wr)) (fun jv _ => n - (intOf jv).toNat)
        case atStart => exact ⟨0, rfl, by omega, Lib.hid (Below.refl _ _)⟩
        case round =>
          obtain ⟨j, rfl, hj, HBW⟩ := hrel
          by_cases hjn : j < n
          · have dj : decide ((j : Int) < (n : Int)) = true := by simp; omega
            obtain ⟨q, y, hq, hqy, ⟨gt, rfl, c1⟩, gr, rfl, hnc, c2⟩ := HAT.out j hjn wr HBW.out
            have hy9 : y ≤ 1000000001 := by omega
            go_wp2_with fail
            go_quiet (fail)
            have HB9 := Lib.hid (Below.drewN' HBW.out nq)
            clear c1 c2
            go_wp2_with fail
            go_roundw
            case rel => exact ⟨j + 1, by simp, by omega, HB9⟩
            case measure => simp [intOf]; omega
          · obtain rfl : j = n := by omega
            have dj : decide ((j : Int) < (j : Int)) = false := by simp
            have HE := Lib.hid (HB4.out.trans (HBW.out.mono HB4.out.size))
            go_wp2_with fail
            go_ret
            exact ⟨rfl, HE.out⟩
namespace TailOrder
set_option linter.unusedSimpArgs false in
set_option maxRecDepth 100000 in
theorem lifted (os : Os) (started : os.Started) (H : Type) (enc : TypeId × Value → H) :
    ReturnsInHanded {} Try.checked os 3 .any (Rows.tailOrderSpec.pre6 enc Try.prog Try.f3 Rows.tailOrderRow.domain false) (Rows.tailOrderSpec.post enc Try.prog Try.f3 false true false false) := by
  refine returnsInHanded_of_change (C := Try.checked) own started (by kernel_rfl) Try.func3
    (ChangeSpec.witness6 (enc := enc) (C := Try.checked) false ⟨#[], #[.int .u8 0, .slice none 0 0], []⟩ 8 (by kernel_rfl) (by kernel_rfl) (by kernel_rfl) (by kernel_rfl)) ?_
  intro W base args ds gs before hval0 hW _ _
  have hval : ∀ (j : Nat) t v, Try.f3.params[j]? = some t → args[j]? = some v → Value.okWide Try.prog W .any base t v := hval0
  have hW' := hW
  obtain ⟨p, q, hA0, hV, rfl, _, _⟩ := hW
  have hA : DataW.TrodAll enc Try.prog W 0 (fun _ => true) true Try.f3.params.toList args.toList ds p := hA0
  rw [Try.params3] at hA hval
  obtain ⟨v0, vs0, d0, ds0, p0, q0, hargs, rfl, rfl, h0, r0⟩ := trodAll_cons hA
  obtain ⟨v1, vs1, d1, ds1, p1, q1, rfl, rfl, rfl, h1, r1⟩ := trodAll_cons r0
  obtain ⟨rfl, rfl, rfl⟩ := trodAll_nil r1
  obtain rfl : args = #[v0, v1] := by cases args; simp_all
  obtain ⟨rfl, rfl⟩ := trodVars_none hV
  obtain ⟨a0, rfl, rfl, rfl, w0⟩ := open_int Try.underlying5 (hval 0 5 v0 rfl rfl) h0
  have k0 := wf_u8 w0
  obtain ⟨n0, rfl⟩ : ∃ u : UInt8, a0 = (u.toNat : Int) := ⟨UInt8.ofNat a0.toNat, by simp; omega⟩
  obtain ⟨A1, cs1, cap1, rfl, l1, m1, b1, again1⟩ := arg_bytes (hval 1 22 v1 rfl rfl) h1
  have x1 := arg_extra h1
  clear hA0 hval0
  simp only [List.append_nil] at hW'
  refine (tailOrder_walk n0 A1 cs1 cap1 W b1 l1).mono fun e W' ⟨he, hg⟩ => ?_
  subst he
  exact ⟨_, rfl, true_last hW' rfl (by kernel_rfl) Try.underlying4 rfl rfl rfl (of_decide_eq_true (by kernel_rfl)) hg⟩

/-- **TailOrder, at every input.** -/
theorem proved : Rows.TailOrderSaid :=
  OpenClaim.holds_of_wide 3 Try.f3 rfl rfl rfl rfl rfl rfl rfl ⟨rfl, rfl, rfl, rfl, rfl⟩ rfl rfl rfl rfl rfl (by kernel_rfl) Try.func3 (by kernel_rfl)
    (of_decide_eq_true (by kernel_rfl)) (by unfold Func.isWrapper; first | (rw [if_pos (by decide +kernel)]; kernel_rfl) | (rw [if_neg (by decide +kernel)]; exact ⟨rfl, rfl⟩))
    (fun os started H enc _ => lifted os started H enc)
end TailOrder

end Go.Proofs.Ytbmhhidlmdhacaa
