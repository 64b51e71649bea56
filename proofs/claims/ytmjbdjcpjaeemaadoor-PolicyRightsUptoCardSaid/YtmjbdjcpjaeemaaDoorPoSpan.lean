/-
  What telemeterlaw03.Span does, at every choice. No condition.
-/
import Derived.Test.YtmjbdjcpjaeemaaDoorPoMem
namespace Go.Proofs.YtmjbdjcpjaeemaaDoor
open Go.RowKit

def valOf (d : Nat) : ByteArray := if d % 3 = 0 then ⟨#[]⟩ else if d % 3 = 1 then ⟨#[118]⟩ else ⟨#[0, 32, 255]⟩
def keyA : ByteArray := ⟨#[97]⟩
def keyK (d : Nat) : ByteArray := ⟨#[107]⟩ ++ nameOf d
def attrsOf (cs : List UInt8) : List Attr :=
  if at8 cs 10 % 3 = 0 then [] else if at8 cs 10 % 3 = 1 then [(keyA, nameOf (at8 cs 11))] else [(keyA, nameOf (at8 cs 11)), (keyK (at8 cs 10), valOf (at8 cs 11))]
def rvOf (cs : List UInt8) : Nat := if 200 < at8 cs 8 then at8 cs 9 * 281474976710656 + 1 else 0
def spanOf (cs : List UInt8) : Sp :=
  { hi := at8 cs 0 % 3, lo := at8 cs 1 % 4 * 18014398509481984 + at8 cs 2 + 1, id := at8 cs 3 + 1, par := at8 cs 4 % 3, name := nameOf (at8 cs 5), start := (at8 cs 6 : Int), stop := (at8 cs 6 : Int) + (at8 cs 7 : Int), bad := decide (at8 cs 8 % 3 = 0), attrs := attrsOf cs, rv := rvOf cs }

def zeros26 : Array Value := spCells 0 0 0 0 ⟨#[]⟩ 0 0 false none 0 0 0

/-- The cells of attributes. -/
def aCells (l : List Attr) : List Value := l.flatMap fun a => [.string a.1, .string a.2]

/-- Where the call stands: the choices, the result's memory, the span's, its attributes. -/
structure St (w W : World) (cs : List UInt8) (g : Nat) (C : Array Value) : Prop where
  arr : Arr W (w.heap.size + 1) 12 (fun j => cs.getD j 0)
  res : Blk W w.heap.size zeros26 36
  sp : Blk W g C 36
  far : w.heap.size + 1 < g
  below : Below w.heap.size w W

theorem info_attr : (Tryd.prog.info? 65).map (fun i => (i.zero, i.size, i.bytes)) = some (some (.agg #[.string ⟨#[]⟩, .string ⟨#[]⟩]), 2, 32) := by kernel_rfl
theorem grown_at {w w' : World} {row : Option Nat} (h : w.grownBy w' row) {b : Nat} (hb : b < w.heap.size) (hr : row ≠ some b) : w'.heap[b]? = w.heap[b]? := h.block b hb (fun e => hr e.symm)
theorem St.drew {w W : World} {cs : List UInt8} {g : Nat} {C : Array Value} (h : St w W cs g C) : St w W.drew cs g C := ⟨h.arr, h.res, h.sp, h.far, h.below.drew⟩
theorem St.alloc {w W : World} {cs : List UInt8} {g : Nat} {C : Array Value} (h : St w W cs g C) (o : Obj) : St w (W.alloc o) cs g C := ⟨h.arr.alloc _, h.res.same (Below.heap_alloc _ _ _ h.res.lt), h.sp.same (Below.heap_alloc _ _ _ h.sp.lt), h.far, h.below.alloc h.below.size _⟩
theorem St.grown {w W W' : World} {cs : List UInt8} {g : Nat} {C : Array Value} {row : Option Nat} (h : St w W cs g C) (hg : W.grownBy W' row) (hr : ∀ k, row = some k → g < k) : St w W' cs g C := by
  have hne : ∀ b, b ≤ g → row ≠ some b := fun b hb e => by have := hr b e; omega
  have hf := h.far
  exact ⟨h.arr.same (grown_at hg h.arr.1 (hne _ (by omega))), h.res.same (grown_at hg h.res.lt (hne _ (by omega))), h.sp.same (grown_at hg h.sp.lt (hne _ (by omega))), h.far, h.below.grown hg h.below.size (fun k hk => by have := hr k hk; omega)⟩
theorem St.set {w W : World} {cs : List UInt8} {g : Nat} {C : Array Value} (h : St w W cs g C) (j : Nat) (u : Value) : St w (W.setCell ⟨g, j, none⟩ u) cs g (C.setIfInBounds j u) := by
  have hf := h.far
  exact ⟨h.arr.far (p := ⟨g, j, none⟩) (by show g ≠ _; omega) _, h.res.same (Below.heap_setCell _ _ _ _ (by show _ ≠ g; omega)), h.sp.set j u, h.far, h.below.setCell (p := ⟨g, j, none⟩) (by show _ ≤ g; omega) _⟩
theorem new_pair (W : World) (a b : Value) (T : TypeId) : ∀ j u, [a, b][j]? = some u → (W.alloc (.cells #[a, b] T)).drew.cell? ((⟨W.heap.size, 0, none⟩ : Addr).add j) = some u := fun j u hu => by
  have e : (⟨W.heap.size, 0, none⟩ : Addr).add j = ⟨W.heap.size, j, none⟩ := by unfold Addr.add; split <;> simp_all
  rw [e]
  show (W.alloc (.cells #[a, b] T)).cell? _ = _
  rw [World.cell?_alloc_mark]
  simpa using hu
theorem new_pair_at (W : World) (n : Nat) (hn : W.heap.size = n) (a b : Value) (T : TypeId) : ∀ j u, [a, b][j]? = some u → (W.alloc (.cells #[a, b] T)).drew.cell? ((⟨n, 0, none⟩ : Addr).add j) = some u := by
  subst hn
  exact new_pair W a b T

/-- What the call owns lies behind block g. -/
def Past (g : Nat) (v : Value) : Prop := ∀ k, v.ownBlock = some k → g < k
theorem Past.ne {g : Nat} {v : Value} (h : Past g v) {b : Nat} (hb : b ≤ g) : v.ownBlock ≠ some b := fun e => by have := h b e; omega

set_option linter.unusedSimpArgs false in
set_option maxRecDepth 100000 in
set_option maxHeartbeats 4000000 in
theorem span_any (A : Option Addr) (cs : List UInt8) (len cap : Nat) (w : World) (hlen : cs.length = len) (hr : Holds8 w.heap.size w A cs) :
    Calls Tryd.prog 20 #[.slice A len cap] w fun e w' => ∃ A' n c, e = .returned (.agg (spCells (spanOf cs).hi (spanOf cs).lo (spanOf cs).id (spanOf cs).par (spanOf cs).name (spanOf cs).start (spanOf cs).stop (spanOf cs).bad A' n c (spanOf cs).rv)) ∧
      n = (spanOf cs).attrs.length ∧ w'.ownsRow w.heap.size 65 2 (.slice A' n c) n (aCells (spanOf cs).attrs) ∧ Below w.heap.size w w' := by
  have HR := Lib.hid hr
  have HL := Lib.hid hlen
  clear hr hlen
  have l0 := at8_lt cs 0
  have l1 := at8_lt cs 1
  have l2 := at8_lt cs 2
  have l3 := at8_lt cs 3
  have l4 := at8_lt cs 4
  have l5 := at8_lt cs 5
  have l6 := at8_lt cs 6
  have l7 := at8_lt cs 7
  have l8 := at8_lt cs 8
  have l9 := at8_lt cs 9
  have l10 := at8_lt cs 10
  have l11 := at8_lt cs 11
  obtain ⟨x0, hx0⟩ : ∃ x, at8 cs 0 = x := ⟨_, rfl⟩
  rw [hx0] at l0
  obtain ⟨x1, hx1⟩ : ∃ x, at8 cs 1 = x := ⟨_, rfl⟩
  rw [hx1] at l1
  obtain ⟨x2, hx2⟩ : ∃ x, at8 cs 2 = x := ⟨_, rfl⟩
  rw [hx2] at l2
  obtain ⟨x3, hx3⟩ : ∃ x, at8 cs 3 = x := ⟨_, rfl⟩
  rw [hx3] at l3
  obtain ⟨x4, hx4⟩ : ∃ x, at8 cs 4 = x := ⟨_, rfl⟩
  rw [hx4] at l4
  obtain ⟨x5, hx5⟩ : ∃ x, at8 cs 5 = x := ⟨_, rfl⟩
  rw [hx5] at l5
  obtain ⟨x6, hx6⟩ : ∃ x, at8 cs 6 = x := ⟨_, rfl⟩
  rw [hx6] at l6
  obtain ⟨x7, hx7⟩ : ∃ x, at8 cs 7 = x := ⟨_, rfl⟩
  rw [hx7] at l7
  obtain ⟨x8, hx8⟩ : ∃ x, at8 cs 8 = x := ⟨_, rfl⟩
  rw [hx8] at l8
  obtain ⟨x9, hx9⟩ : ∃ x, at8 cs 9 = x := ⟨_, rfl⟩
  rw [hx9] at l9
  obtain ⟨x10, hx10⟩ : ∃ x, at8 cs 10 = x := ⟨_, rfl⟩
  rw [hx10] at l10
  obtain ⟨x11, hx11⟩ : ∃ x, at8 cs 11 = x := ⟨_, rfl⟩
  rw [hx11] at l11
  have hsp : ∃ at1, attrsOf cs = at1 := ⟨_, rfl⟩
  obtain ⟨at1, hat⟩ := hsp
  obtain ⟨rv, hrv⟩ : ∃ rv, rvOf cs = rv := ⟨_, rfl⟩
  unfold spanOf
  dsimp only
  rw [hx0, hx1, hx2, hx3, hx4, hx5, hx6, hx7, hx8, hat, hrv]
  unfold attrsOf at hat
  unfold rvOf at hrv
  rw [hx10, hx11] at hat
  rw [hx8, hx9] at hrv
  have HX0 := Lib.hid hx0
  have HX1 := Lib.hid hx1
  have HX2 := Lib.hid hx2
  have HX3 := Lib.hid hx3
  have HX4 := Lib.hid hx4
  have HX5 := Lib.hid hx5
  have HX6 := Lib.hid hx6
  have HX7 := Lib.hid hx7
  have HX8 := Lib.hid hx8
  have HX9 := Lib.hid hx9
  have HX10 := Lib.hid hx10
  have HX11 := Lib.hid hx11
  have HAT := Lib.hid hat
  have HRV := Lib.hid hrv
  obtain ⟨s5, hs5⟩ : ∃ s, nameOf x5 = s := ⟨_, rfl⟩
  have HN := fun W => name_any x5 l5 W
  rw [hs5] at HN ⊢
  obtain ⟨m0, hm0⟩ : ∃ r : Nat, x0 % 3 = r := ⟨_, rfl⟩
  obtain ⟨m1, hm1⟩ : ∃ r : Nat, x1 % 4 = r := ⟨_, rfl⟩
  obtain ⟨m4, hm4⟩ : ∃ r : Nat, x4 % 3 = r := ⟨_, rfl⟩
  obtain ⟨m8, hm8⟩ : ∃ r : Nat, x8 % 3 = r := ⟨_, rfl⟩
  obtain ⟨m10, hm10⟩ : ∃ r : Nat, x10 % 3 = r := ⟨_, rfl⟩
  obtain ⟨m11, hm11⟩ : ∃ r : Nat, x11 % 3 = r := ⟨_, rfl⟩
  obtain ⟨s11, hs11⟩ : ∃ s, nameOf x11 = s := ⟨_, rfl⟩
  have HS11 := Lib.hid hs11
  have t10 : (x10 : Int).tmod 3 = (m10 : Int) := by rw [Int.tmod_eq_emod_of_nonneg (by omega)]; omega
  have t11 : (x11 : Int).tmod 3 = (m11 : Int) := by rw [Int.tmod_eq_emod_of_nonneg (by omega)]; omega
  have HM10 := Lib.hid hm10
  have HM11 := Lib.hid hm11
  obtain ⟨i1, ha0, ha1, ha2, ha3⟩ := info_parts info_attr
  have t0 : (x0 : Int).tmod 3 = (m0 : Int) := by rw [Int.tmod_eq_emod_of_nonneg (by omega)]; omega
  have t1 : (x1 : Int).tmod 4 = (m1 : Int) := by rw [Int.tmod_eq_emod_of_nonneg (by omega)]; omega
  have t4 : (x4 : Int).tmod 3 = (m4 : Int) := by rw [Int.tmod_eq_emod_of_nonneg (by omega)]; omega
  have t8 : (x8 : Int).tmod 3 = (m8 : Int) := by rw [Int.tmod_eq_emod_of_nonneg (by omega)]; omega
  have b0 : m0 < 3 := by omega
  have b1 : m1 < 4 := by omega
  have b4 : m4 < 3 := by omega
  have b8 : m8 < 3 := by omega
  rw [hm0, hm1, hm4, hm8]
  obtain ⟨bad, hbad⟩ : ∃ b, decide (m8 = 0) = b := ⟨_, rfl⟩
  rw [hbad]
  obtain ⟨lo, hlo⟩ : ∃ lo, m1 * 18014398509481984 + x2 + 1 = lo := ⟨_, rfl⟩
  obtain ⟨id, hid⟩ : ∃ id, x3 + 1 = id := ⟨_, rfl⟩
  obtain ⟨stp, hstp⟩ : ∃ s : Int, (x6 : Int) + (x7 : Int) = s := ⟨_, rfl⟩
  rw [hlo, hid, hstp]
  have w1a : IntKind.u64.wrap ((m1 : Int) * 18014398509481984) = (m1 : Int) * 18014398509481984 := IntWalk.u64_in _ (by omega)
  have w1b : IntKind.u64.wrap ((m1 : Int) * 18014398509481984 + (x2 : Int)) = (m1 : Int) * 18014398509481984 + (x2 : Int) := IntWalk.u64_in _ (by omega)
  have w1c : IntKind.u64.wrap ((m1 : Int) * 18014398509481984 + (x2 : Int) + 1) = (lo : Int) := by rw [IntWalk.u64_in _ (by omega)]; omega
  have w3' : IntKind.u64.wrap ((x3 : Int) + 1) = (id : Int) := by rw [IntWalk.u64_in _ (by omega)]; omega
  have w67 : IntKind.i64.wrap ((x6 : Int) + (x7 : Int)) = stp := by rw [IntWalk.i64_in _ (by omega)]; omega
  have hbad' : ((m8 : Int) == 0) = bad := by rw [← hbad, Bool.eq_iff_iff]; simp
  clear hs11 hm10 hm11 hlo hid hstp hs5 hm0 hm1 hm4 hm8 hbad hat hrv hx0 hx1 hx2 hx3 hx4 hx5 hx6 hx7 hx8 hx9 hx10 hx11
  go_enter Tryd.func20, Tryd.ntmps20
  go_upto_block 0 with fail
  go_cut [2, 3] (fun s2 s3 wx => s2 = .pointer (some ⟨w.heap.size, 0, none⟩) ∧ s3 = .pointer (some ⟨w.heap.size + 1, 0, none⟩) ∧ Arr wx (w.heap.size + 1) 12 (fun j => cs.getD j 0) ∧ Blk wx w.heap.size zeros26 36 ∧ Below w.heap.size w wx)
  case first =>
    go_wp2_with fail
    go_loopw [4] (fun iv wr => ∃ k : Nat, k ≤ 12 ∧ k ≤ len ∧ iv = .int .i64 (k : Int) ∧ Arr wr (w.heap.size + 1) 12 (upTo cs k) ∧ Blk wr w.heap.size zeros26 36 ∧ Below w.heap.size w wr) (fun iv _ => 12 - (intOf iv).toNat)
    case atStart => exact ⟨0, by omega, by omega, rfl, arr_new _ (by simp) (fun j hj => by rcases (by omega : j = 0 ∨ j = 1 ∨ j = 2 ∨ j = 3 ∨ j = 4 ∨ j = 5 ∨ j = 6 ∨ j = 7 ∨ j = 8 ∨ j = 9 ∨ j = 10 ∨ j = 11) with rfl | rfl | rfl | rfl | rfl | rfl | rfl | rfl | rfl | rfl | rfl | rfl <;> rfl) _ (upTo_zero cs), alloc_here w _ _, ((Below.refl _ w).alloc (Nat.le_refl _) _).alloc (by simp) _⟩
    case round =>
      obtain ⟨k, hk, hkl, rfl, hA, hres, hB⟩ := hrel
      by_cases h1 : k < len
      · by_cases h2 : k < 12
        · obtain ⟨b, off, rfl, hbl, hc⟩ := (HR.out.below hB) (by rw [HL.out]; omega)
          have hck := hc k (by rw [HL.out]; exact h1)
          obtain ⟨hs1, hs2⟩ := hA.2 k h2
          have HA := Lib.hid (hA.set (x := cs.getD k 0) h2 (upTo_succ cs k).1 (upTo_succ cs k).2)
          have HRS := Lib.hid hres
          have hne : b ≠ w.heap.size + 1 := by omega
          have hxl := (cs.getD k 0).toNat_lt
          unfold Go.Proofs.YtmjbdjcpjaeemaaDoor.b8 at hck hs1 HA
          generalize (cs.getD k 0).toNat = x at hck HA hxl
          generalize upTo cs k k = y at hs1
          clear hc hA hres
          go_wp2
          go_roundw
          case rel => exact ⟨k + 1, by omega, by omega, by go_num, HA.out, HRS.out.same (Below.heap_setCell _ _ _ _ (by simp)), hB.setCell (p := ⟨w.heap.size + 1, k, none⟩) (by simp) _⟩
          case measure => simp [intOf]; omega
        · have h3 : decide ((k : Int) < 12) = false := by simp; omega
          have hA' : Arr wr (w.heap.size + 1) 12 (fun j => cs.getD j 0) := hA.congr fun j hj => upTo_full (k := k) (.inl (by omega)) hj
          clear hA
          go_wp2_with fail
          go_meet
          exact ⟨rfl, rfl, hA', hres, hB⟩
      · have hA' : Arr wr (w.heap.size + 1) 12 (fun j => cs.getD j 0) := hA.congr fun j hj => upTo_full (k := k) (.inr (by rw [HL.out]; omega)) hj
        clear hA
        go_wp2_with fail
        go_meet
        exact ⟨rfl, rfl, hA', hres, hB⟩
  case rest =>
    obtain ⟨rfl, rfl, hA, hres, hB⟩ := hcut
    have hlt := hA.1
    have c0 : ∀ W, Arr W (w.heap.size + 1) 12 (fun j => cs.getD j 0) → W.cell? ⟨w.heap.size + 1, 0, none⟩ = some (.int .u8 (x0 : Int)) := fun W h => by rw [← HX0.out]; exact (h.2 0 (by omega)).1
    have c1 : ∀ W, Arr W (w.heap.size + 1) 12 (fun j => cs.getD j 0) → W.cell? ⟨w.heap.size + 1, 1, none⟩ = some (.int .u8 (x1 : Int)) := fun W h => by rw [← HX1.out]; exact (h.2 1 (by omega)).1
    have c2 : ∀ W, Arr W (w.heap.size + 1) 12 (fun j => cs.getD j 0) → W.cell? ⟨w.heap.size + 1, 2, none⟩ = some (.int .u8 (x2 : Int)) := fun W h => by rw [← HX2.out]; exact (h.2 2 (by omega)).1
    have c3 : ∀ W, Arr W (w.heap.size + 1) 12 (fun j => cs.getD j 0) → W.cell? ⟨w.heap.size + 1, 3, none⟩ = some (.int .u8 (x3 : Int)) := fun W h => by rw [← HX3.out]; exact (h.2 3 (by omega)).1
    have c4 : ∀ W, Arr W (w.heap.size + 1) 12 (fun j => cs.getD j 0) → W.cell? ⟨w.heap.size + 1, 4, none⟩ = some (.int .u8 (x4 : Int)) := fun W h => by rw [← HX4.out]; exact (h.2 4 (by omega)).1
    have c5 : ∀ W, Arr W (w.heap.size + 1) 12 (fun j => cs.getD j 0) → W.cell? ⟨w.heap.size + 1, 5, none⟩ = some (.int .u8 (x5 : Int)) := fun W h => by rw [← HX5.out]; exact (h.2 5 (by omega)).1
    have c6 : ∀ W, Arr W (w.heap.size + 1) 12 (fun j => cs.getD j 0) → W.cell? ⟨w.heap.size + 1, 6, none⟩ = some (.int .u8 (x6 : Int)) := fun W h => by rw [← HX6.out]; exact (h.2 6 (by omega)).1
    have c7 : ∀ W, Arr W (w.heap.size + 1) 12 (fun j => cs.getD j 0) → W.cell? ⟨w.heap.size + 1, 7, none⟩ = some (.int .u8 (x7 : Int)) := fun W h => by rw [← HX7.out]; exact (h.2 7 (by omega)).1
    have c8 : ∀ W, Arr W (w.heap.size + 1) 12 (fun j => cs.getD j 0) → W.cell? ⟨w.heap.size + 1, 8, none⟩ = some (.int .u8 (x8 : Int)) := fun W h => by rw [← HX8.out]; exact (h.2 8 (by omega)).1
    have c9 : ∀ W, Arr W (w.heap.size + 1) 12 (fun j => cs.getD j 0) → W.cell? ⟨w.heap.size + 1, 9, none⟩ = some (.int .u8 (x9 : Int)) := fun W h => by rw [← HX9.out]; exact (h.2 9 (by omega)).1
    have c10 : ∀ W, Arr W (w.heap.size + 1) 12 (fun j => cs.getD j 0) → W.cell? ⟨w.heap.size + 1, 10, none⟩ = some (.int .u8 (x10 : Int)) := fun W h => by rw [← HX10.out]; exact (h.2 10 (by omega)).1
    have c11 : ∀ W, Arr W (w.heap.size + 1) 12 (fun j => cs.getD j 0) → W.cell? ⟨w.heap.size + 1, 11, none⟩ = some (.int .u8 (x11 : Int)) := fun W h => by rw [← HX11.out]; exact (h.2 11 (by omega)).1
    have C0 := Lib.hid c0
    have C1 := Lib.hid c1
    have C2 := Lib.hid c2
    have C3 := Lib.hid c3
    have C4 := Lib.hid c4
    have C5 := Lib.hid c5
    have C6 := Lib.hid c6
    have C7 := Lib.hid c7
    have C8 := Lib.hid c8
    have C9 := Lib.hid c9
    have C10 := Lib.hid c10
    have C11 := Lib.hid c11
    clear c0 c1 c2 c3 c4 c5 c6 c7 c8 c9 c10 c11
    go_upto_region 6 with fail
    go_cut [5] (fun s5' wx => ∃ g, s5' = .pointer (some ⟨g, 0, none⟩) ∧ St w wx cs g (spCells m0 lo id m4 s5 (x6 : Int) stp bad none 0 0 0))
    case first =>
      have w0 : IntKind.u64.wrap (m0 : Int) = (m0 : Int) := IntWalk.u64_in _ (by omega)
      have w1 : IntKind.u64.wrap (m1 : Int) = (m1 : Int) := IntWalk.u64_in _ (by omega)
      have w2 : IntKind.u64.wrap (x2 : Int) = (x2 : Int) := IntWalk.u64_in _ (by omega)
      have w3 : IntKind.u64.wrap (x3 : Int) = (x3 : Int) := IntWalk.u64_in _ (by omega)
      have w4 : IntKind.u64.wrap (m4 : Int) = (m4 : Int) := IntWalk.u64_in _ (by omega)
      have w6 : IntKind.i64.wrap (x6 : Int) = (x6 : Int) := IntWalk.i64_in _ (by omega)
      have w7 : IntKind.i64.wrap (x7 : Int) = (x7 : Int) := IntWalk.i64_in _ (by omega)
      refine wp_region_held_drew (S := fun W => Arr W (w.heap.size + 1) 12 (fun j => cs.getD j 0)) (by kernel_rfl) ?_ (fun hHeld => ?_)
      · exact hA
      refine wpAnyH_take (i := 0) (v := ?_) rfl (by kernel_rfl) (by kernel_rfl) (by kernel_rfl) (fun _ _ _ h => h) (Or.inl ⟨by rfl, ?_⟩) (by assumption) ?_
      rotate_left
      · intro wq hSw; (try dsimp only at hSw); go_simp; (try with_reducible rfl)
      simp only [Act.put, List.getElem_toArray, List.getElem_cons_succ, List.getElem_cons_zero, List.setIfInBounds_toArray, List.set_cons_zero, List.set_cons_succ]
      refine wpAnyH_take (i := 1) (v := ?_) rfl (by kernel_rfl) (by kernel_rfl) (by kernel_rfl) (fun _ _ _ h => h) (Or.inl ⟨by rfl, ?_⟩) (by assumption) ?_
      rotate_left
      · intro wq hSw; (try dsimp only at hSw); have hq := C0.out _ hSw; go_simp; (try with_reducible rfl)
      simp only [Act.put, List.getElem_toArray, List.getElem_cons_succ, List.getElem_cons_zero, List.setIfInBounds_toArray, List.set_cons_zero, List.set_cons_succ]
      refine wpAnyH_take (i := 2) (v := ?_) rfl (by kernel_rfl) (by kernel_rfl) (by kernel_rfl) (fun _ _ _ h => h) (Or.inl ⟨by rfl, ?_⟩) (by assumption) ?_
      rotate_left
      · intro wq hSw; (try dsimp only at hSw); go_simp; (try with_reducible rfl)
      simp only [Act.put, List.getElem_toArray, List.getElem_cons_succ, List.getElem_cons_zero, List.setIfInBounds_toArray, List.set_cons_zero, List.set_cons_succ]
      refine wpAnyH_take (i := 3) (v := ?_) rfl (by kernel_rfl) (by kernel_rfl) (by kernel_rfl) (fun _ _ _ h => h) (Or.inl ⟨by rfl, ?_⟩) (by assumption) ?_
      rotate_left
      · intro wq hSw; (try dsimp only at hSw); go_simp; (try with_reducible rfl)
      simp only [Act.put, List.getElem_toArray, List.getElem_cons_succ, List.getElem_cons_zero, List.setIfInBounds_toArray, List.set_cons_zero, List.set_cons_succ]
      refine wpAnyH_take (i := 4) (v := ?_) rfl (by kernel_rfl) (by kernel_rfl) (by kernel_rfl) (fun _ _ _ h => h) (Or.inl ⟨by rfl, ?_⟩) (by assumption) ?_
      rotate_left
      · intro wq hSw; (try dsimp only at hSw); go_simp; (try with_reducible rfl)
      simp only [Act.put, List.getElem_toArray, List.getElem_cons_succ, List.getElem_cons_zero, List.setIfInBounds_toArray, List.set_cons_zero, List.set_cons_succ]
      refine wpAnyH_take (i := 5) (v := ?_) rfl (by kernel_rfl) (by kernel_rfl) (by kernel_rfl) (fun _ _ _ h => h) (Or.inl ⟨by rfl, ?_⟩) (by assumption) ?_
      rotate_left
      · intro wq hSw; (try dsimp only at hSw); have hq := C1.out _ hSw; go_simp; (try with_reducible rfl)
      simp only [Act.put, List.getElem_toArray, List.getElem_cons_succ, List.getElem_cons_zero, List.setIfInBounds_toArray, List.set_cons_zero, List.set_cons_succ]
      refine wpAnyH_take (i := 6) (v := ?_) rfl (by kernel_rfl) (by kernel_rfl) (by kernel_rfl) (fun _ _ _ h => h) (Or.inl ⟨by rfl, ?_⟩) (by assumption) ?_
      rotate_left
      · intro wq hSw; (try dsimp only at hSw); go_simp; (try with_reducible rfl)
      simp only [Act.put, List.getElem_toArray, List.getElem_cons_succ, List.getElem_cons_zero, List.setIfInBounds_toArray, List.set_cons_zero, List.set_cons_succ]
      refine wpAnyH_take (i := 7) (v := ?_) rfl (by kernel_rfl) (by kernel_rfl) (by kernel_rfl) (fun _ _ _ h => h) (Or.inl ⟨by rfl, ?_⟩) (by assumption) ?_
      rotate_left
      · intro wq hSw; (try dsimp only at hSw); go_simp; (try with_reducible rfl)
      simp only [Act.put, List.getElem_toArray, List.getElem_cons_succ, List.getElem_cons_zero, List.setIfInBounds_toArray, List.set_cons_zero, List.set_cons_succ]
      refine wpAnyH_take (i := 8) (v := ?_) rfl (by kernel_rfl) (by kernel_rfl) (by kernel_rfl) (fun _ _ _ h => h) (Or.inl ⟨by rfl, ?_⟩) (by assumption) ?_
      rotate_left
      · intro wq hSw; (try dsimp only at hSw); go_simp; (try with_reducible rfl)
      simp only [Act.put, List.getElem_toArray, List.getElem_cons_succ, List.getElem_cons_zero, List.setIfInBounds_toArray, List.set_cons_zero, List.set_cons_succ]
      refine wpAnyH_take (i := 9) (v := ?_) rfl (by kernel_rfl) (by kernel_rfl) (by kernel_rfl) (fun _ _ _ h => h) (Or.inl ⟨by rfl, ?_⟩) (by assumption) ?_
      rotate_left
      · intro wq hSw; (try dsimp only at hSw); go_simp; (try with_reducible rfl)
      simp only [Act.put, List.getElem_toArray, List.getElem_cons_succ, List.getElem_cons_zero, List.setIfInBounds_toArray, List.set_cons_zero, List.set_cons_succ]
      refine wpAnyH_take (i := 10) (v := ?_) rfl (by kernel_rfl) (by kernel_rfl) (by kernel_rfl) (fun _ _ _ h => h) (Or.inl ⟨by rfl, ?_⟩) (by assumption) ?_
      rotate_left
      · intro wq hSw; (try dsimp only at hSw); have hq := C2.out _ hSw; go_simp; (try with_reducible rfl)
      simp only [Act.put, List.getElem_toArray, List.getElem_cons_succ, List.getElem_cons_zero, List.setIfInBounds_toArray, List.set_cons_zero, List.set_cons_succ]
      refine wpAnyH_take (i := 11) (v := ?_) rfl (by kernel_rfl) (by kernel_rfl) (by kernel_rfl) (fun _ _ _ h => h) (Or.inl ⟨by rfl, ?_⟩) (by assumption) ?_
      rotate_left
      · intro wq hSw; (try dsimp only at hSw); go_simp; (try with_reducible rfl)
      simp only [Act.put, List.getElem_toArray, List.getElem_cons_succ, List.getElem_cons_zero, List.setIfInBounds_toArray, List.set_cons_zero, List.set_cons_succ]
      refine wpAnyH_take (i := 12) (v := ?_) rfl (by kernel_rfl) (by kernel_rfl) (by kernel_rfl) (fun _ _ _ h => h) (Or.inl ⟨by rfl, ?_⟩) (by assumption) ?_
      rotate_left
      · intro wq hSw; (try dsimp only at hSw); go_simp; (try with_reducible rfl)
      simp only [Act.put, List.getElem_toArray, List.getElem_cons_succ, List.getElem_cons_zero, List.setIfInBounds_toArray, List.set_cons_zero, List.set_cons_succ]
      refine wpAnyH_take (i := 13) (v := ?_) rfl (by kernel_rfl) (by kernel_rfl) (by kernel_rfl) (fun _ _ _ h => h) (Or.inl ⟨by rfl, ?_⟩) (by assumption) ?_
      rotate_left
      · intro wq hSw; (try dsimp only at hSw); go_simp; (try with_reducible rfl)
      simp only [Act.put, List.getElem_toArray, List.getElem_cons_succ, List.getElem_cons_zero, List.setIfInBounds_toArray, List.set_cons_zero, List.set_cons_succ]
      refine wpAnyH_take (i := 14) (v := ?_) rfl (by kernel_rfl) (by kernel_rfl) (by kernel_rfl) (fun _ _ _ h => h) (Or.inl ⟨by rfl, ?_⟩) (by assumption) ?_
      rotate_left
      · intro wq hSw; (try dsimp only at hSw); go_simp; (try with_reducible rfl)
      simp only [Act.put, List.getElem_toArray, List.getElem_cons_succ, List.getElem_cons_zero, List.setIfInBounds_toArray, List.set_cons_zero, List.set_cons_succ]
      refine wpAnyH_take (i := 15) (v := ?_) rfl (by kernel_rfl) (by kernel_rfl) (by kernel_rfl) (fun _ _ _ h => h) (Or.inl ⟨by rfl, ?_⟩) (by assumption) ?_
      rotate_left
      · intro wq hSw; (try dsimp only at hSw); have hq := C3.out _ hSw; go_simp; (try with_reducible rfl)
      simp only [Act.put, List.getElem_toArray, List.getElem_cons_succ, List.getElem_cons_zero, List.setIfInBounds_toArray, List.set_cons_zero, List.set_cons_succ]
      refine wpAnyH_take (i := 16) (v := ?_) rfl (by kernel_rfl) (by kernel_rfl) (by kernel_rfl) (fun _ _ _ h => h) (Or.inl ⟨by rfl, ?_⟩) (by assumption) ?_
      rotate_left
      · intro wq hSw; (try dsimp only at hSw); go_simp; (try with_reducible rfl)
      simp only [Act.put, List.getElem_toArray, List.getElem_cons_succ, List.getElem_cons_zero, List.setIfInBounds_toArray, List.set_cons_zero, List.set_cons_succ]
      refine wpAnyH_take (i := 17) (v := ?_) rfl (by kernel_rfl) (by kernel_rfl) (by kernel_rfl) (fun _ _ _ h => h) (Or.inl ⟨by rfl, ?_⟩) (by assumption) ?_
      rotate_left
      · intro wq hSw; (try dsimp only at hSw); go_simp; (try with_reducible rfl)
      simp only [Act.put, List.getElem_toArray, List.getElem_cons_succ, List.getElem_cons_zero, List.setIfInBounds_toArray, List.set_cons_zero, List.set_cons_succ]
      refine wpAnyH_take (i := 18) (v := ?_) rfl (by kernel_rfl) (by kernel_rfl) (by kernel_rfl) (fun _ _ _ h => h) (Or.inl ⟨by rfl, ?_⟩) (by assumption) ?_
      rotate_left
      · intro wq hSw; (try dsimp only at hSw); go_simp; (try with_reducible rfl)
      simp only [Act.put, List.getElem_toArray, List.getElem_cons_succ, List.getElem_cons_zero, List.setIfInBounds_toArray, List.set_cons_zero, List.set_cons_succ]
      refine wpAnyH_take (i := 19) (v := ?_) rfl (by kernel_rfl) (by kernel_rfl) (by kernel_rfl) (fun _ _ _ h => h) (Or.inl ⟨by rfl, ?_⟩) (by assumption) ?_
      rotate_left
      · intro wq hSw; (try dsimp only at hSw); have hq := C4.out _ hSw; go_simp; (try with_reducible rfl)
      simp only [Act.put, List.getElem_toArray, List.getElem_cons_succ, List.getElem_cons_zero, List.setIfInBounds_toArray, List.set_cons_zero, List.set_cons_succ]
      refine wpAnyH_take (i := 20) (v := ?_) rfl (by kernel_rfl) (by kernel_rfl) (by kernel_rfl) (fun _ _ _ h => h) (Or.inl ⟨by rfl, ?_⟩) (by assumption) ?_
      rotate_left
      · intro wq hSw; (try dsimp only at hSw); go_simp; (try with_reducible rfl)
      simp only [Act.put, List.getElem_toArray, List.getElem_cons_succ, List.getElem_cons_zero, List.setIfInBounds_toArray, List.set_cons_zero, List.set_cons_succ]
      refine wpAnyH_take (i := 21) (v := ?_) rfl (by kernel_rfl) (by kernel_rfl) (by kernel_rfl) (fun _ _ _ h => h) (Or.inl ⟨by rfl, ?_⟩) (by assumption) ?_
      rotate_left
      · intro wq hSw; (try dsimp only at hSw); go_simp; (try with_reducible rfl)
      simp only [Act.put, List.getElem_toArray, List.getElem_cons_succ, List.getElem_cons_zero, List.setIfInBounds_toArray, List.set_cons_zero, List.set_cons_succ]
      refine wpAnyH_take (i := 22) (v := ?_) rfl (by kernel_rfl) (by kernel_rfl) (by kernel_rfl) (fun _ _ _ h => h) (Or.inl ⟨by rfl, ?_⟩) (by assumption) ?_
      rotate_left
      · intro wq hSw; (try dsimp only at hSw); go_simp; (try with_reducible rfl)
      simp only [Act.put, List.getElem_toArray, List.getElem_cons_succ, List.getElem_cons_zero, List.setIfInBounds_toArray, List.set_cons_zero, List.set_cons_succ]
      refine wpAnyH_take (i := 23) (v := ?_) rfl (by kernel_rfl) (by kernel_rfl) (by kernel_rfl) (fun _ _ _ h => h) (Or.inl ⟨by rfl, ?_⟩) (by assumption) ?_
      rotate_left
      · intro wq hSw; (try dsimp only at hSw); have hq := C5.out _ hSw; go_simp; (try with_reducible rfl)
      simp only [Act.put, List.getElem_toArray, List.getElem_cons_succ, List.getElem_cons_zero, List.setIfInBounds_toArray, List.set_cons_zero, List.set_cons_succ]
      refine wpAnyH_take (i := 25) (v := ?_) rfl (by kernel_rfl) (by kernel_rfl) (by kernel_rfl) (fun _ _ _ h => h) (Or.inl ⟨by rfl, ?_⟩) (by assumption) ?_
      rotate_left
      · intro wq hSw; (try dsimp only at hSw); go_simp; (try with_reducible rfl)
      simp only [Act.put, List.getElem_toArray, List.getElem_cons_succ, List.getElem_cons_zero, List.setIfInBounds_toArray, List.set_cons_zero, List.set_cons_succ]
      refine wpAnyH_take (i := 26) (v := ?_) rfl (by kernel_rfl) (by kernel_rfl) (by kernel_rfl) (fun _ _ _ h => h) (Or.inl ⟨by rfl, ?_⟩) (by assumption) ?_
      rotate_left
      · intro wq hSw; (try dsimp only at hSw); have hq := C6.out _ hSw; go_simp; (try with_reducible rfl)
      simp only [Act.put, List.getElem_toArray, List.getElem_cons_succ, List.getElem_cons_zero, List.setIfInBounds_toArray, List.set_cons_zero, List.set_cons_succ]
      refine wpAnyH_take (i := 27) (v := ?_) rfl (by kernel_rfl) (by kernel_rfl) (by kernel_rfl) (fun _ _ _ h => h) (Or.inl ⟨by rfl, ?_⟩) (by assumption) ?_
      rotate_left
      · intro wq hSw; (try dsimp only at hSw); go_simp; (try with_reducible rfl)
      simp only [Act.put, List.getElem_toArray, List.getElem_cons_succ, List.getElem_cons_zero, List.setIfInBounds_toArray, List.set_cons_zero, List.set_cons_succ]
      refine wpAnyH_take (i := 28) (v := ?_) rfl (by kernel_rfl) (by kernel_rfl) (by kernel_rfl) (fun _ _ _ h => h) (Or.inl ⟨by rfl, ?_⟩) (by assumption) ?_
      rotate_left
      · intro wq hSw; (try dsimp only at hSw); go_simp; (try with_reducible rfl)
      simp only [Act.put, List.getElem_toArray, List.getElem_cons_succ, List.getElem_cons_zero, List.setIfInBounds_toArray, List.set_cons_zero, List.set_cons_succ]
      refine wpAnyH_take (i := 29) (v := ?_) rfl (by kernel_rfl) (by kernel_rfl) (by kernel_rfl) (fun _ _ _ h => h) (Or.inl ⟨by rfl, ?_⟩) (by assumption) ?_
      rotate_left
      · intro wq hSw; (try dsimp only at hSw); have hq := C6.out _ hSw; go_simp; (try with_reducible rfl)
      simp only [Act.put, List.getElem_toArray, List.getElem_cons_succ, List.getElem_cons_zero, List.setIfInBounds_toArray, List.set_cons_zero, List.set_cons_succ]
      refine wpAnyH_take (i := 30) (v := ?_) rfl (by kernel_rfl) (by kernel_rfl) (by kernel_rfl) (fun _ _ _ h => h) (Or.inl ⟨by rfl, ?_⟩) (by assumption) ?_
      rotate_left
      · intro wq hSw; (try dsimp only at hSw); go_simp; (try with_reducible rfl)
      simp only [Act.put, List.getElem_toArray, List.getElem_cons_succ, List.getElem_cons_zero, List.setIfInBounds_toArray, List.set_cons_zero, List.set_cons_succ]
      refine wpAnyH_take (i := 31) (v := ?_) rfl (by kernel_rfl) (by kernel_rfl) (by kernel_rfl) (fun _ _ _ h => h) (Or.inl ⟨by rfl, ?_⟩) (by assumption) ?_
      rotate_left
      · intro wq hSw; (try dsimp only at hSw); go_simp; (try with_reducible rfl)
      simp only [Act.put, List.getElem_toArray, List.getElem_cons_succ, List.getElem_cons_zero, List.setIfInBounds_toArray, List.set_cons_zero, List.set_cons_succ]
      refine wpAnyH_take (i := 32) (v := ?_) rfl (by kernel_rfl) (by kernel_rfl) (by kernel_rfl) (fun _ _ _ h => h) (Or.inl ⟨by rfl, ?_⟩) (by assumption) ?_
      rotate_left
      · intro wq hSw; (try dsimp only at hSw); have hq := C7.out _ hSw; go_simp; (try with_reducible rfl)
      simp only [Act.put, List.getElem_toArray, List.getElem_cons_succ, List.getElem_cons_zero, List.setIfInBounds_toArray, List.set_cons_zero, List.set_cons_succ]
      refine wpAnyH_take (i := 33) (v := ?_) rfl (by kernel_rfl) (by kernel_rfl) (by kernel_rfl) (fun _ _ _ h => h) (Or.inl ⟨by rfl, ?_⟩) (by assumption) ?_
      rotate_left
      · intro wq hSw; (try dsimp only at hSw); go_simp; (try with_reducible rfl)
      simp only [Act.put, List.getElem_toArray, List.getElem_cons_succ, List.getElem_cons_zero, List.setIfInBounds_toArray, List.set_cons_zero, List.set_cons_succ]
      refine wpAnyH_take (i := 34) (v := ?_) rfl (by kernel_rfl) (by kernel_rfl) (by kernel_rfl) (fun _ _ _ h => h) (Or.inl ⟨by rfl, ?_⟩) (by assumption) ?_
      rotate_left
      · intro wq hSw; (try dsimp only at hSw); go_simp; (try with_reducible rfl)
      simp only [Act.put, List.getElem_toArray, List.getElem_cons_succ, List.getElem_cons_zero, List.setIfInBounds_toArray, List.set_cons_zero, List.set_cons_succ]
      refine wpAnyH_take (i := 35) (v := ?_) rfl (by kernel_rfl) (by kernel_rfl) (by kernel_rfl) (fun _ _ _ h => h) (Or.inl ⟨by rfl, ?_⟩) (by assumption) ?_
      rotate_left
      · intro wq hSw; (try dsimp only at hSw); go_simp; (try with_reducible rfl)
      simp only [Act.put, List.getElem_toArray, List.getElem_cons_succ, List.getElem_cons_zero, List.setIfInBounds_toArray, List.set_cons_zero, List.set_cons_succ]
      refine wpAnyH_take (i := 36) (v := ?_) rfl (by kernel_rfl) (by kernel_rfl) (by kernel_rfl) (fun _ _ _ h => h) (Or.inl ⟨by rfl, ?_⟩) (by assumption) ?_
      rotate_left
      · intro wq hSw; (try dsimp only at hSw); have hq := C8.out _ hSw; go_simp; (try with_reducible rfl)
      simp only [Act.put, List.getElem_toArray, List.getElem_cons_succ, List.getElem_cons_zero, List.setIfInBounds_toArray, List.set_cons_zero, List.set_cons_succ]
      refine wpAnyH_take (i := 37) (v := ?_) rfl (by kernel_rfl) (by kernel_rfl) (by kernel_rfl) (fun _ _ _ h => h) (Or.inl ⟨by rfl, ?_⟩) (by assumption) ?_
      rotate_left
      · intro wq hSw; (try dsimp only at hSw); go_simp; (try with_reducible rfl)
      simp only [Act.put, List.getElem_toArray, List.getElem_cons_succ, List.getElem_cons_zero, List.setIfInBounds_toArray, List.set_cons_zero, List.set_cons_succ]
      refine wpAnyH_take (i := 38) (v := ?_) rfl (by kernel_rfl) (by kernel_rfl) (by kernel_rfl) (fun _ _ _ h => h) (Or.inl ⟨by rfl, ?_⟩) (by assumption) ?_
      rotate_left
      · intro wq hSw; (try dsimp only at hSw); go_simp; (try with_reducible rfl)
      simp only [Act.put, List.getElem_toArray, List.getElem_cons_succ, List.getElem_cons_zero, List.setIfInBounds_toArray, List.set_cons_zero, List.set_cons_succ]
      refine wpAnyH_ready (rs := [24, 40]) (by kernel_rfl) (by simp) ?_
      refine AllReadyH.cons rfl (fun K hK => ?_) (AllReadyH.cons rfl (fun K hK => ?_) (AllReadyH.nil))
      · go_simp
        refine (HN _).mono ?_
        rintro e w' ⟨rfl, rfl⟩
        (try go_wp2_with fail)
        refine hK.out _ _ ?_ (fun hHeld => ?_)
        · exact hHeld
        clear hK K
        try simp only [Act.put, List.getElem_toArray, List.getElem_cons_succ, List.getElem_cons_zero, List.setIfInBounds_toArray, List.set_cons_zero, List.set_cons_succ]
        refine wpAnyH_take (i := 39) (v := ?_) rfl (by kernel_rfl) (by kernel_rfl) (by kernel_rfl) (fun _ _ _ h => h) (Or.inl ⟨by rfl, ?_⟩) (by assumption) ?_
        rotate_left
        · intro wq hSw; (try dsimp only at hSw); go_simp; (try with_reducible rfl)
        simp only [Act.put, List.getElem_toArray, List.getElem_cons_succ, List.getElem_cons_zero, List.setIfInBounds_toArray, List.set_cons_zero, List.set_cons_succ]
        refine wpAnyH_ready (rs := [40]) (by kernel_rfl) (by simp) ?_
        refine AllReadyH.cons rfl (fun K hK => ?_) AllReadyH.nil
        go_simp
        (try go_wp2_with fail)
        refine hK.out _ _ ?_ (fun hHeld => ?_)
        · exact hHeld.alloc _
        clear hK K
        try simp only [Act.put, List.getElem_toArray, List.getElem_cons_succ, List.getElem_cons_zero, List.setIfInBounds_toArray, List.set_cons_zero, List.set_cons_succ]
        refine wpAnyH_ready (rs := [41]) (by kernel_rfl) (by simp) ?_
        refine AllReadyH.cons rfl (fun K hK => ?_) AllReadyH.nil
        go_simp
        (try go_wp2_with fail)
        refine hK.out _ _ ?_ (fun hHeld => ?_)
        · exact (hA.alloc _)
        clear hK K
        try simp only [Act.put, List.getElem_toArray, List.getElem_cons_succ, List.getElem_cons_zero, List.setIfInBounds_toArray, List.set_cons_zero, List.set_cons_succ]
        refine wpAnyH_done (by kernel_rfl) ?_ _
        clear hHeld
        go_wp2_with fail
        go_meet
        exact ⟨_, rfl, ⟨hA.alloc _, hres.same (Below.heap_alloc _ _ _ hres.lt), blk_new _ _ _, hlt, (hB.alloc hB.size _).drew⟩⟩
      · go_simp
        (try go_wp2_with fail)
        refine hK.out _ _ ?_ (fun hHeld => ?_)
        · exact hHeld.alloc _
        clear hK K
        try simp only [Act.put, List.getElem_toArray, List.getElem_cons_succ, List.getElem_cons_zero, List.setIfInBounds_toArray, List.set_cons_zero, List.set_cons_succ]
        refine wpAnyH_ready (rs := [24]) (by kernel_rfl) (by simp) ?_
        refine AllReadyH.cons rfl (fun K hK => ?_) AllReadyH.nil
        go_simp
        refine (HN _).mono ?_
        rintro e w' ⟨rfl, rfl⟩
        (try go_wp2_with fail)
        refine hK.out _ _ ?_ (fun hHeld => ?_)
        · exact hHeld
        clear hK K
        try simp only [Act.put, List.getElem_toArray, List.getElem_cons_succ, List.getElem_cons_zero, List.setIfInBounds_toArray, List.set_cons_zero, List.set_cons_succ]
        refine wpAnyH_take (i := 39) (v := ?_) rfl (by kernel_rfl) (by kernel_rfl) (by kernel_rfl) (fun _ _ _ h => h) (Or.inl ⟨by rfl, ?_⟩) (by assumption) ?_
        rotate_left
        · intro wq hSw; (try dsimp only at hSw); go_simp; (try with_reducible rfl)
        simp only [Act.put, List.getElem_toArray, List.getElem_cons_succ, List.getElem_cons_zero, List.setIfInBounds_toArray, List.set_cons_zero, List.set_cons_succ]
        refine wpAnyH_ready (rs := [41]) (by kernel_rfl) (by simp) ?_
        refine AllReadyH.cons rfl (fun K hK => ?_) AllReadyH.nil
        go_simp
        (try go_wp2_with fail)
        refine hK.out _ _ ?_ (fun hHeld => ?_)
        · exact (hA.alloc _)
        clear hK K
        try simp only [Act.put, List.getElem_toArray, List.getElem_cons_succ, List.getElem_cons_zero, List.setIfInBounds_toArray, List.set_cons_zero, List.set_cons_succ]
        refine wpAnyH_done (by kernel_rfl) ?_ _
        clear hHeld
        go_wp2_with fail
        go_meet
        exact ⟨_, rfl, ⟨hA.alloc _, hres.same (Below.heap_alloc _ _ _ hres.lt), blk_new _ _ _, hlt, (hB.alloc hB.size _).drew⟩⟩
    case rest =>
      obtain ⟨g, rfl, hSt⟩ := hcut
      have HZ := Lib.hid hSt
      have q8 := C8.out _ hSt.arr
      have q9 := C9.out _ hSt.arr
      have z9 := hSt.sp.cell 9 rfl
      have y9 := hSt.sp.free 9
      clear hSt
      go_upto_if 64 with fail
      go_cut [5] (fun s5' wx => s5' = .pointer (some ⟨g, 0, none⟩) ∧ St w wx cs g (spCells m0 lo id m4 s5 (x6 : Int) stp bad none 0 0 rv))
      case first =>
        by_cases e8 : 200 < x8
        · have d8 : decide ((200 : Int) < (x8 : Int)) = true := by simp; omega
          have hv := HRV.out
          rw [if_pos e8] at hv
          have u1 : IntKind.u64.wrap (x9 : Int) = (x9 : Int) := IntWalk.u64_in _ (by omega)
          have u2 : IntKind.u64.wrap ((x9 : Int) * 281474976710656) = (x9 : Int) * 281474976710656 := IntWalk.u64_in _ (by omega)
          have u3 : IntKind.u64.wrap ((x9 : Int) * 281474976710656 + 1) = (rv : Int) := by rw [IntWalk.u64_in _ (by omega)]; omega
          clear hv
          go_wp2_with fail
          go_meet
          exact ⟨rfl, HZ.out.set 9 _⟩
        · have d8 : decide ((200 : Int) < (x8 : Int)) = false := by simp; omega
          have hv := HRV.out
          rw [if_neg e8] at hv
          subst hv
          go_wp2_with fail
          go_meet
          exact ⟨rfl, HZ.out⟩
      case rest =>
        obtain ⟨rfl, hSt⟩ := hcut
        have HZ1 := Lib.hid hSt
        have q10 := C10.out _ hSt.arr
        have z8 := hSt.sp.cell 8 rfl
        have hf := hSt.far
        have hglt := hSt.sp.lt
        obtain ⟨l1, hl1⟩ : ∃ l : List Attr, (if m10 = 0 then [] else [(keyA, s11)]) = l := ⟨_, rfl⟩
        have HL1 := Lib.hid hl1
        clear hSt hl1
        go_upto_if 74 with fail
        go_cut [5] (fun s5' wx => s5' = .pointer (some ⟨g, 0, none⟩) ∧ ∃ A1 n1 c1, St w wx cs g (spCells m0 lo id m4 s5 (x6 : Int) stp bad A1 n1 c1 rv) ∧ n1 = l1.length ∧ wx.ownsRow w.heap.size 65 2 (.slice A1 n1 c1) n1 (aCells l1) ∧ Past g (.slice A1 n1 c1))
        case first =>
          by_cases e10 : m10 = 0
          · have d10 : decide ((0 : Int) < (m10 : Int)) = false := by simp; omega
            have d10n : decide (0 < m10) = false := by simp; omega
            have d10p : ¬ 0 < m10 := by omega
            have hv := HL1.out
            rw [if_pos e10] at hv
            subst hv
            clear e10
            go_wp2_with fail
            go_meet
            exact ⟨rfl, none, 0, 0, HZ1.out, rfl, World.ownsRow_nil _ _ _ _, fun k hk => by simp [Value.ownBlock] at hk⟩
          · have d10 : decide ((0 : Int) < (m10 : Int)) = true := by simp; omega
            have d10n : decide (0 < m10) = true := by simp; omega
            have d10p : 0 < m10 := by omega
            have hv := HL1.out
            rw [if_neg e10] at hv
            subst hv
            clear e10
            have HN11 := fun W => name_any x11 l11 W
            rw [HS11.out] at HN11
            go_wp2_with fail
            refine RegionBut.region_but 9 (S := fun W => Arr W (w.heap.size + 1) 12 (fun j => cs.getD j 0) ∧ W.cell? ⟨g, 8, none⟩ = some (.slice none 0 0)) (by kernel_rfl) ?_ (fun hHeld => ?_)
            · exact ⟨HZ1.out.arr, z8⟩
            refine RegionBut.but_take (i := 0) (v := ?_) rfl (by kernel_rfl) (by kernel_rfl) (by kernel_rfl) (by kernel_rfl) (fun _ _ _ h => h) (Or.inl ⟨by rfl, ?_⟩) (by assumption) ?_
            rotate_left
            · intro wq hSw; (try dsimp only at hSw); go_simp; (try with_reducible rfl)
            simp only [Act.put, List.getElem_toArray, List.getElem_cons_succ, List.getElem_cons_zero, List.setIfInBounds_toArray, List.set_cons_zero, List.set_cons_succ]
            refine RegionBut.but_take (i := 1) (v := ?_) rfl (by kernel_rfl) (by kernel_rfl) (by kernel_rfl) (by kernel_rfl) (fun _ _ _ h => h) (Or.inl ⟨by rfl, ?_⟩) (by assumption) ?_
            rotate_left
            · intro wq hSw; (try dsimp only at hSw); have hq := hSw.2; go_simp; (try with_reducible rfl)
            simp only [Act.put, List.getElem_toArray, List.getElem_cons_succ, List.getElem_cons_zero, List.setIfInBounds_toArray, List.set_cons_zero, List.set_cons_succ]
            refine RegionBut.but_take (i := 2) (v := ?_) rfl (by kernel_rfl) (by kernel_rfl) (by kernel_rfl) (by kernel_rfl) (fun _ _ _ h => h) (Or.inl ⟨by rfl, ?_⟩) (by assumption) ?_
            rotate_left
            · intro wq hSw; (try dsimp only at hSw); go_simp; (try with_reducible rfl)
            simp only [Act.put, List.getElem_toArray, List.getElem_cons_succ, List.getElem_cons_zero, List.setIfInBounds_toArray, List.set_cons_zero, List.set_cons_succ]
            refine RegionBut.but_take (i := 3) (v := ?_) rfl (by kernel_rfl) (by kernel_rfl) (by kernel_rfl) (by kernel_rfl) (fun _ _ _ h => h) (Or.inl ⟨by rfl, ?_⟩) (by assumption) ?_
            rotate_left
            · intro wq hSw; (try dsimp only at hSw); have hq := C11.out _ hSw.1; go_simp; (try with_reducible rfl)
            simp only [Act.put, List.getElem_toArray, List.getElem_cons_succ, List.getElem_cons_zero, List.setIfInBounds_toArray, List.set_cons_zero, List.set_cons_succ]
            refine RegionBut.but_ready (rs := [4]) (by kernel_rfl) (by simp) ?_
            refine RegionBut.Nexts.cons rfl (fun K hK => ?_) RegionBut.Nexts.nil
            go_simp
            refine (HN11 _).mono ?_
            rintro e w' ⟨rfl, rfl⟩
            (try go_wp2_with fail)
            refine hK.out _ _ ?_ (fun hHeld => ?_)
            · exact hHeld
            clear hK K
            try simp only [Act.put, List.getElem_toArray, List.getElem_cons_succ, List.getElem_cons_zero, List.setIfInBounds_toArray, List.set_cons_zero, List.set_cons_succ]
            refine RegionBut.but_take (i := 5) (v := ?_) rfl (by kernel_rfl) (by kernel_rfl) (by kernel_rfl) (by kernel_rfl) (fun _ _ _ h => h) (Or.inl ⟨by rfl, ?_⟩) (by assumption) ?_
            rotate_left
            · intro wq hSw; (try dsimp only at hSw); go_simp; (try with_reducible rfl)
            simp only [Act.put, List.getElem_toArray, List.getElem_cons_succ, List.getElem_cons_zero, List.setIfInBounds_toArray, List.set_cons_zero, List.set_cons_succ]
            refine RegionBut.but_ready (rs := [6]) (by kernel_rfl) (by simp) ?_
            refine RegionBut.Nexts.cons rfl (fun K hK => ?_) RegionBut.Nexts.nil
            go_simp
            (try go_wp2_with fail)
            refine hK.out _ _ ?_ (fun hHeld => ?_)
            · exact ⟨HZ1.out.arr.alloc _, (HZ1.out.alloc _).sp.cell 8 rfl⟩
            clear hK K
            try simp only [Act.put, List.getElem_toArray, List.getElem_cons_succ, List.getElem_cons_zero, List.setIfInBounds_toArray, List.set_cons_zero, List.set_cons_succ]
            refine RegionBut.but_ready (rs := [7]) (by kernel_rfl) (by simp) ?_
            refine RegionBut.Nexts.cons rfl (fun K hK => ?_) RegionBut.Nexts.nil
            refine step_append_lies _ rfl (.tmp 76) (.tmp 81) 34 rfl w.heap.size 65 i1 (.agg #[.string ⟨#[]⟩, .string ⟨#[]⟩]) 2 32 Tryd.underlying34 ha0 ha1 ha2 ha3 rfl (by decide) (.slice none 0 0) 0 [] rfl (World.ownsRow_nil _ _ _ _) ⟨wc.heap.size, 0, none⟩ 1 1 [.string ⟨#[97]⟩, .string s11] rfl rfl (new_pair wc _ _ _) (by simp [Value.oneCell']) (by decide) (by unfold maxLen; decide) (by decide) ?_ (wc.heap.size + 1) ?_ ?_
            · have := (HZ1.out.alloc (.cells #[.string ⟨#[97]⟩, .string s11] 65)).below.size; exact this
            · simp
            intro g2 c2 w2 hown2 hgr2 hor2 hlt2
            have hS2 := (HZ1.out.alloc (.cells #[.string ⟨#[97]⟩, .string s11] 65)).drew.grown hgr2 (fun k hk => by simp [Value.ownBlock] at hk)
            have hg2 : g < g2 := by rcases hor2 with h | h; (simp [Value.ownBlock] at h); omega
            refine hK.out _ _ ?_ (fun hHeld => ?_)
            · exact ⟨hS2.arr, hS2.sp.cell 8 rfl⟩
            clear hK K
            try simp only [Act.put, List.getElem_toArray, List.getElem_cons_succ, List.getElem_cons_zero, List.setIfInBounds_toArray, List.set_cons_zero, List.set_cons_succ]
            refine RegionBut.but_take (i := 8) (v := ?_) rfl (by kernel_rfl) (by kernel_rfl) (by kernel_rfl) (by kernel_rfl) (fun _ _ _ h => h) (Or.inl ⟨by rfl, ?_⟩) (by assumption) ?_
            rotate_left
            · intro wq hSw; (try dsimp only at hSw); go_simp; (try with_reducible rfl)
            simp only [Act.put, List.getElem_toArray, List.getElem_cons_succ, List.getElem_cons_zero, List.setIfInBounds_toArray, List.set_cons_zero, List.set_cons_succ]
            refine RegionBut.but_ready (rs := [9]) (by kernel_rfl) (by simp) ?_
            refine RegionBut.Nexts.last rfl (fun K hK => ?_)
            have y8 := hS2.sp.free 8
            have z8' := hS2.sp.cell 8 rfl
            go_simp
            (try go_wp2_with fail)
            refine hK.out _ _ trivial (fun _ => ?_)
            clear hK K
            try simp only [Act.put, List.getElem_toArray, List.getElem_cons_succ, List.getElem_cons_zero, List.setIfInBounds_toArray, List.set_cons_zero, List.set_cons_succ]
            refine RegionBut.but_done (by kernel_rfl) ?_ _
            clear hHeld
            go_wp2_with fail
            go_meet
            exact ⟨rfl, some ⟨g2, 0, none⟩, 1, c2, hS2.set 8 _, rfl, ownsRow_setCell_other hown2 (by simp [Value.ownBlock]; omega) _, fun k hk => by simp [Value.ownBlock] at hk; omega⟩
        case rest =>
          obtain ⟨rfl, A1, n1, c1, hSt, hn1, hown1, hpast⟩ := hcut
          have HZ2 := Lib.hid hSt
          have HO1 := Lib.hid hown1
          have HN1 := Lib.hid hn1
          have q10 := C10.out _ hSt.arr
          have z8 := hSt.sp.cell 8 rfl
          have hglt := hSt.sp.lt
          clear hSt hown1 hn1
          go_upto_if 87 with fail
          go_cut [5] (fun s5' wx => s5' = .pointer (some ⟨g, 0, none⟩) ∧ ∃ A2 n2 c2, St w wx cs g (spCells m0 lo id m4 s5 (x6 : Int) stp bad A2 n2 c2 rv) ∧ n2 = at1.length ∧ wx.ownsRow w.heap.size 65 2 (.slice A2 n2 c2) n2 (aCells at1) ∧ Past g (.slice A2 n2 c2))
          case first =>
            by_cases e10 : m10 ≤ 1
            · have d10 : decide ((1 : Int) < (m10 : Int)) = false := by simp; omega
              have d10n : decide (1 < m10) = false := by simp; omega
              have d10p : ¬ 1 < m10 := by omega
              have hv : at1 = l1 := by
                rw [← HAT.out, ← HL1.out, HM10.out, HS11.out]
                rcases (by omega : m10 = 0 ∨ m10 = 1) with h | h <;> simp [h]
              subst hv
              go_wp2_with fail
              go_meet
              exact ⟨rfl, A1, n1, c1, HZ2.out, HN1.out, HO1.out, hpast⟩
            · have d10 : decide ((1 : Int) < (m10 : Int)) = true := by simp; omega
              have d10n : decide (1 < m10) = true := by simp; omega
              have d10p : 1 < m10 := by omega
              have hl1 : l1 = [(keyA, s11)] := by rw [← HL1.out, if_neg (by omega)]
              have hn1 : n1 = 1 := by rw [HN1.out, hl1]; rfl
              have hn1b : n1 ≤ 1 := by omega
              obtain ⟨kk, hkk⟩ : ∃ k : ByteArray, keyK x10 = k := ⟨_, rfl⟩
              obtain ⟨s10, hs10⟩ : ∃ s, nameOf x10 = s := ⟨_, rfl⟩
              obtain ⟨vv, hvv⟩ : ∃ v : ByteArray, valOf x11 = v := ⟨_, rfl⟩
              have hv : at1 = l1 ++ [(kk, vv)] := by
                rw [← HAT.out, hl1, HM10.out, HS11.out, if_neg (by omega), if_neg (by omega), hkk, hvv]; rfl
              have hcat : (⟨#[107]⟩ : ByteArray) ++ s10 = kk := by rw [← hkk, ← hs10]; rfl
              have hsz := nameOf_size l10
              rw [hs10] at hsz
              have hszn : ¬ (9223372036854775807 < 1 + s10.size) := by omega
              have HN10 := fun W => name_any x10 l10 W
              rw [hs10] at HN10
              have r3 : (m11 : Int) < 3 := by have := HM11.out; omega
              have r0 : 0 ≤ (m11 : Int) := by omega
              have hb : ∀ W : World, (W.alloc (.cells #[.string ⟨#[]⟩, .string ⟨#[118]⟩, .string ⟨#[0, 32, 255]⟩] 9)).cell? ⟨W.heap.size, m11, none⟩ = some (.string vv) := fun W => by
                rw [World.cell?_alloc_mark, ← hvv]
                unfold valOf
                rw [HM11.out]
                rcases (by omega : m11 = 0 ∨ m11 = 1 ∨ m11 = 2) with h | h | h <;> rw [h] <;> rfl
              have HV := Lib.hid hv
              have HNN := Lib.hid hn1
              have hS0 := HZ2.out
              have hSs := hS0.alloc (.cells #[.string ⟨#[]⟩, .string ⟨#[118]⟩, .string ⟨#[0, 32, 255]⟩] 9)
              have hSp := hSs.alloc (.cells #[.string kk, .string vv] 65)
              have HSs := Lib.hid hSs
              have HSp := Lib.hid hSp
              clear hv hn1 hl1 hkk hs10 hvv e10 hS0 hSs hSp
              go_wp2_with fail
              refine RegionBut.region_but 16 (S := fun W => Arr W (w.heap.size + 1) 12 (fun j => cs.getD j 0) ∧ W.cell? ⟨g, 8, none⟩ = some (.slice A1 n1 c1)) (by kernel_rfl) ?_ (fun hHeld => ?_)
              · exact ⟨HZ2.out.arr, z8⟩
              refine RegionBut.but_take (i := 0) (v := ?_) rfl (by kernel_rfl) (by kernel_rfl) (by kernel_rfl) (by kernel_rfl) (fun _ _ _ h => h) (Or.inl ⟨by rfl, ?_⟩) (by assumption) ?_
              rotate_left
              · intro wq hSw; (try dsimp only at hSw); go_simp; (try with_reducible rfl)
              simp only [Act.put, List.getElem_toArray, List.getElem_cons_succ, List.getElem_cons_zero, List.setIfInBounds_toArray, List.set_cons_zero, List.set_cons_succ]
              refine RegionBut.but_take (i := 1) (v := ?_) rfl (by kernel_rfl) (by kernel_rfl) (by kernel_rfl) (by kernel_rfl) (fun _ _ _ h => h) (Or.inl ⟨by rfl, ?_⟩) (by assumption) ?_
              rotate_left
              · intro wq hSw; (try dsimp only at hSw); have hq := hSw.2; go_simp; (try with_reducible rfl)
              simp only [Act.put, List.getElem_toArray, List.getElem_cons_succ, List.getElem_cons_zero, List.setIfInBounds_toArray, List.set_cons_zero, List.set_cons_succ]
              refine RegionBut.but_take (i := 2) (v := ?_) rfl (by kernel_rfl) (by kernel_rfl) (by kernel_rfl) (by kernel_rfl) (fun _ _ _ h => h) (Or.inl ⟨by rfl, ?_⟩) (by assumption) ?_
              rotate_left
              · intro wq hSw; (try dsimp only at hSw); go_simp; (try with_reducible rfl)
              simp only [Act.put, List.getElem_toArray, List.getElem_cons_succ, List.getElem_cons_zero, List.setIfInBounds_toArray, List.set_cons_zero, List.set_cons_succ]
              refine RegionBut.but_take (i := 3) (v := ?_) rfl (by kernel_rfl) (by kernel_rfl) (by kernel_rfl) (by kernel_rfl) (fun _ _ _ h => h) (Or.inl ⟨by rfl, ?_⟩) (by assumption) ?_
              rotate_left
              · intro wq hSw; (try dsimp only at hSw); have hq := C10.out _ hSw.1; go_simp; (try with_reducible rfl)
              simp only [Act.put, List.getElem_toArray, List.getElem_cons_succ, List.getElem_cons_zero, List.setIfInBounds_toArray, List.set_cons_zero, List.set_cons_succ]
              refine RegionBut.but_take (i := 7) (v := ?_) rfl (by kernel_rfl) (by kernel_rfl) (by kernel_rfl) (by kernel_rfl) (fun _ _ _ h => h) (Or.inl ⟨by rfl, ?_⟩) (by assumption) ?_
              rotate_left
              · intro wq hSw; (try dsimp only at hSw); go_simp; (try with_reducible rfl)
              simp only [Act.put, List.getElem_toArray, List.getElem_cons_succ, List.getElem_cons_zero, List.setIfInBounds_toArray, List.set_cons_zero, List.set_cons_succ]
              refine RegionBut.but_take (i := 8) (v := ?_) rfl (by kernel_rfl) (by kernel_rfl) (by kernel_rfl) (by kernel_rfl) (fun _ _ _ h => h) (Or.inl ⟨by rfl, ?_⟩) (by assumption) ?_
              rotate_left
              · intro wq hSw; (try dsimp only at hSw); have hq := C11.out _ hSw.1; go_simp; (try with_reducible rfl)
              simp only [Act.put, List.getElem_toArray, List.getElem_cons_succ, List.getElem_cons_zero, List.setIfInBounds_toArray, List.set_cons_zero, List.set_cons_succ]
              refine RegionBut.but_take (i := 9) (v := ?_) rfl (by kernel_rfl) (by kernel_rfl) (by kernel_rfl) (by kernel_rfl) (fun _ _ _ h => h) (Or.inl ⟨by rfl, ?_⟩) (by assumption) ?_
              rotate_left
              · intro wq hSw; (try dsimp only at hSw); go_simp; (try with_reducible rfl)
              simp only [Act.put, List.getElem_toArray, List.getElem_cons_succ, List.getElem_cons_zero, List.setIfInBounds_toArray, List.set_cons_zero, List.set_cons_succ]
              refine RegionBut.but_ready (rs := [4, 6]) (by kernel_rfl) (by simp) ?_
              refine RegionBut.Nexts.cons rfl (fun K hK => ?_) (RegionBut.Nexts.cons rfl (fun K hK => ?_) (RegionBut.Nexts.nil))
              · go_simp
                refine (HN10 _).mono ?_
                rintro e w' ⟨rfl, rfl⟩
                (try go_wp2_with fail)
                refine hK.out _ _ ?_ (fun hHeld => ?_)
                · exact hHeld
                clear hK K
                try simp only [Act.put, List.getElem_toArray, List.getElem_cons_succ, List.getElem_cons_zero, List.setIfInBounds_toArray, List.set_cons_zero, List.set_cons_succ]
                refine RegionBut.but_take (i := 5) (v := ?_) rfl (by kernel_rfl) (by kernel_rfl) (by kernel_rfl) (by kernel_rfl) (fun _ _ _ h => h) (Or.inl ⟨by rfl, ?_⟩) (by assumption) ?_
                rotate_left
                · intro wq hSw; (try dsimp only at hSw); go_simp; (try with_reducible rfl)
                simp only [Act.put, List.getElem_toArray, List.getElem_cons_succ, List.getElem_cons_zero, List.setIfInBounds_toArray, List.set_cons_zero, List.set_cons_succ]
                refine RegionBut.but_ready (rs := [6]) (by kernel_rfl) (by simp) ?_
                refine RegionBut.Nexts.cons rfl (fun K hK => ?_) RegionBut.Nexts.nil
                go_simp
                (try go_wp2_with fail)
                refine hK.out _ _ ?_ (fun hHeld => ?_)
                · exact ⟨HSs.out.arr, HSs.out.sp.cell 8 rfl⟩
                clear hK K
                try simp only [Act.put, List.getElem_toArray, List.getElem_cons_succ, List.getElem_cons_zero, List.setIfInBounds_toArray, List.set_cons_zero, List.set_cons_succ]
                refine RegionBut.but_take (i := 10) (v := ?_) rfl (by kernel_rfl) (by kernel_rfl) (by kernel_rfl) (by kernel_rfl) (fun _ _ _ h => h) (Or.inl ⟨by rfl, ?_⟩) (by assumption) ?_
                rotate_left
                · intro wq hSw; (try dsimp only at hSw); go_simp; (try with_reducible rfl)
                simp only [Act.put, List.getElem_toArray, List.getElem_cons_succ, List.getElem_cons_zero, List.setIfInBounds_toArray, List.set_cons_zero, List.set_cons_succ]
                refine RegionBut.but_ready (rs := [11]) (by kernel_rfl) (by simp) ?_
                refine RegionBut.Nexts.cons rfl (fun K hK => ?_) RegionBut.Nexts.nil
                go_simp
                (try go_wp2_with fail)
                refine hK.out _ _ ?_ (fun hHeld => ?_)
                · exact hHeld
                clear hK K
                try simp only [Act.put, List.getElem_toArray, List.getElem_cons_succ, List.getElem_cons_zero, List.setIfInBounds_toArray, List.set_cons_zero, List.set_cons_succ]
                refine RegionBut.but_take (i := 12) (v := ?_) rfl (by kernel_rfl) (by kernel_rfl) (by kernel_rfl) (by kernel_rfl) (fun _ _ _ h => h) (Or.inl ⟨by rfl, ?_⟩) (by assumption) ?_
                rotate_left
                · intro wq hSw; (try dsimp only at hSw); go_simp; (try with_reducible rfl)
                simp only [Act.put, List.getElem_toArray, List.getElem_cons_succ, List.getElem_cons_zero, List.setIfInBounds_toArray, List.set_cons_zero, List.set_cons_succ]
                refine RegionBut.but_ready (rs := [13]) (by kernel_rfl) (by simp) ?_
                refine RegionBut.Nexts.cons rfl (fun K hK => ?_) RegionBut.Nexts.nil
                go_simp
                (try go_wp2_with fail)
                refine hK.out _ _ ?_ (fun hHeld => ?_)
                · exact ⟨HSp.out.arr, HSp.out.sp.cell 8 rfl⟩
                clear hK K
                try simp only [Act.put, List.getElem_toArray, List.getElem_cons_succ, List.getElem_cons_zero, List.setIfInBounds_toArray, List.set_cons_zero, List.set_cons_succ]
                refine RegionBut.but_ready (rs := [14]) (by kernel_rfl) (by simp) ?_
                refine RegionBut.Nexts.cons rfl (fun K hK => ?_) RegionBut.Nexts.nil
                refine step_append_lies _ rfl (.tmp 89) (.tmp 101) 34 rfl w.heap.size 65 i1 (.agg #[.string ⟨#[]⟩, .string ⟨#[]⟩]) 2 32 Tryd.underlying34 ha0 ha1 ha2 ha3 rfl (by decide) (.slice A1 n1 c1) n1 (aCells l1) rfl ((HO1.out.alloc _).alloc _) ⟨wc.heap.size + 1, 0, none⟩ 1 1 [.string kk, .string vv] rfl rfl (new_pair_at (wc.alloc (.cells #[.string ⟨#[]⟩, .string ⟨#[118]⟩, .string ⟨#[0, 32, 255]⟩] 9)) (wc.heap.size + 1) (by simp) _ _ _) (by simp [Value.oneCell']) (by decide) (by unfold maxLen; omega) (by omega) ?_ (wc.heap.size + 2) ?_ ?_
                · exact HSp.out.below.size
                · simp
                intro g2 c2 w2 hown2 hgr2 hor2 hlt2
                have hS2 := HSp.out.drew.grown hgr2 hpast
                have hg2 : g < g2 := by rcases hor2 with h | h; exact hpast _ h; omega
                refine hK.out _ _ ?_ (fun hHeld => ?_)
                · exact ⟨hS2.arr, hS2.sp.cell 8 rfl⟩
                clear hK K
                try simp only [Act.put, List.getElem_toArray, List.getElem_cons_succ, List.getElem_cons_zero, List.setIfInBounds_toArray, List.set_cons_zero, List.set_cons_succ]
                refine RegionBut.but_take (i := 15) (v := ?_) rfl (by kernel_rfl) (by kernel_rfl) (by kernel_rfl) (by kernel_rfl) (fun _ _ _ h => h) (Or.inl ⟨by rfl, ?_⟩) (by assumption) ?_
                rotate_left
                · intro wq hSw; (try dsimp only at hSw); go_simp; (try with_reducible rfl)
                simp only [Act.put, List.getElem_toArray, List.getElem_cons_succ, List.getElem_cons_zero, List.setIfInBounds_toArray, List.set_cons_zero, List.set_cons_succ]
                refine RegionBut.but_ready (rs := [16]) (by kernel_rfl) (by simp) ?_
                refine RegionBut.Nexts.last rfl (fun K hK => ?_)
                have y8 := hS2.sp.free 8
                have z8' := hS2.sp.cell 8 rfl
                go_simp
                (try go_wp2_with fail)
                refine hK.out _ _ trivial (fun _ => ?_)
                clear hK K
                try simp only [Act.put, List.getElem_toArray, List.getElem_cons_succ, List.getElem_cons_zero, List.setIfInBounds_toArray, List.set_cons_zero, List.set_cons_succ]
                refine RegionBut.but_done (by kernel_rfl) ?_ _
                clear hHeld
                go_wp2_with fail
                go_meet
                exact ⟨rfl, some ⟨g2, 0, none⟩, n1 + 1, c2, hS2.set 8 _, by rw [HV.out, HN1.out]; simp, by rw [HV.out]; have h := ownsRow_setCell_other hown2 (a := ⟨g, 8, none⟩) (by simp [Value.ownBlock]; omega) (.slice (some ⟨g2, 0, none⟩) (n1 + 1) c2); simpa [aCells] using h, fun k hk => by simp [Value.ownBlock] at hk; omega⟩
              · go_simp
                (try go_wp2_with fail)
                refine hK.out _ _ ?_ (fun hHeld => ?_)
                · exact ⟨HSs.out.arr, HSs.out.sp.cell 8 rfl⟩
                clear hK K
                try simp only [Act.put, List.getElem_toArray, List.getElem_cons_succ, List.getElem_cons_zero, List.setIfInBounds_toArray, List.set_cons_zero, List.set_cons_succ]
                refine RegionBut.but_take (i := 10) (v := ?_) rfl (by kernel_rfl) (by kernel_rfl) (by kernel_rfl) (by kernel_rfl) (fun _ _ _ h => h) (Or.inl ⟨by rfl, ?_⟩) (by assumption) ?_
                rotate_left
                · intro wq hSw; (try dsimp only at hSw); go_simp; (try with_reducible rfl)
                simp only [Act.put, List.getElem_toArray, List.getElem_cons_succ, List.getElem_cons_zero, List.setIfInBounds_toArray, List.set_cons_zero, List.set_cons_succ]
                refine RegionBut.but_ready (rs := [4, 11]) (by kernel_rfl) (by simp) ?_
                refine RegionBut.Nexts.cons rfl (fun K hK => ?_) (RegionBut.Nexts.cons rfl (fun K hK => ?_) (RegionBut.Nexts.nil))
                · go_simp
                  refine (HN10 _).mono ?_
                  rintro e w' ⟨rfl, rfl⟩
                  (try go_wp2_with fail)
                  refine hK.out _ _ ?_ (fun hHeld => ?_)
                  · exact hHeld
                  clear hK K
                  try simp only [Act.put, List.getElem_toArray, List.getElem_cons_succ, List.getElem_cons_zero, List.setIfInBounds_toArray, List.set_cons_zero, List.set_cons_succ]
                  refine RegionBut.but_take (i := 5) (v := ?_) rfl (by kernel_rfl) (by kernel_rfl) (by kernel_rfl) (by kernel_rfl) (fun _ _ _ h => h) (Or.inl ⟨by rfl, ?_⟩) (by assumption) ?_
                  rotate_left
                  · intro wq hSw; (try dsimp only at hSw); go_simp; (try with_reducible rfl)
                  simp only [Act.put, List.getElem_toArray, List.getElem_cons_succ, List.getElem_cons_zero, List.setIfInBounds_toArray, List.set_cons_zero, List.set_cons_succ]
                  refine RegionBut.but_ready (rs := [11]) (by kernel_rfl) (by simp) ?_
                  refine RegionBut.Nexts.cons rfl (fun K hK => ?_) RegionBut.Nexts.nil
                  go_simp
                  (try go_wp2_with fail)
                  refine hK.out _ _ ?_ (fun hHeld => ?_)
                  · exact hHeld
                  clear hK K
                  try simp only [Act.put, List.getElem_toArray, List.getElem_cons_succ, List.getElem_cons_zero, List.setIfInBounds_toArray, List.set_cons_zero, List.set_cons_succ]
                  refine RegionBut.but_take (i := 12) (v := ?_) rfl (by kernel_rfl) (by kernel_rfl) (by kernel_rfl) (by kernel_rfl) (fun _ _ _ h => h) (Or.inl ⟨by rfl, ?_⟩) (by assumption) ?_
                  rotate_left
                  · intro wq hSw; (try dsimp only at hSw); go_simp; (try with_reducible rfl)
                  simp only [Act.put, List.getElem_toArray, List.getElem_cons_succ, List.getElem_cons_zero, List.setIfInBounds_toArray, List.set_cons_zero, List.set_cons_succ]
                  refine RegionBut.but_ready (rs := [13]) (by kernel_rfl) (by simp) ?_
                  refine RegionBut.Nexts.cons rfl (fun K hK => ?_) RegionBut.Nexts.nil
                  go_simp
                  (try go_wp2_with fail)
                  refine hK.out _ _ ?_ (fun hHeld => ?_)
                  · exact ⟨HSp.out.arr, HSp.out.sp.cell 8 rfl⟩
                  clear hK K
                  try simp only [Act.put, List.getElem_toArray, List.getElem_cons_succ, List.getElem_cons_zero, List.setIfInBounds_toArray, List.set_cons_zero, List.set_cons_succ]
                  refine RegionBut.but_ready (rs := [14]) (by kernel_rfl) (by simp) ?_
                  refine RegionBut.Nexts.cons rfl (fun K hK => ?_) RegionBut.Nexts.nil
                  refine step_append_lies _ rfl (.tmp 89) (.tmp 101) 34 rfl w.heap.size 65 i1 (.agg #[.string ⟨#[]⟩, .string ⟨#[]⟩]) 2 32 Tryd.underlying34 ha0 ha1 ha2 ha3 rfl (by decide) (.slice A1 n1 c1) n1 (aCells l1) rfl ((HO1.out.alloc _).alloc _) ⟨wc.heap.size + 1, 0, none⟩ 1 1 [.string kk, .string vv] rfl rfl (new_pair_at (wc.alloc (.cells #[.string ⟨#[]⟩, .string ⟨#[118]⟩, .string ⟨#[0, 32, 255]⟩] 9)) (wc.heap.size + 1) (by simp) _ _ _) (by simp [Value.oneCell']) (by decide) (by unfold maxLen; omega) (by omega) ?_ (wc.heap.size + 2) ?_ ?_
                  · exact HSp.out.below.size
                  · simp
                  intro g2 c2 w2 hown2 hgr2 hor2 hlt2
                  have hS2 := HSp.out.drew.grown hgr2 hpast
                  have hg2 : g < g2 := by rcases hor2 with h | h; exact hpast _ h; omega
                  refine hK.out _ _ ?_ (fun hHeld => ?_)
                  · exact ⟨hS2.arr, hS2.sp.cell 8 rfl⟩
                  clear hK K
                  try simp only [Act.put, List.getElem_toArray, List.getElem_cons_succ, List.getElem_cons_zero, List.setIfInBounds_toArray, List.set_cons_zero, List.set_cons_succ]
                  refine RegionBut.but_take (i := 15) (v := ?_) rfl (by kernel_rfl) (by kernel_rfl) (by kernel_rfl) (by kernel_rfl) (fun _ _ _ h => h) (Or.inl ⟨by rfl, ?_⟩) (by assumption) ?_
                  rotate_left
                  · intro wq hSw; (try dsimp only at hSw); go_simp; (try with_reducible rfl)
                  simp only [Act.put, List.getElem_toArray, List.getElem_cons_succ, List.getElem_cons_zero, List.setIfInBounds_toArray, List.set_cons_zero, List.set_cons_succ]
                  refine RegionBut.but_ready (rs := [16]) (by kernel_rfl) (by simp) ?_
                  refine RegionBut.Nexts.last rfl (fun K hK => ?_)
                  have y8 := hS2.sp.free 8
                  have z8' := hS2.sp.cell 8 rfl
                  go_simp
                  (try go_wp2_with fail)
                  refine hK.out _ _ trivial (fun _ => ?_)
                  clear hK K
                  try simp only [Act.put, List.getElem_toArray, List.getElem_cons_succ, List.getElem_cons_zero, List.setIfInBounds_toArray, List.set_cons_zero, List.set_cons_succ]
                  refine RegionBut.but_done (by kernel_rfl) ?_ _
                  clear hHeld
                  go_wp2_with fail
                  go_meet
                  exact ⟨rfl, some ⟨g2, 0, none⟩, n1 + 1, c2, hS2.set 8 _, by rw [HV.out, HN1.out]; simp, by rw [HV.out]; have h := ownsRow_setCell_other hown2 (a := ⟨g, 8, none⟩) (by simp [Value.ownBlock]; omega) (.slice (some ⟨g2, 0, none⟩) (n1 + 1) c2); simpa [aCells] using h, fun k hk => by simp [Value.ownBlock] at hk; omega⟩
                · go_simp
                  (try go_wp2_with fail)
                  refine hK.out _ _ ?_ (fun hHeld => ?_)
                  · exact hHeld
                  clear hK K
                  try simp only [Act.put, List.getElem_toArray, List.getElem_cons_succ, List.getElem_cons_zero, List.setIfInBounds_toArray, List.set_cons_zero, List.set_cons_succ]
                  refine RegionBut.but_ready (rs := [4]) (by kernel_rfl) (by simp) ?_
                  refine RegionBut.Nexts.cons rfl (fun K hK => ?_) RegionBut.Nexts.nil
                  go_simp
                  refine (HN10 _).mono ?_
                  rintro e w' ⟨rfl, rfl⟩
                  (try go_wp2_with fail)
                  refine hK.out _ _ ?_ (fun hHeld => ?_)
                  · exact hHeld
                  clear hK K
                  try simp only [Act.put, List.getElem_toArray, List.getElem_cons_succ, List.getElem_cons_zero, List.setIfInBounds_toArray, List.set_cons_zero, List.set_cons_succ]
                  refine RegionBut.but_take (i := 5) (v := ?_) rfl (by kernel_rfl) (by kernel_rfl) (by kernel_rfl) (by kernel_rfl) (fun _ _ _ h => h) (Or.inl ⟨by rfl, ?_⟩) (by assumption) ?_
                  rotate_left
                  · intro wq hSw; (try dsimp only at hSw); go_simp; (try with_reducible rfl)
                  simp only [Act.put, List.getElem_toArray, List.getElem_cons_succ, List.getElem_cons_zero, List.setIfInBounds_toArray, List.set_cons_zero, List.set_cons_succ]
                  refine RegionBut.but_take (i := 12) (v := ?_) rfl (by kernel_rfl) (by kernel_rfl) (by kernel_rfl) (by kernel_rfl) (fun _ _ _ h => h) (Or.inl ⟨by rfl, ?_⟩) (by assumption) ?_
                  rotate_left
                  · intro wq hSw; (try dsimp only at hSw); go_simp; (try with_reducible rfl)
                  simp only [Act.put, List.getElem_toArray, List.getElem_cons_succ, List.getElem_cons_zero, List.setIfInBounds_toArray, List.set_cons_zero, List.set_cons_succ]
                  refine RegionBut.but_ready (rs := [13]) (by kernel_rfl) (by simp) ?_
                  refine RegionBut.Nexts.cons rfl (fun K hK => ?_) RegionBut.Nexts.nil
                  go_simp
                  (try go_wp2_with fail)
                  refine hK.out _ _ ?_ (fun hHeld => ?_)
                  · exact ⟨HSp.out.arr, HSp.out.sp.cell 8 rfl⟩
                  clear hK K
                  try simp only [Act.put, List.getElem_toArray, List.getElem_cons_succ, List.getElem_cons_zero, List.setIfInBounds_toArray, List.set_cons_zero, List.set_cons_succ]
                  refine RegionBut.but_ready (rs := [14]) (by kernel_rfl) (by simp) ?_
                  refine RegionBut.Nexts.cons rfl (fun K hK => ?_) RegionBut.Nexts.nil
                  refine step_append_lies _ rfl (.tmp 89) (.tmp 101) 34 rfl w.heap.size 65 i1 (.agg #[.string ⟨#[]⟩, .string ⟨#[]⟩]) 2 32 Tryd.underlying34 ha0 ha1 ha2 ha3 rfl (by decide) (.slice A1 n1 c1) n1 (aCells l1) rfl ((HO1.out.alloc _).alloc _) ⟨wc.heap.size + 1, 0, none⟩ 1 1 [.string kk, .string vv] rfl rfl (new_pair_at (wc.alloc (.cells #[.string ⟨#[]⟩, .string ⟨#[118]⟩, .string ⟨#[0, 32, 255]⟩] 9)) (wc.heap.size + 1) (by simp) _ _ _) (by simp [Value.oneCell']) (by decide) (by unfold maxLen; omega) (by omega) ?_ (wc.heap.size + 2) ?_ ?_
                  · exact HSp.out.below.size
                  · simp
                  intro g2 c2 w2 hown2 hgr2 hor2 hlt2
                  have hS2 := HSp.out.drew.grown hgr2 hpast
                  have hg2 : g < g2 := by rcases hor2 with h | h; exact hpast _ h; omega
                  refine hK.out _ _ ?_ (fun hHeld => ?_)
                  · exact ⟨hS2.arr, hS2.sp.cell 8 rfl⟩
                  clear hK K
                  try simp only [Act.put, List.getElem_toArray, List.getElem_cons_succ, List.getElem_cons_zero, List.setIfInBounds_toArray, List.set_cons_zero, List.set_cons_succ]
                  refine RegionBut.but_take (i := 15) (v := ?_) rfl (by kernel_rfl) (by kernel_rfl) (by kernel_rfl) (by kernel_rfl) (fun _ _ _ h => h) (Or.inl ⟨by rfl, ?_⟩) (by assumption) ?_
                  rotate_left
                  · intro wq hSw; (try dsimp only at hSw); go_simp; (try with_reducible rfl)
                  simp only [Act.put, List.getElem_toArray, List.getElem_cons_succ, List.getElem_cons_zero, List.setIfInBounds_toArray, List.set_cons_zero, List.set_cons_succ]
                  refine RegionBut.but_ready (rs := [16]) (by kernel_rfl) (by simp) ?_
                  refine RegionBut.Nexts.last rfl (fun K hK => ?_)
                  have y8 := hS2.sp.free 8
                  have z8' := hS2.sp.cell 8 rfl
                  go_simp
                  (try go_wp2_with fail)
                  refine hK.out _ _ trivial (fun _ => ?_)
                  clear hK K
                  try simp only [Act.put, List.getElem_toArray, List.getElem_cons_succ, List.getElem_cons_zero, List.setIfInBounds_toArray, List.set_cons_zero, List.set_cons_succ]
                  refine RegionBut.but_done (by kernel_rfl) ?_ _
                  clear hHeld
                  go_wp2_with fail
                  go_meet
                  exact ⟨rfl, some ⟨g2, 0, none⟩, n1 + 1, c2, hS2.set 8 _, by rw [HV.out, HN1.out]; simp, by rw [HV.out]; have h := ownsRow_setCell_other hown2 (a := ⟨g, 8, none⟩) (by simp [Value.ownBlock]; omega) (.slice (some ⟨g2, 0, none⟩) (n1 + 1) c2); simpa [aCells] using h, fun k hk => by simp [Value.ownBlock] at hk; omega⟩
          case rest =>
            obtain ⟨rfl, A2, n2, c2, hSt, hn2, hown2, hpast2⟩ := hcut
            have v0 : wc.cell? ⟨g, 0, none⟩ = some (.int .u64 (m0 : Int)) := hSt.sp.cell 0 rfl
            have r0 : wc.cell? ⟨w.heap.size, 0, none⟩ = some (.int .u64 0) := hSt.res.cell 0 rfl
            have f0 := hSt.res.free 0
            have v1 : wc.cell? ⟨g, 1, none⟩ = some (.int .u64 (lo : Int)) := hSt.sp.cell 1 rfl
            have r1 : wc.cell? ⟨w.heap.size, 1, none⟩ = some (.int .u64 0) := hSt.res.cell 1 rfl
            have f1 := hSt.res.free 1
            have v2 : wc.cell? ⟨g, 2, none⟩ = some (.int .u64 (id : Int)) := hSt.sp.cell 2 rfl
            have r2 : wc.cell? ⟨w.heap.size, 2, none⟩ = some (.int .u64 0) := hSt.res.cell 2 rfl
            have f2 := hSt.res.free 2
            have v3 : wc.cell? ⟨g, 3, none⟩ = some (.int .u64 (m4 : Int)) := hSt.sp.cell 3 rfl
            have r3 : wc.cell? ⟨w.heap.size, 3, none⟩ = some (.int .u64 0) := hSt.res.cell 3 rfl
            have f3 := hSt.res.free 3
            have v4 : wc.cell? ⟨g, 4, none⟩ = some (.string s5) := hSt.sp.cell 4 rfl
            have r4 : wc.cell? ⟨w.heap.size, 4, none⟩ = some (.string ⟨#[]⟩) := hSt.res.cell 4 rfl
            have f4 := hSt.res.free 4
            have v5 : wc.cell? ⟨g, 5, none⟩ = some (.int .i64 (x6 : Int)) := hSt.sp.cell 5 rfl
            have r5 : wc.cell? ⟨w.heap.size, 5, none⟩ = some (.int .i64 0) := hSt.res.cell 5 rfl
            have f5 := hSt.res.free 5
            have v6 : wc.cell? ⟨g, 6, none⟩ = some (.int .i64 stp) := hSt.sp.cell 6 rfl
            have r6 : wc.cell? ⟨w.heap.size, 6, none⟩ = some (.int .i64 0) := hSt.res.cell 6 rfl
            have f6 := hSt.res.free 6
            have v7 : wc.cell? ⟨g, 7, none⟩ = some (.bool bad) := hSt.sp.cell 7 rfl
            have r7 : wc.cell? ⟨w.heap.size, 7, none⟩ = some (.bool false) := hSt.res.cell 7 rfl
            have f7 := hSt.res.free 7
            have v8 : wc.cell? ⟨g, 8, none⟩ = some (.slice A2 n2 c2) := hSt.sp.cell 8 rfl
            have r8 : wc.cell? ⟨w.heap.size, 8, none⟩ = some (.slice none 0 0) := hSt.res.cell 8 rfl
            have f8 := hSt.res.free 8
            have v9 : wc.cell? ⟨g, 9, none⟩ = some (.int .u64 (rv : Int)) := hSt.sp.cell 9 rfl
            have r9 : wc.cell? ⟨w.heap.size, 9, none⟩ = some (.int .u64 0) := hSt.res.cell 9 rfl
            have f9 := hSt.res.free 9
            have hB := hSt.below
            have hf := hSt.far
            have hne := hpast2.ne (b := w.heap.size) (by omega)
            have HO2 := Lib.hid hown2
            have HN2 := Lib.hid hn2
            clear hown2 hn2 hSt
            go_wp2_with fail
            exact bodyPost_ret (v := .agg #[.int .u64 (m0 : Int), .int .u64 (lo : Int), .int .u64 (id : Int), .int .u64 (m4 : Int), .string s5, .int .i64 (x6 : Int), .int .i64 stp, .bool bad, .slice A2 n2 c2, .int .u64 (rv : Int)]) (by simp [results, Tryd.results20, go_sem, r0, r1, r2, r3, r4, r5, r6, r7, r8, r9]) rfl ⟨A2, n2, c2, rfl, HN2.out, (ownsRow_setCell_other (ownsRow_setCell_other (ownsRow_setCell_other (ownsRow_setCell_other (ownsRow_setCell_other (ownsRow_setCell_other (ownsRow_setCell_other (ownsRow_setCell_other (ownsRow_setCell_other (ownsRow_setCell_other HO2.out (a := ⟨w.heap.size, 0, none⟩) hne _) (a := ⟨w.heap.size, 1, none⟩) hne _) (a := ⟨w.heap.size, 2, none⟩) hne _) (a := ⟨w.heap.size, 3, none⟩) hne _) (a := ⟨w.heap.size, 4, none⟩) hne _) (a := ⟨w.heap.size, 5, none⟩) hne _) (a := ⟨w.heap.size, 6, none⟩) hne _) (a := ⟨w.heap.size, 7, none⟩) hne _) (a := ⟨w.heap.size, 8, none⟩) hne _) (a := ⟨w.heap.size, 9, none⟩) hne _), ((((((((((hB.setCell (p := ⟨w.heap.size, 0, none⟩) (Nat.le_refl _) _).setCell (p := ⟨w.heap.size, 1, none⟩) (Nat.le_refl _) _).setCell (p := ⟨w.heap.size, 2, none⟩) (Nat.le_refl _) _).setCell (p := ⟨w.heap.size, 3, none⟩) (Nat.le_refl _) _).setCell (p := ⟨w.heap.size, 4, none⟩) (Nat.le_refl _) _).setCell (p := ⟨w.heap.size, 5, none⟩) (Nat.le_refl _) _).setCell (p := ⟨w.heap.size, 6, none⟩) (Nat.le_refl _) _).setCell (p := ⟨w.heap.size, 7, none⟩) (Nat.le_refl _) _).setCell (p := ⟨w.heap.size, 8, none⟩) (Nat.le_refl _) _).setCell (p := ⟨w.heap.size, 9, none⟩) (Nat.le_refl _) _)⟩

end Go.Proofs.YtmjbdjcpjaeemaaDoor
