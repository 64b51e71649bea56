/-
  A disk of a law's own from world to world.
-/
import Derived.Test.YtbfcjfeckonklaaDkCopy
namespace Go.Proofs.Ytbfcjfeckonklaa
open Go.RowKit Go.Maps Go.Proofs.DiskMath

/-- A disk made behind the world w₀: what lay there lies as it lay. -/
def Db (w₀ W : World) (S : Nat) (s : List Fi) (bs : List Nat) : Prop := Dd W bs S s ∧ Below w₀.heap.size w₀ W ∧ ∀ k ∈ bs, w₀.heap.size ≤ k
theorem Db.to {w₀ W W' : World} {S : Nat} {s t : List Fi} {bs : List Nat} (h : Db w₀ W S s bs) (ht : DdTo W bs S t W') : ∃ bs', Hid (Db w₀ W' S t bs') ∧ Hid (Mut bs W W' ∧ Ext W bs bs') := by
  obtain ⟨bs', h1, h2, h3⟩ := ht
  refine ⟨bs', Lib.hid ⟨h1, h.2.1.trans (h2.below h.2.1.size h.2.2), fun k hk => ?_⟩, Lib.hid ⟨h2, h3⟩⟩
  rcases h3 k hk with h4 | h4
  · exact h.2.2 k h4
  · have := h.2.1.size; omega
theorem Db.later {w₀ W W' : World} {S : Nat} {s : List Fi} {bs : List Nat} (h : Db w₀ W S s bs) (hb : Below W.heap.size W W') : Db w₀ W' S s bs := ⟨h.1.later hb, h.2.1.trans (hb.mono h.2.1.size), h.2.2⟩
theorem Db.beside {w₀ W W' : World} {S : Nat} {s : List Fi} {bs cs : List Nat} (h : Db w₀ W S s bs) (hm : Mut cs W W') (hc : ∀ k ∈ cs, k ∉ bs ∧ w₀.heap.size ≤ k) : Db w₀ W' S s bs :=
  ⟨h.1.mut hm fun k hk hk2 => (hc k hk2).1 hk, h.2.1.trans (hm.below h.2.1.size fun k hk => (hc k hk).2), h.2.2⟩
theorem Db.drew {w₀ W : World} {S : Nat} {s : List Fi} {bs : List Nat} (h : Db w₀ W S s bs) : Db w₀ W.drew S s bs := h.later ⟨rfl, rfl, rfl, Nat.le_refl _, fun _ _ => rfl⟩
theorem Db.iv {w₀ W : World} {S : Nat} {s : List Fi} {bs : List Nat} (h : Db w₀ W S s bs) : Iv s := h.1.iv
/-- Whoever holds bytes that a disk does not hold. -/
def Src (W : World) (bs : List Nat) (A : Option Addr) (c : Nat) (ys : List UInt8) : Prop := Holds8 W.heap.size W A ys ∧ (A = none → c = 0) ∧ (0 < ys.length → ∀ g, A.map (·.block) = some g → g ∉ bs)
theorem Db.new {w₀ W : World} (h0 : Below w₀.heap.size w₀ W) : Calls Try.prog 9 #[] W fun e w' => ∃ S bs, e = .returned (.pointer (some ⟨S, 0, none⟩)) ∧ Hid (Db w₀ w' S [] bs) ∧ Hid (Below W.heap.size W w' ∧ ∀ k ∈ bs, W.heap.size ≤ k) :=
  (dnew_any W).mono fun _ _ ⟨S, bs, h1, h2, h3, h4⟩ => ⟨S, bs, h1, Lib.hid ⟨h2, h0.trans (h3.mono h0.size), fun k hk => Nat.le_trans h0.size (h4 k hk)⟩, Lib.hid ⟨h3, h4⟩⟩
theorem Db.write {w₀ W : World} {S : Nat} {s : List Fi} {bs : List Nat} (h : Db w₀ W S s bs) (no : Nat) (A : Option Addr) (m c : Nat) (ys : List UInt8) (hs : Src W bs A c ys) (hm : ys.length = m) (hno : no ≤ 1099511627776) (N : Nat) (hN : Bd N s) (hN2 : N + m ≤ 100000) (t : List Fi) (ht : DiskMath.write s no ys = t) :
    Calls Try.prog 11 #[.pointer (some ⟨S, 0, none⟩), .int .i64 (no : Int), .slice A m c] W fun e w' => e = .returned (.int .u16 0) ∧ ∃ bs', Hid (Db w₀ w' S t bs') ∧ Hid (Mut bs W w' ∧ Ext W bs bs') := by
  subst ht
  exact (write_any no A m c ys W h.1 hno hm hs.1 hs.2.1 hs.2.2 N hN hN2).mono fun _ _ ⟨x, y⟩ => ⟨x, h.to y⟩
theorem Db.sync {w₀ W : World} {S : Nat} {s : List Fi} {bs : List Nat} (h : Db w₀ W S s bs) (no : Int) (h1 : -9223372036854775808 ≤ no) (h2 : no ≤ 9223372036854775807) (t : List Fi) (ht : DiskMath.sync s no = t) (er : Nat) (her : (if (seek no s).isSome then 0 else 71) = er) :
    Calls Try.prog 12 #[.pointer (some ⟨S, 0, none⟩), .int .i64 no] W fun e w' => e = .returned (.int .u16 (er : Int)) ∧ ∃ bs', Hid (Db w₀ w' S t bs') ∧ Hid (Mut bs W w' ∧ Ext W bs bs') := by
  subst ht
  exact (dsync_any no W h.1 h1 h2 er her).mono fun _ _ ⟨x, y⟩ => ⟨x, h.to y⟩
theorem Db.remove {w₀ W : World} {S : Nat} {s : List Fi} {bs : List Nat} (h : Db w₀ W S s bs) (no : Int) (h1 : -9223372036854775808 ≤ no) (h2 : no ≤ 9223372036854775807) (t : List Fi) (ht : DiskMath.remove s no = t) (er : Nat) (her : (if (seek no s).isSome then 0 else 71) = er) :
    Calls Try.prog 19 #[.pointer (some ⟨S, 0, none⟩), .int .i64 no] W fun e w' => e = .returned (.int .u16 (er : Int)) ∧ ∃ bs', Hid (Db w₀ w' S t bs') ∧ Hid (Mut bs W w' ∧ Ext W bs bs') := by
  subst ht
  exact (remove_any no W h.1 h1 h2 er her).mono fun _ _ ⟨x, y⟩ => ⟨x, h.to y⟩
theorem Db.crash {w₀ W : World} {S : Nat} {s : List Fi} {bs : List Nat} (h : Db w₀ W S s bs) (draw : Nat) (hd : draw < 18446744073709551616) (N : Nat) (hN : Bd N s) (hN2 : N ≤ 100000) (t : List Fi) (ht : DiskMath.crash draw s = t) :
    Calls Try.prog 14 #[.pointer (some ⟨S, 0, none⟩), .int .u64 (draw : Int)] W fun e w' => e = .returned (.tuple #[]) ∧ ∃ bs', Hid (Db w₀ w' S t bs') ∧ Hid (Mut bs W w' ∧ Ext W bs bs') := by
  subst ht
  exact (crash_any draw W h.1 hd N hN hN2).mono fun _ _ ⟨x, y⟩ => ⟨x, h.to y⟩
theorem Db.sure {w₀ W : World} {S : Nat} {s : List Fi} {bs : List Nat} (h : Db w₀ W S s bs) (no : Int) (h1 : -9223372036854775808 ≤ no) (h2 : no ≤ 9223372036854775807) (u : Nat) (hu : ((seek no s).map (·.sure)).getD 0 = u) :
    Calls Try.prog 13 #[.pointer (some ⟨S, 0, none⟩), .int .i64 no] W fun e w' => e = .returned (.int .i64 (u : Int)) ∧ W = w' := sure_any no W h.1 h1 h2 u hu
theorem Db.files {w₀ W : World} {S : Nat} {s : List Fi} {bs : List Nat} (h : Db w₀ W S s bs) (n : Nat) (hn : s.length = n) (hb : n ≤ 100000) :
    Calls Try.prog 25 #[.pointer (some ⟨S, 0, none⟩)] W fun e w' => ∃ A, e = .returned (.slice A n n) ∧ Hid (Nos w' W.heap.size A (s.map (·.no))) ∧ Hid (Below W.heap.size W w') ∧ Hid (Db w₀ w' S s bs) :=
  (files_any W h.1 n hn hb).mono fun _ _ ⟨A, h1, h2, h3⟩ => ⟨A, h1, Lib.hid h2, Lib.hid h3, Lib.hid (h.later h3)⟩
theorem Db.copy {w₀ W : World} {S : Nat} {s : List Fi} {bs : List Nat} (h : Db w₀ W S s bs) (N : Nat) (hN : Bd N s) (hN2 : N ≤ 100000) :
    Calls Try.prog 22 #[.pointer (some ⟨S, 0, none⟩)] W fun e w' => ∃ S2 bs2, e = .returned (.pointer (some ⟨S2, 0, none⟩)) ∧ Hid (Db w₀ w' S2 s bs2) ∧ Hid (Below W.heap.size W w' ∧ ∀ k ∈ bs2, W.heap.size ≤ k) ∧ Hid (Db w₀ w' S s bs) :=
  (copy_any W h.1 N hN hN2).mono fun _ _ ⟨S2, bs2, h1, h2, h3, h4⟩ => ⟨S2, bs2, h1, Lib.hid ⟨h2, h.2.1.trans (h3.mono h.2.1.size), fun k hk => Nat.le_trans h.2.1.size (h4 k hk)⟩, Lib.hid ⟨h3, h4⟩, Lib.hid (h.later h3)⟩
/-- What a Read has told: bytes of its own. -/
def Got (W' : World) (B g : Nat) (n : Nat) (cs : List UInt8) : Prop := B ≤ g ∧ cs.length = n ∧ W'.ownsRow g 5 1 (.slice (some ⟨g, 0, none⟩) n n) n (cs.map b8)
theorem Got.holds {W : World} {B g n : Nat} {cs : List UInt8} (h : Got W B g n cs) : Holds8 W.heap.size W (some ⟨g, 0, none⟩) cs := by
  obtain ⟨_, e, ho⟩ := h
  subst e
  exact (own_facts ho).2.2
theorem Got.lt {W : World} {B g n : Nat} {cs : List UInt8} (h : Got W B g n cs) : g < W.heap.size := (h.2.2.lt g rfl).2
theorem Got.mut {W W' : World} {B g n : Nat} {cs : List UInt8} (h : Got W B g n cs) {bs : List Nat} (hm : Mut bs W W') (hg : g ∉ bs) : Got W' B g n cs := ⟨h.1, h.2.1, row_same h.2.2 fun g' hg' => by
  simp [Value.ownBlock] at hg'
  subst hg'
  exact hm.block g h.lt hg⟩
theorem Got.later {W W' : World} {B g n : Nat} {cs : List UInt8} (h : Got W B g n cs) (hb : Below W.heap.size W W') : Got W' B g n cs := h.mut (bs := []) (Mut.of_below hb) (by simp)
/-- Its text. -/
theorem Got.text {W : World} {B g n : Nat} {cs : List UInt8} (h : Got W B g n cs) (W' : World) (hW : Below W.heap.size W W') : (convert 22 9 (.slice (some ⟨g, 0, none⟩) n n)).run Try.prog W' = .ok (.string ⟨cs.toArray⟩) W' :=
  text_run (some ⟨g, 0, none⟩) cs n n W' _ h.2.1 (h.holds.below hW)
theorem Db.read {w₀ W : World} {S : Nat} {s : List Fi} {bs : List Nat} (h : Db w₀ W S s bs) (no : Int) (h1 : -9223372036854775808 ≤ no) (h2 : no ≤ 9223372036854775807) (f : Fi) (hn : seek no s = some f) (n : Nat) (hfn : f.bs.length = n) (hb : n ≤ 100000) (cs : List UInt8) (hcs : f.bs = cs) :
    Calls Try.prog 15 #[.pointer (some ⟨S, 0, none⟩), .int .i64 no] W fun e w' => ∃ g, e = .returned (.tuple #[.slice (some ⟨g, 0, none⟩) n n, .int .u16 0]) ∧ Hid (Got w' W.heap.size g n cs) ∧ Hid (Below W.heap.size W w') ∧ Hid (Db w₀ w' S s bs) := by
  subst hcs
  exact (read_any no W h.1 h1 h2 f hn n hfn (by omega)).mono fun _ _ ⟨g, k1, k2, k3, k4⟩ => ⟨g, k1, Lib.hid ⟨k2, hfn, k3⟩, Lib.hid k4, Lib.hid (h.later k4)⟩
theorem Db.readNo {w₀ W : World} {S : Nat} {s : List Fi} {bs : List Nat} (h : Db w₀ W S s bs) (no : Int) (h1 : -9223372036854775808 ≤ no) (h2 : no ≤ 9223372036854775807) (hn : seek no s = none) :
    Calls Try.prog 15 #[.pointer (some ⟨S, 0, none⟩), .int .i64 no] W fun e w' => e = .returned (.tuple #[.slice none 0 0, .int .u16 71]) ∧ W = w' := read_no no W h.1 h1 h2 hn
/-- Bytes that a call has laid. -/
theorem src_new {W : World} {bs : List Nat} {C : Array Value} {ys : List UInt8} (hb : ∀ k ∈ bs, k < W.heap.size) (hC : C.toList = ys.map b8) : Src (W.alloc (.cells C 5)) bs (some ⟨W.heap.size, 0, none⟩) C.size ys := by
  unfold Src
  refine ⟨fun _ => ⟨W.heap.size, 0, rfl, by simp, fun j hj => ?_⟩, fun e => absurd e (by simp), fun _ g hg hm => ?_⟩
  · have h1 := (blk_new W C 5).cell (0 + j) (v := b8 (ys.getD j 0)) (by
      rw [Nat.zero_add, ← Array.getElem?_toList, hC]
      simp [hj])
    exact h1
  · simp at hg
    have := hb g hm
    omega
/-- Bytes that came in. -/
theorem src_arg {w W : World} {bs : List Nat} {A : Option Addr} {c : Nat} {cs : List UInt8} (hb : Holds8 w.heap.size w A cs) (hx : A = none → c = 0) (hw : Below w.heap.size w W) (hbs : ∀ k ∈ bs, w.heap.size ≤ k) : Src W bs A c cs := by
  refine ⟨(hb.below hw).mono hw.size, hx, fun h0 g hg hm => ?_⟩
  obtain ⟨b, off, rfl, hlt, _⟩ := hb h0
  simp at hg
  have := hbs g hm
  omega
theorem Db.src {w₀ W : World} {S : Nat} {s : List Fi} {bs : List Nat} (h : Db w₀ W S s bs) {A : Option Addr} {c : Nat} {cs : List UInt8} (hb : Holds8 w₀.heap.size w₀ A cs) (hx : A = none → c = 0) : Src W bs A c cs := src_arg hb hx h.2.1 h.2.2
theorem quiet_left {P : Program} {f : FuncId} {args : Array Value} {w : World} {n : Nat} {v : Value}
    (h : Calls P f args (w.drewN n) fun e w' => e = .returned v ∧ w.drewN n = w') : Calls P f args (w.drewN n) fun e w'' => e = .returned v ∧ ∃ m, w'' = w.drewN m :=
  h.mono fun _ _ ⟨he, hm⟩ => ⟨he, n, hm.symm⟩
theorem Db.drewN {w₀ W : World} {S : Nat} {s : List Fi} {bs : List Nat} (h : Db w₀ W S s bs) (q : Nat) : Db w₀ (W.drewN q) S s bs := h.later ⟨rfl, rfl, rfl, Nat.le_refl _, fun _ _ => rfl⟩

theorem Below.drewN' {B : Nat} {w W : World} (h : Below B w W) (q : Nat) : Below B w (W.drewN q) := ⟨h.os, h.tape, h.output, h.size, h.block⟩
end Go.Proofs.Ytbfcjfeckonklaa
