/-
  Two disks of a law's own, side by side: what is done to the one the other does not know.
-/
import Derived.Test.YtbfcjfeckonklaaDkKnown
namespace Go.Proofs.Ytbfcjfeckonklaa
open Go.RowKit Go.Maps Go.Proofs.DiskMath

/-- A disk at S, another one at S2. -/
def Two (w₀ W : World) (S : Nat) (s : List Fi) (S2 : Nat) (s2 : List Fi) : Prop := ∃ bs bs2, Db w₀ W S s bs ∧ Db w₀ W S2 s2 bs2 ∧ ∀ k ∈ bs2, k ∉ bs
theorem Two.swap {w₀ W : World} {S S2 : Nat} {s s2 : List Fi} (h : Two w₀ W S s S2 s2) : Two w₀ W S2 s2 S s := by
  obtain ⟨bs, bs2, h1, h2, h3⟩ := h
  exact ⟨bs2, bs, h2, h1, fun k hk hk2 => h3 k hk2 hk⟩
theorem Two.later {w₀ W W' : World} {S S2 : Nat} {s s2 : List Fi} (h : Two w₀ W S s S2 s2) (hb : Below W.heap.size W W') : Two w₀ W' S s S2 s2 := by
  obtain ⟨bs, bs2, h1, h2, h3⟩ := h
  exact ⟨bs, bs2, h1.later hb, h2.later hb, h3⟩
theorem Two.below {w₀ W : World} {S S2 : Nat} {s s2 : List Fi} (h : Two w₀ W S s S2 s2) : Below w₀.heap.size w₀ W := by
  obtain ⟨bs, bs2, h1, h2, h3⟩ := h
  exact h1.2.1
/-- The second one has turned. -/
theorem Two.step {w₀ W W' : World} {S S2 : Nat} {s s2 t : List Fi} {bs bs2 bs' : List Nat} (h1 : Db w₀ W S s bs) (h2 : ∀ k ∈ bs2, k ∉ bs) (h3 : Db w₀ W S2 s2 bs2) (h4 : Db w₀ W' S2 t bs') (h5 : Mut bs2 W W' ∧ Ext W bs2 bs') : Two w₀ W' S s S2 t := by
  refine ⟨bs, bs', h1.beside h5.1 fun k hk => ⟨h2 k hk, h3.2.2 k hk⟩, h4, fun k hk hk2 => ?_⟩
  rcases h5.2 k hk with e | e
  · exact h2 k e hk2
  · have := h1.1.lt k hk2; omega
theorem Two.write {w₀ W : World} {S S2 : Nat} {s s2 : List Fi} (h : Two w₀ W S s S2 s2) (no : Nat) (A : Option Addr) (m c : Nat) (ys : List UInt8) (hb : Holds8 w₀.heap.size w₀ A ys) (hx : A = none → c = 0) (hm : ys.length = m) (hno : no ≤ 1099511627776) (N : Nat) (hN : Bd N s2) (hN2 : N + m ≤ 100000) (t : List Fi) (ht : DiskMath.write s2 no ys = t) :
    Calls Try.prog 11 #[.pointer (some ⟨S2, 0, none⟩), .int .i64 (no : Int), .slice A m c] W fun e w' => e = .returned (.int .u16 0) ∧ Hid (Two w₀ w' S s S2 t) := by
  obtain ⟨bs, bs2, h1, h2, h3⟩ := h
  exact (h2.write no A m c ys (h2.src hb hx) hm hno N hN hN2 t ht).mono fun _ _ ⟨x, bs', y, z⟩ => ⟨x, Lib.hid (Two.step h1 h3 h2 y.out z.out)⟩
theorem Two.sync {w₀ W : World} {S S2 : Nat} {s s2 : List Fi} (h : Two w₀ W S s S2 s2) (no : Int) (h1 : -9223372036854775808 ≤ no) (h2 : no ≤ 9223372036854775807) (t : List Fi) (ht : DiskMath.sync s2 no = t) (er : Nat) (her : (if (seek no s2).isSome then 0 else 71) = er) :
    Calls Try.prog 12 #[.pointer (some ⟨S2, 0, none⟩), .int .i64 no] W fun e w' => e = .returned (.int .u16 (er : Int)) ∧ Hid (Two w₀ w' S s S2 t) := by
  obtain ⟨bs, bs2, k1, k2, k3⟩ := h
  exact (k2.sync no h1 h2 t ht er her).mono fun _ _ ⟨x, bs', y, z⟩ => ⟨x, Lib.hid (Two.step k1 k3 k2 y.out z.out)⟩
theorem Two.crash {w₀ W : World} {S S2 : Nat} {s s2 : List Fi} (h : Two w₀ W S s S2 s2) (draw : Nat) (hd : draw < 18446744073709551616) (N : Nat) (hN : Bd N s2) (hN2 : N ≤ 100000) (t : List Fi) (ht : DiskMath.crash draw s2 = t) :
    Calls Try.prog 14 #[.pointer (some ⟨S2, 0, none⟩), .int .u64 (draw : Int)] W fun e w' => e = .returned (.tuple #[]) ∧ Hid (Two w₀ w' S s S2 t) := by
  obtain ⟨bs, bs2, k1, k2, k3⟩ := h
  exact (k2.crash draw hd N hN hN2 t ht).mono fun _ _ ⟨x, bs', y, z⟩ => ⟨x, Lib.hid (Two.step k1 k3 k2 y.out z.out)⟩
theorem Two.sure {w₀ W : World} {S S2 : Nat} {s s2 : List Fi} (h : Two w₀ W S s S2 s2) (no : Int) (h1 : -9223372036854775808 ≤ no) (h2 : no ≤ 9223372036854775807) (u : Nat) (hu : ((seek no s).map (·.sure)).getD 0 = u) :
    Calls Try.prog 13 #[.pointer (some ⟨S, 0, none⟩), .int .i64 no] W fun e w' => e = .returned (.int .i64 (u : Int)) ∧ W = w' := by
  obtain ⟨bs, bs2, k1, k2, k3⟩ := h
  exact k1.sure no h1 h2 u hu
theorem Two.files {w₀ W : World} {S S2 : Nat} {s s2 : List Fi} (h : Two w₀ W S s S2 s2) (n : Nat) (hn : s.length = n) (hb : n ≤ 100000) :
    Calls Try.prog 25 #[.pointer (some ⟨S, 0, none⟩)] W fun e w' => ∃ A, e = .returned (.slice A n n) ∧ Hid (Nos w' W.heap.size A (s.map (·.no))) ∧ Hid (Below W.heap.size W w') ∧ Hid (Two w₀ w' S s S2 s2) := by
  obtain ⟨bs, bs2, k1, k2, k3⟩ := h
  exact (k1.files n hn hb).mono fun _ _ ⟨A, x, y, z, _⟩ => ⟨A, x, y, z, Lib.hid (Two.later ⟨bs, bs2, k1, k2, k3⟩ z.out)⟩
theorem Two.read {w₀ W : World} {S S2 : Nat} {s s2 : List Fi} (h : Two w₀ W S s S2 s2) (no : Int) (h1 : -9223372036854775808 ≤ no) (h2 : no ≤ 9223372036854775807) (f : Fi) (hn : seek no s = some f) (n : Nat) (hfn : f.bs.length = n) (hb : n ≤ 100000) (cs : List UInt8) (hcs : f.bs = cs) :
    Calls Try.prog 15 #[.pointer (some ⟨S, 0, none⟩), .int .i64 no] W fun e w' => ∃ g, e = .returned (.tuple #[.slice (some ⟨g, 0, none⟩) n n, .int .u16 0]) ∧ Hid (Got w' W.heap.size g n cs) ∧ Hid (Below W.heap.size W w') ∧ Hid (Two w₀ w' S s S2 s2) := by
  obtain ⟨bs, bs2, k1, k2, k3⟩ := h
  exact (k1.read no h1 h2 f hn n hfn hb cs hcs).mono fun _ _ ⟨g, x, y, z, _⟩ => ⟨g, x, y, z, Lib.hid (Two.later ⟨bs, bs2, k1, k2, k3⟩ z.out)⟩
/-- A copy. -/
theorem Db.two {w₀ W : World} {S : Nat} {s : List Fi} {bs : List Nat} (h : Db w₀ W S s bs) (N : Nat) (hN : Bd N s) (hN2 : N ≤ 100000) :
    Calls Try.prog 22 #[.pointer (some ⟨S, 0, none⟩)] W fun e w' => ∃ S2, e = .returned (.pointer (some ⟨S2, 0, none⟩)) ∧ Hid (Two w₀ w' S s S2 s) :=
  (h.copy N hN hN2).mono fun _ _ ⟨S2, bs2, x, y, z, u⟩ => ⟨S2, x, Lib.hid ⟨bs, bs2, u.out, y.out, fun k hk hk2 => by
    have h1 := z.out.2 k hk
    have h2 := h.1.lt k hk2
    omega⟩⟩
end Go.Proofs.Ytbfcjfeckonklaa
