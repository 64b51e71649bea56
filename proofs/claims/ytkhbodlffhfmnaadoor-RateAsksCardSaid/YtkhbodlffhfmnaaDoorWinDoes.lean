/-
  The program's window and the document's do the same, whatever the time: added to.
-/
import Derived.Test.YtkhbodlffhfmnaaDoorWinDocAdd
import Derived.Test.YtkhbodlffhfmnaaDoorWinTold
namespace Go.Proofs.YtkhbodlffhfmnaaDoor
open Go.RowKit Go.Proofs.HashMath Go.Proofs.SkMath

/-- What the document's call does on any of its windows that has counted f and g: it tells er, and has then counted f' and g'. -/
def DocDoes (call : Array Value → Array Value) (fn : Nat) (r m seed long q : Nat) (f g : Nat → Nat → Nat) (er q' sL' sT' : Nat) (f' g' : Nat → Nat → Nat) : Prop :=
  ∀ (bs : List Nat) (W : World) (cL ccL sL tL cT ccT sT tT : Nat), Doc bs W r m f g cL ccL tL cT ccT tT → (∀ k ∈ bs, k < W.heap.size) → sL = sdL seed (q / long) → sT = sd seed (q / long) →
    Calls Tryd.prog fn (call #[.int .i64 (r : Int), .int .i64 (m : Int), .int .u64 (seed : Int), .int .i64 (long : Int), .int .i64 (q : Int), .slice (some ⟨cL, 0, none⟩) r ccL, .int .i64 (m : Int), .int .u64 (sL : Int), .int .u64 (tL : Int), .slice (some ⟨cT, 0, none⟩) r ccT, .int .i64 (m : Int), .int .u64 (sT : Int), .int .u64 (tT : Int)]) W fun e w' => ∃ cL2 ccL2 tL2 cT2 ccT2 tT2 : Nat, e = .returned (.tuple #[.agg #[.int .i64 (r : Int), .int .i64 (m : Int), .int .u64 (seed : Int), .int .i64 (long : Int), .int .i64 (q' : Int), .slice (some ⟨cL2, 0, none⟩) r ccL2, .int .i64 (m : Int), .int .u64 (sL' : Int), .int .u64 (tL2 : Int), .slice (some ⟨cT2, 0, none⟩) r ccT2, .int .i64 (m : Int), .int .u64 (sT' : Int), .int .u64 (tT2 : Int)], .int .i64 (er : Int)]) ∧ Doc bs w' r m f' g' cL2 ccL2 tL2 cT2 ccT2 tT2 ∧ Below W.heap.size W w'
/-- What the program's call does on any window that has counted f and g. -/
def WinDoes (fn : Nat) (args : Array Value) (v : Value) (V r m seed long q : Nat) (f g : Nat → Nat → Nat) (q' : Nat) (f' g' : Nat → Nat → Nat) : Prop :=
  ∀ (n₀ : Nat) (w W : World) (bs : List Nat), Wn n₀ w W bs V r m seed long q f g → Calls Tryd.prog fn args W fun e w' => e = .returned v ∧ ∃ bs', Ext W bs bs' ∧ Mut bs W w' ∧ Wn n₀ w w' bs' V r m seed long q' f' g'

theorem add_does (V r m seed long q : Nat) (f g : Nat → Nat → Nat) (t : Int) (s : ByteArray) (n : Nat) (hs : s.size ≤ 9223372036854775807) (hn : n < 18446744073709551616) (hq : q ≤ 1099511627776) (r1 : 1 ≤ r) (r8 : r ≤ 8) (m1 : 1 ≤ m) (m2 : m ≤ 1024) (hl : 1 ≤ long) :
    ∃ (er q' sL' sT' : Nat) (f' g' : Nat → Nat → Nat), er ≤ 60 ∧ q' ≤ 1099511627776 ∧ sL' = sdL seed (q' / long) ∧ sT' = sd seed (q' / long) ∧
      DocDoes (fun v => #[.agg v, .int .i64 t, .string s, .int .u64 (n : Int)]) 31 r m seed long q f g er q' sL' sT' f' g' ∧
      WinDoes 28 #[.pointer (some ⟨V, 0, none⟩), .int .i64 t, .string s, .int .u64 (n : Int)] (.int .u16 (er : Int)) V r m seed long q f g q' f' g' := by
  by_cases h : t < q ∨ 1099511627776 < t
  · exact ⟨60, q, _, _, f, g, by omega, hq, rfl, rfl, fun bs W cL ccL sL tL cT ccT sT tT hd hbs eL eT => by
      rw [← eL, ← eT]
      exact (refWAdd_no r m seed long q cL ccL sL tL cT ccT sT tT t s n W h).mono fun e w' ⟨he, hb⟩ => ⟨_, _, _, _, _, _, he, hd.later hb, hb⟩, fun n₀ w W bs hw => (hw.add_no t s n h).mono fun e w' ⟨he, hb⟩ => ⟨he, bs, Ext.refl _ _, Mut.of_below hb, hw.later hb⟩⟩
  · obtain ⟨T, rfl⟩ : ∃ T : Nat, t = T := ⟨t.toNat, by omega⟩
    exact ⟨0, T, _, _, _, _, by omega, by omega, rfl, rfl, fun bs W cL ccL sL tL cT ccT sT tT hd hbs eL eT => refWAdd_any r m seed long q cL ccL sL tL cT ccT sT tT T s n W eL eT hd hbs r1 r8 m1 m2 (by omega) (by omega) hl hn hs, fun n₀ w W bs hw => hw.add T s n (by omega) (by omega) hs hn⟩

end Go.Proofs.YtkhbodlffhfmnaaDoor
