/-
  What slices.Sort makes of a row of ints of the call's own.
-/
import Derived.Sort.OwnSortedInts
import Derived.Sort.EveryDepth
import Derived.Shelf.Sort.AssemblyIn
import Derived.Test.YtbfcjfeckonklaaDkShelf
import Derived.Test.YtbfcjfeckonklaaMut0
namespace Go.Proofs.Ytbfcjfeckonklaa
open Go.RowKit Go.Shelf Go.Sort

abbrev iV (x : Int) : Value := .int .i64 x
abbrev srt (zs : List Int) : List Int := zs.mergeSort fun x y => decide (x ≤ y)
theorem srt_nil : srt [] = [] := by simp [srt]
theorem sort_any (w : World) {base n : Nat} {v : Value} {zs : List Int} (ho : w.ownsRow base 3 1 v n (zs.map (Value.int .i64))) (hn : zs.length = n) (hl : n ≤ 1000000) :
    Calls Try.prog 31 #[v] w fun e w' => e = .returned (.tuple #[]) ∧ w'.ownsRow base 3 1 v n ((srt zs).map (Value.int .i64)) ∧ Mut v.ownBlock.toList w w' := by
  rcases ho.2 with ⟨rfl, h0⟩ | ⟨g, cap, cur, rfl, hb, hg, hnc, hc, hs, ht⟩
  · subst h0
    obtain rfl : zs = [] := List.eq_nil_of_length_eq_zero hn
    refine (Try.slices_Sort_int_none none 0 w).mono ?_
    rintro e w' ⟨rfl, rfl⟩
    exact ⟨rfl, by rw [srt_nil]; exact ho, Mut.refl _ _⟩
  · subst hn
    have hlt : g < w.heap.size := (Array.getElem?_eq_some_iff.1 hg).1
    have hH : Holds (Value.int .i64) w g 0 zs.toArray := holds_of_blockI hg (by rw [Nat.mul_one] at ht; exact ht)
    have hlen : (srt zs).length = zs.length := List.length_mergeSort _
    refine (calls_of_every_depth fun D => AnyS.slices_Sort_int_in Try.lays189 D g 0 cap zs w hH hlt (by omega)).mono ?_
    rintro e w' ⟨rfl, k, os, rfl⟩
    have hgr := grownBy_sortedI (w := w) (g := g) (n := k) (os := os) (srt zs).toArray
    exact ⟨rfl, ownsRow_sortedI hlen hb hg hnc hc hs, ⟨hgr.os, hgr.tape, hgr.output, hgr.size, fun i hi hn => hgr.block i hi fun e => hn (by injection e with e; simp [Value.ownBlock, e])⟩⟩
/-- Two orders of the same numbers that rise are one. -/
theorem srt_perm {zs l : List Int} (h : zs.Perm l) (hl : l.Pairwise (fun a b => a < b)) : srt zs = l := by
  have h1 : (srt zs).Perm l := (List.mergeSort_perm zs _).trans h
  have h2 : (srt zs).Pairwise (fun x y => decide (x ≤ y) = true) := List.pairwise_mergeSort (le := fun x y => decide (x ≤ y)) (fun a b c h1 h2 => by simp at *; omega) (fun a b => by simp; omega) zs
  have h3 : l.Pairwise (fun x y => decide (x ≤ y) = true) := hl.imp fun {a b} h => by simp; omega
  exact h1.eq_of_pairwise (fun a b _ _ h1 h2 => by simp at *; omega) h2 h3
end Go.Proofs.Ytbfcjfeckonklaa
