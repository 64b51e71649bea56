/-
  What item.attrOf does, at every text. No condition.
-/
import Derived.Test.YtklgggolkclebaaItemGot
import Derived.Test.YtklgggolkclebaaItemDecode
import Derived.Lib.IndexBytes
namespace Go.Proofs.Ytklgggolkclebaa
open Go.RowKit Go.Proofs.NumMath Go.Proofs.ItemMath

theorem getText_up (cs : List UInt8) (i : Int) (most : Int) : (getText cs i most).2.1 ≤ cs.length := by
  have h := getAt_cs_bounds (cs := cs) (i := i)
  unfold getText
  split
  · simp
  · split
    · simp
    · split
      · simp
      · simp only; omega

/-- '[]byte(s)'. -/
theorem text_bytes2 (s : ByteArray) (w : World) (hs : s.size ≤ 9223372036854775807) : ∃ cap w1, (convert 9 22 (.string s)).run Try.prog w = .ok (.slice (some ⟨w.heap.size, 0, none⟩) s.size cap) w1 ∧ s.size ≤ cap ∧ cap ≤ 9223372036854775807 ∧ Below w.heap.size w w1 ∧
    (∀ j, j < s.size → w1.cell? ⟨w.heap.size, j, none⟩ = some (b8 (s.data.toList.getD j 0))) ∧ Holds8 w1.heap.size w1 (some ⟨w.heap.size, 0, none⟩) s.data.toList := by
  have hcell : ∀ cap fr j, j < s.size → (w.drew.alloc (.cells (bytesRow s cap) 5 fr)).cell? ⟨w.heap.size, j, none⟩ = some (b8 (s.data.toList.getD j 0)) := fun cap fr j hj => by
    have h1 := World.cell?_alloc_mark w.drew (bytesRow s cap) 5 fr j
    have h2 : w.drew.heap.size = w.heap.size := rfl
    rw [h2] at h1
    have hj' : j < s.data.size := hj
    rw [h1, bytesRow_at s cap j hj']
    simp only [b8, List.getD_eq_getElem?_getD, Array.getElem?_toList, Array.getElem?_eq_getElem hj', Option.getD_some]
  refine ⟨_, _, run_bytes_of_string w 9 22 5 s Try.underlying9 Try.underlying22 Try.underlying5, grownCap_ge _ _ _ _, by have := grownCap_le_maxLen w s.size 0 5 (by unfold maxLen; exact hs); unfold maxLen at this; exact this, undrewn ((Below.refl _ w.drew).alloc (Nat.le_refl _) _), fun j hj => hcell _ _ j hj, fun _ => ⟨w.heap.size, 0, rfl, ?_, fun j hj => ?_⟩⟩
  · have : w.drew.heap.size = w.heap.size := rfl
    rw [World.size_alloc, this]; omega
  · rw [Nat.zero_add]
    exact hcell _ _ j (by simpa using hj)

set_option maxRecDepth 100000 in
set_option maxHeartbeats 2000000 in
theorem attrOf_any (s : ByteArray) (W : World) (hs : s.size ≤ 1000) :
    Calls Try.prog 54 #[.string s] W fun e W' => e = .returned (.agg #[.string (pairOf (attrOf s.data.toList)).1, .string (pairOf (attrOf s.data.toList)).2]) ∧ Below W.heap.size W W' := by
  obtain ⟨X, hX⟩ : ∃ X, W.alloc (.cells #[.string ⟨#[]⟩, .string ⟨#[]⟩] 36) = X := ⟨_, rfl⟩
  have hbX : Below W.heap.size W X := by rw [← hX]; exact (Below.refl _ W).alloc (Nat.le_refl _) _
  have hres : Blk X W.heap.size #[.string ⟨#[]⟩, .string ⟨#[]⟩] 36 := by rw [← hX]; exact blk_new W _ _
  obtain ⟨cap, w1, hcv, hc1, hc2, hB1, _, hH1⟩ := text_bytes2 s X (by omega)
  have hl : s.data.toList.length = s.size := by simp
  have hup := getText_up s.data.toList 0 60
  have hG := getText_any (some ⟨X.heap.size, 0, none⟩) s.data.toList cap 0 60 w1 (by rw [hl]; exact hc1) hc2 (by omega) hH1
  rw [hl] at hG hup
  unfold attrOf pairOf
  dsimp only
  obtain ⟨g, hg⟩ : ∃ g, getText s.data.toList 0 60 = g := ⟨_, rfl⟩
  rw [hg] at hG hup ⊢
  obtain ⟨t, up, e0⟩ := g
  dsimp only at hG hup ⊢
  obtain ⟨key, hkey⟩ : ∃ k, bytesOf t = k := ⟨_, rfl⟩
  obtain ⟨val, hval⟩ : ∃ v, bytesOf (s.data.toList.drop up) = v := ⟨_, rfl⟩
  have hG' : Calls Try.prog 62 #[.slice (some ⟨X.heap.size, 0, none⟩) s.size cap, .int .i64 0, .int .i64 60] w1 fun e W' => e = .returned (.tuple #[.string key, .int .i64 (up : Int), .int .u16 (e0 : Int)]) ∧ Below w1.heap.size w1 W' := by
    rw [← hkey]; exact hG
  have hsl : s.extract up s.size = val := by
    rw [← hval, ← Lib.extract_to_end s up, bytesOf_list]
  have HG := Lib.hid hG'
  have HB1 := Lib.hid (hbX.trans (hB1.mono hbX.size))
  have HRS := Lib.hid (hres.same (hB1.block _ hres.lt))
  rw [hkey, hval]
  clear hG hG' hg hkey hval hH1 hres hbX hB1 hl
  go_enter Try.func54, Try.ntmps54
  go_wp2_with fail
  refine HG.out.mono ?_
  rintro e w2 ⟨rfl, hb2⟩
  have HRS2 := Lib.hid (HRS.out.same (hb2.block _ HRS.out.lt))
  have HB2 := Lib.hid (HB1.out.trans (hb2.mono HB1.out.size))
  have r0 : w2.cell? ⟨W.heap.size, 0, none⟩ = some (.string ⟨#[]⟩) := HRS2.out.cell 0 rfl
  have r1 : w2.cell? ⟨W.heap.size, 1, none⟩ = some (.string ⟨#[]⟩) := HRS2.out.cell 1 rfl
  have f0 := HRS2.out.free 0
  have f1 := HRS2.out.free 1
  clear hb2
  go_wp2_with fail
  exact bodyPost_ret (v := .agg #[.string key, .string val]) (by simp [results, Try.results54, go_sem, r0, r1]) rfl ⟨rfl, (HB2.out.setCell (p := ⟨W.heap.size, 0, none⟩) (Nat.le_refl _) _).setCell (p := ⟨W.heap.size, 1, none⟩) (Nat.le_refl _) _⟩

end Go.Proofs.Ytklgggolkclebaa
