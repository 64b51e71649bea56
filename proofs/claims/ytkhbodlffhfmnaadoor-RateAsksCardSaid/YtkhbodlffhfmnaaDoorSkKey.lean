/-
  The statements' keys; a table that stays.
-/
import Derived.Test.YtkhbodlffhfmnaaDoorSkNew
namespace Go.Proofs.YtkhbodlffhfmnaaDoor
open Go.RowKit Go.Proofs.HashMath Go.Proofs.SkMath

theorem Mut.steps {n0 : Nat} {bs : List Nat} {W W' : World} (h : Steps W) (hn : 2 < n0) (hbs : ∀ k ∈ bs, n0 ≤ k) (hb : Mut bs W W') : Steps W' :=
  h.mut (fun hm => by have := hbs _ hm; omega) hb

theorem seven (p : Nat → Nat) : least p (add 2 p 4 (add 2 p 3 (fun _ _ => 0))) 2 = 7 := by
  have h0 : ∀ i, i < 2 → (fun _ _ => 0 : Nat → Nat → Nat) i (p i) = 0 := fun _ _ => rfl
  have h1 : ∀ i, i < 2 → add 2 p 3 (fun _ _ => 0) i (p i) = 3 := fun i hi => by rw [add_alone (x := 0) (by omega) (by omega) h0 hi]; rfl
  have h2 : ∀ i, i < 2 → add 2 p 4 (add 2 p 3 (fun _ _ => 0)) i (p i) = 7 := fun i hi => by rw [add_alone (x := 3) (by omega) (by omega) h1 hi]; rfl
  exact least_alone (by omega) (by omega) h2

def keyT (k : Nat) : ByteArray := ⟨#[107, UInt8.ofNat (97 + k)]⟩
theorem keyT_size (k : Nat) : (keyT k).size ≤ 9223372036854775807 := by
  have : (keyT k).size = 2 := rfl
  omega
set_option maxRecDepth 100000 in
set_option maxHeartbeats 1000000 in
theorem key_any (c : Nat) (w : World) (hc : c ≤ 255) :
    Calls Tryd.prog 19 #[.int .u8 (c : Int)] w fun e w' => e = .returned (.string (keyT (c % 12))) ∧ Below w.heap.size w w' := by
  obtain ⟨d, hd, hdl⟩ : ∃ d, c % 12 = d ∧ d < 12 := ⟨_, rfl, Nat.mod_lt _ (by omega)⟩
  rw [hd]
  have h1 : (c : Int) % 12 = (d : Int) := by omega
  obtain ⟨x, hx, hx'⟩ : ∃ x : Nat, (97 : Int) + (d : Int) = (x : Int) ∧ x = 97 + d := ⟨97 + d, by omega, rfl⟩
  have hxl : x < 256 := by omega
  have hw : Hid (Below w.heap.size w (w.alloc (.cells #[.int .u8 (x : Int)] 5))) := Lib.hid (box_below _)
  have hcv : (convert 33 9 (.slice (some ⟨w.heap.size, 0, none⟩) 1 1)).run Tryd.prog (w.alloc (.cells #[.int .u8 (x : Int)] 5)) = .ok (.string ⟨#[UInt8.ofNat x]⟩) (w.alloc (.cells #[.int .u8 (x : Int)] 5)) :=
    text_run (some ⟨w.heap.size, 0, none⟩) [UInt8.ofNat x] 1 1 _ (w.heap.size + 1) rfl (fun _ => ⟨w.heap.size, 0, rfl, by omega, fun j hj => by
      obtain rfl : j = 0 := by simp at hj; omega
      have e1 : ((UInt8.ofNat x).toNat : Int) = (x : Int) := by simp; omega
      rw [(blk_new w #[.int .u8 (x : Int)] 5).cell 0 rfl]
      simp only [b8, List.getD_cons_zero, e1]
      rfl⟩)
  have hcat : (⟨#[107]⟩ : ByteArray) ++ ⟨#[UInt8.ofNat x]⟩ = keyT d := by rw [hx']; rfl
  clear hd hx'
  go_enter Tryd.func19, Tryd.ntmps19
  go_wp2
  go_ret
  exact ⟨rfl, hw.out⟩
end Go.Proofs.YtkhbodlffhfmnaaDoor
