/-
  A row of marks of a law's own, one a place; a draw, as it counts; who is kept, by the marks.
-/
import Derived.Laws.MakeOwn
import Derived.Test.YtbjpfafohaebpaaPrRef
import Derived.Test.YtbjpfafohaebpaaPrLaw
namespace Go.Proofs.Ytbjpfafohaebpaa
open Go.RowKit Go.Proofs.PrioMath

/-- A mark's value. -/
def mk1 (b : Bool) : Int := if b then 1 else 0
/-- A row of marks of the call's own. -/
def Mk (W : World) (T m : Nat) (th : Nat → Bool) : Prop := T < W.heap.size ∧ ∀ j, j < m → W.cell? ⟨T, j, none⟩ = some (.int .i64 (mk1 (th j))) ∧ W.frozen? ⟨T, j, none⟩ = false
theorem Mk.set {W : World} {T m : Nat} {th th' : Nat → Bool} (h : Mk W T m th) {k : Nat} (hk : k < m) {b : Bool} (hb : th' k = b) (hg : ∀ j, j ≠ k → th' j = th j) : Mk (W.setCell ⟨T, k, none⟩ (.int .i64 (mk1 b))) T m th' := by
  obtain ⟨h1, h2⟩ := h
  refine ⟨by rw [World.size_setCell]; exact h1, fun j hj => ⟨?_, by rw [World.frozen?_setCell]; exact (h2 j hj).2⟩⟩
  by_cases e : j = k
  · subst e
    rw [World.cell?_setCell_same _ _ _ (h2 j hj).1, hb]
  · rw [World.cell?_setCell_other _ _ _ _ (by intro h; injection h with _ h2; exact e h2.symm), hg j e]
    exact (h2 j hj).1
theorem Mk.mut {W W' : World} {T m : Nat} {th : Nat → Bool} {bs : List Nat} (h : Mk W T m th) (hb : Mut bs W W') (hT : T ∉ bs) : Mk W' T m th := by
  obtain ⟨h1, h2⟩ := h
  have hs := hb.block T h1 hT
  exact ⟨Nat.lt_of_lt_of_le h1 hb.size, fun j hj => ⟨(World.cell?_of_block (w := W) hs).trans (h2 j hj).1, (World.frozen?_of_block (w := W) hs).trans (h2 j hj).2⟩⟩
theorem Mk.later {W W' : World} {T m : Nat} {th : Nat → Bool} (h : Mk W T m th) (hb : Below W.heap.size W W') : Mk W' T m th := h.mut (bs := []) (Mut.of_below hb) (by simp)
theorem Mk.congr {W : World} {T m : Nat} {th th' : Nat → Bool} (h : Mk W T m th) (he : ∀ j, j < m → th j = th' j) : Mk W T m th' := ⟨h.1, fun j hj => he j hj ▸ h.2 j hj⟩
theorem info_int : (Try.prog.info? 3).map (fun i => (i.zero, i.size, i.bytes)) = some (some (.int .i64 0), 1, 8) := by kernel_rfl
def zeI (n : Nat) : Array Value := madeCells #[.int .i64 0] n
theorem made_at {v : Value} {n i : Nat} (h : i < n) : (madeCells #[v] n)[i]? = some v := by
  rw [← Array.getElem?_toList, toList_madeCells_one]
  simp [h]
theorem make_ints (n : Nat) (h : n ≤ 100000) (W : World) : (Instr.makeSlice 49 (.int .i64 (n : Int)) (.int .i64 (n : Int))).run Try.prog W = .ok (.slice (some ⟨W.heap.size, 0, none⟩) n n) (W.alloc (.cells (zeI n) 3)) := by
  obtain ⟨i0, hi, hz0, hz1, hz2⟩ := info_parts info_int
  have := run_make (P := Try.prog) W 49 3 i0 (.int .i64 0) Try.underlying49 hi hz0 .i64 .i64 (n : Int) (n : Int) (by omega) (by omega) (by rw [hz2]; omega) (by omega)
  rw [this, hz1]
  simp only [Int.toNat_natCast, Nat.mul_one]
  rfl
theorem mk_new (W : World) (n : Nat) : Mk (W.alloc (.cells (zeI n) 3)) W.heap.size n (fun _ => false) := by
  have hb := blk_new W (zeI n) 3
  exact ⟨hb.lt, fun j hj => ⟨hb.cell j (made_at hj), hb.free j⟩⟩

theorem Mk.drewN {W : World} {T m : Nat} {th : Nat → Bool} (h : Mk W T m th) (q : Nat) : Mk (W.drewN q) T m th := h.mut (bs := []) (Mut.drewN (Mut.refl [] W) q) (by simp)

/-- Which places are among the first i that were told. -/
def th (out : List Of) (i j : Nat) : Bool := (out.take i).any fun t => decide (t.p = j)
theorem th_zero (out : List Of) (j : Nat) : th out 0 j = false := by simp [th]
theorem th_next {out : List Of} {i : Nat} (hi : i < out.length) (j : Nat) : th out (i + 1) j = (th out i j || decide ((at_ out i).p = j)) := by
  unfold th
  rw [List.take_add_one, List.getElem?_eq_getElem hi, List.any_append, at_get hi]
  simp
/-- Places that rise. -/
theorem close_p {k m i : Nat} {os : List Of} (h : i < (closeL k m os).length) : i < (keptL k os).length ∧ (at_ (closeL k m os) i).p = (at_ (keptL k os) i).p := by
  have h1 : i < (keptL k os).length := by unfold closeL at h; simpa using h
  exact ⟨h1, by rw [close_at h1]⟩
theorem close_rise {k m i j : Nat} {os : List Of} (hp : Pl os) (hij : i < j) (hj : j < (closeL k m os).length) : (at_ (closeL k m os) i).p < (at_ (closeL k m os) j).p := by
  obtain ⟨h1, e1⟩ := close_p (m := m) (os := os) (k := k) (i := i) (by omega)
  obtain ⟨h2, e2⟩ := close_p (m := m) (os := os) (k := k) hj
  rw [e1, e2, at_get h1, at_get h2]
  exact List.pairwise_iff_getElem.1 (kept_pw hp) i j _ _ hij
theorem close_lt {k m i : Nat} {os : List Of} (hp : Pl os) (h : i < (closeL k m os).length) : (at_ (closeL k m os) i).p < os.length := by
  obtain ⟨h1, e1⟩ := close_p (m := m) (os := os) (k := k) h
  rw [e1]
  exact (hp.mem (List.mem_filter.1 (at_mem h1)).1).1
theorem th_fresh {k m i : Nat} {os : List Of} (hp : Pl os) (h : i < (closeL k m os).length) : th (closeL k m os) i (at_ (closeL k m os) i).p = false := by
  unfold th
  rw [List.any_eq_false]
  intro t ht
  obtain ⟨j, hj, e⟩ := List.mem_take_iff_getElem.1 ht
  have hji : j < i := by omega
  have := close_rise (m := m) (k := k) hp hji h
  rw [at_get (by omega)] at this
  rw [e] at this
  simp
  omega
theorem th_all {k m j : Nat} {os : List Of} (hp : Pl os) (hj : j < os.length) : th (closeL k m os) (closeL k m os).length j = decide (rank os (at_ os j) < k) := by
  unfold th
  rw [List.take_length]
  by_cases h : rank os (at_ os j) < k
  · rw [decide_eq_true h]
    rw [List.any_eq_true]
    refine ⟨⟨(at_ os j).p, (cnts (at_ os j).w (nx k os) m).1, (cnts (at_ os j).w (nx k os) m).2⟩, ?_, by simp [hp j hj]⟩
    unfold closeL
    exact List.mem_map.2 ⟨at_ os j, List.mem_filter.2 ⟨at_mem hj, by simpa using h⟩, rfl⟩
  · rw [decide_eq_false h, List.any_eq_false]
    intro t ht hc
    unfold closeL at ht
    obtain ⟨u, hu, rfl⟩ := List.mem_map.1 ht
    obtain ⟨hu1, hu2⟩ := List.mem_filter.1 hu
    have : u = at_ os j := hp.inj hu1 (at_mem hj) (by rw [hp j hj]; simpa using hc)
    subst this
    simp at hu2
    omega
/-- One that is not kept is not above one that is. -/
theorem not_over {k i j : Nat} {os : List Of} (hi : i < os.length) (h1 : ¬ rank os (at_ os i) < k) (h2 : rank os (at_ os j) < k) : abv (at_ os i).w (at_ os i).d (at_ os j).w (at_ os j).d = false := by
  cases e : abv (at_ os i).w (at_ os i).d (at_ os j).w (at_ os j).d with
  | false => rfl
  | true =>
    have hlt : lt (at_ os j) (at_ os i) = true := by
      rw [lt_true]
      unfold abv at e
      left
      simpa using e
    have := rank_mono (at_mem hi) hlt
    omega

set_option maxRecDepth 100000 in
set_option maxHeartbeats 1000000 in
theorem drawn_any (d m : Nat) (w : World) (hd : d ≤ 255) (_hm : m < 18446744073709551616) :
    Calls Try.prog 19 #[.int .u8 (d : Int), .int .u64 (m : Int)] w fun e w' => e = .returned (.int .u64 ((d % dr m : Nat) : Int)) ∧ w = w' := by
  obtain ⟨D, hD⟩ : ∃ D, d % dr m = D := ⟨_, rfl⟩
  rw [hD]
  unfold dr at hD
  have wd : IntKind.u64.wrap (d : Int) = (d : Int) := by rw [IntKind.wrap_u64]; omega
  by_cases h0 : m = 0
  · rw [if_pos h0, Nat.mod_eq_of_lt (by omega)] at hD
    subst hD
    subst h0
    go_enter Try.func19, Try.ntmps19
    go_wp2_with fail
    go_ret
    exact ⟨rfl, rfl⟩
  · rw [if_neg h0] at hD
    have t1 : ((m : Int) == 0) = false := by simp; omega
    have e1 : (d : Int) % (m : Int) = (D : Int) := by rw [← hD]; simp
    have t1' : decide ((m : Int) = 0) = false := by simp; omega
    clear hD
    go_enter Try.func19, Try.ntmps19
    go_wp2_with fail
    go_ret
    exact ⟨by rw [← e1]; rfl, rfl⟩
end Go.Proofs.Ytbjpfafohaebpaa
