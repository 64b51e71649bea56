/-
  What rules are asked by: the five methods, their closures, the table of them.
-/
import Derived.Test.YtmjbdjcpjaeemaaDoorPoAttr
namespace Go.Proofs.YtmjbdjcpjaeemaaDoor
open Go.RowKit

theorem goes_of {f : Nat} {fn : Func} {c : Code} (hf : Tryd.prog.funcs[f]? = some fn) (hname : (fn.name == "runtime.NumGoroutine") = false) (hb : fn.body = some c) : Goes f := fun args W => by
  have h1 : fn.name ≠ "runtime.NumGoroutine" := by simpa using hname
  simp [callFunc, hf, h1, hb]
theorem goes_wrong : Goes 45 := goes_of Tryd.func45 (by kernel_rfl) rfl
theorem goes_has : Goes 46 := goes_of Tryd.func46 (by kernel_rfl) rfl

set_option maxRecDepth 100000 in
set_option maxHeartbeats 1000000 in
theorem wrong1_any (s : Sp) (B : Option Addr) (c : Nat) (w : World) :
    Calls Tryd.prog 45 #[spV s B c] w fun e w' => e = .returned (.bool s.bad) ∧ Below w.heap.size w w' := by
  obtain ⟨x0, x1, x2, x3, x4, x5, x6, x7, x8, x9⟩ := s
  obtain ⟨na, hna⟩ : ∃ z, x8.length = z := ⟨_, rfl⟩
  unfold spV spCells
  dsimp only
  rw [hna]
  have HB := Lib.hid (box_below (W := w) (.cells #[.int .u64 (x0 : Int), .int .u64 (x1 : Int), .int .u64 (x2 : Int), .int .u64 (x3 : Int), .string x4, .int .i64 x5, .int .i64 x6, .bool x7, .slice B na c, .int .u64 (x9 : Int)] 36))
  clear hna
  go_enter Tryd.func45, Tryd.ntmps45
  go_wp2_with fail
  go_ret
  exact ⟨rfl, HB.out⟩
set_option maxRecDepth 100000 in
set_option maxHeartbeats 1000000 in
theorem has1_any (s : Sp) (B : Option Addr) (c P : Nat) (k v : ByteArray) (w : World) (hA : HoldsA w.heap.size w B s.attrs) (hn : s.attrs.length ≤ 9223372036854775807) (hP : Blk w P #[.string k, .string v] 65) :
    Calls Tryd.prog 46 #[spV s B c, .pointer (some ⟨P, 0, none⟩)] w fun e w' => e = .returned (.bool (s.attrs.any (isM k v))) ∧ Below w.heap.size w w' := by
  obtain ⟨x0, x1, x2, x3, x4, x5, x6, x7, x8, x9⟩ := s
  obtain ⟨na, hna⟩ : ∃ z, x8.length = z := ⟨_, rfl⟩
  unfold spV spCells
  dsimp only at hA hn ⊢
  rw [hna] at hn ⊢
  have hb := box_below (W := w) (.cells #[.int .u64 (x0 : Int), .int .u64 (x1 : Int), .int .u64 (x2 : Int), .int .u64 (x3 : Int), .string x4, .int .i64 x5, .int .i64 x6, .bool x7, .slice B na c, .int .u64 (x9 : Int)] 36)
  have hP2 := hP.later hb
  have p0 := hP2.cell 0 rfl
  have p1 := hP2.cell 1 rfl
  have H := Lib.hid (containsA_any B x8 na c k v _ hna hn (hA.later hb))
  have HB := Lib.hid hb
  clear hna hA hn hP hP2 hb
  go_enter Tryd.func46, Tryd.ntmps46
  go_wp2_with fail
  refine H.out.mono ?_
  rintro e w2 ⟨rfl, hb2⟩
  have HB2 := Lib.hid (HB.out.trans (hb2.mono HB.out.size))
  clear hb2
  go_wp2_with fail
  go_ret
  exact ⟨rfl, HB2.out⟩
/-- The table of methods, by their kinds. -/
def asks : Array Value := #[.nilFunc, .func (.func 36) #[] #[], .func (.func 37) #[] #[], .func (.func 38) #[] #[], .func (.func 39) #[] #[], .func (.func 40) #[] #[]]
set_option maxRecDepth 100000 in
set_option maxHeartbeats 1000000 in
theorem asked_any (w : World) : Calls Tryd.prog 26 #[] w fun e w' => e = .returned (.agg asks) ∧ Below w.heap.size w w' := by
  have HK := Lib.hid (blk_new w #[.nilFunc, .nilFunc, .nilFunc, .nilFunc, .nilFunc, .nilFunc] 56)
  have HB := Lib.hid (box_below (W := w) (.cells #[.nilFunc, .nilFunc, .nilFunc, .nilFunc, .nilFunc, .nilFunc] 56))
  go_enter Tryd.func26, Tryd.ntmps26
  go_wp2_with (refine wpList_store_row rfl 56 (.tmp 0) (.tmp 1) rfl w.heap.size asks rfl rfl 56 #[.nilFunc, .nilFunc, .nilFunc, .nilFunc, .nilFunc, .nilFunc] HK.out (by kernel_rfl) rfl (by simp [asks, Value.oneCell']) ?_)
  have hrz := setRow_heap _ _ _ asks _ _ HK.out
  exact bodyPost_ret (v := .agg asks) (results_cell_row Tryd.results26 _ _ _ _ _ _ _ rfl hrz Tryd.underlying56 rfl (by kernel_rfl)) rfl ⟨rfl, below_setRow HB.out (Nat.le_refl _) _⟩

/-- The boxes of a method: the rule, and the trace. -/
def boxes (w : World) (r : Ru) (A : Option Addr) (n cap num : Nat) : World := (w.alloc (.cells (ruCells r) 58)).alloc (.cells #[.slice A n cap, .int .u64 (num : Int)] 60)
theorem boxes_at (w : World) (r : Ru) (A : Option Addr) (n cap num : Nat) : Below w.heap.size w (boxes w r A n cap num) ∧ Blk (boxes w r A n cap num) w.heap.size (ruCells r) 58 ∧ Blk (boxes w r A n cap num) (w.heap.size + 1) #[.slice A n cap, .int .u64 (num : Int)] 60 ∧ (boxes w r A n cap num).heap.size = w.heap.size + 2 := by
  have h2 := blk_new (w.alloc (.cells (ruCells r) 58)) #[.slice A n cap, .int .u64 (num : Int)] 60
  rw [World.size_alloc] at h2
  exact ⟨(box_below _).alloc (by simp) _, (blk_new w _ _).later (box_below _), h2, by simp [boxes]⟩

set_option maxRecDepth 100000 in
set_option maxHeartbeats 2000000 in
theorem many_any (r : Ru) (A : Option Addr) (n cap num : Nat) (w : World) :
    Calls Tryd.prog 39 #[.agg (ruCells r), .agg #[.slice A n cap, .int .u64 (num : Int)]] w fun e w' => e = .returned (.bool (decide (r.a ≤ (n : Int)))) ∧ Below w.heap.size w w' := by
  obtain ⟨x0, x1, x2, x3⟩ := r
  have HB := Lib.hid (boxes_at w ⟨x0, x1, x2, x3⟩ A n cap num).1
  unfold boxes at HB
  unfold ruCells at HB ⊢
  dsimp only at HB ⊢
  obtain ⟨b, hb⟩ : ∃ b, decide (x1 ≤ (n : Int)) = b := ⟨_, rfl⟩
  rw [hb]
  go_enter Tryd.func39, Tryd.ntmps39
  go_wp2_with fail
  go_ret
  exact ⟨rfl, HB.out⟩
set_option maxRecDepth 100000 in
set_option maxHeartbeats 2000000 in
theorem share_any (r : Ru) (A : Option Addr) (n cap num : Nat) (w : World) (hlo : -9223372036854775808 ≤ r.a) (hhi : r.a ≤ 9223372036854775807) :
    Calls Tryd.prog 40 #[.agg (ruCells r), .agg #[.slice A n cap, .int .u64 (num : Int)]] w fun e w' => e = .returned (.bool (decide (0 ≤ r.a) && keep num r.a.toNat)) ∧ Below w.heap.size w w' := by
  obtain ⟨x0, x1, x2, x3⟩ := r
  have HB := Lib.hid (boxes_at w ⟨x0, x1, x2, x3⟩ A n cap num).1
  unfold boxes at HB
  unfold ruCells at HB ⊢
  dsimp only at HB hlo hhi ⊢
  by_cases h0 : 0 ≤ x1
  · obtain ⟨t, rfl⟩ : ∃ t : Nat, x1 = (t : Int) := ⟨x1.toNat, by omega⟩
    obtain ⟨b, hb⟩ : ∃ b, keep num t = b := ⟨_, rfl⟩
    have HK := Lib.hid fun W => keep_any num t W
    rw [hb] at HK
    have hd : decide ((0 : Int) ≤ (t : Int)) = true := by simp
    have hw : IntKind.u64.wrap (t : Int) = (t : Int) := IntWalk.u64_in _ (by omega)
    rw [hd, Int.toNat_natCast, hb, Bool.true_and]
    clear hb h0
    go_enter Tryd.func40, Tryd.ntmps40
    go_wp2_with fail
    refine (HK.out _).mono ?_
    rintro e w2 ⟨rfl, rfl⟩
    go_wp2_with fail
    go_ret
    exact ⟨rfl, HB.out⟩
  · have hd : decide ((0 : Int) ≤ x1) = false := by simp; omega
    rw [hd, Bool.false_and]
    clear h0
    go_enter Tryd.func40, Tryd.ntmps40
    go_wp2_with fail
    go_ret
    exact ⟨rfl, HB.out⟩
set_option maxRecDepth 100000 in
set_option maxHeartbeats 2000000 in
theorem wrong_any (r : Ru) (A : Option Addr) (l : List Sp) (n cap num : Nat) (w : World) (hn : l.length = n) (hn2 : n ≤ 9223372036854775807) (hr : HoldsS w.heap.size w A l) :
    Calls Tryd.prog 37 #[.agg (ruCells r), .agg #[.slice A n cap, .int .u64 (num : Int)]] w fun e w' => e = .returned (.bool (l.any fun s => s.bad)) ∧ Below w.heap.size w w' := by
  have hB := (boxes_at w r A n cap num).1
  have H := Lib.hid (containsS_any A l n cap 45 #[] (fun s => s.bad) (boxes w r A n cap num) hn hn2 (hr.later hB) goes_wrong fun W _ i _ B c _ => by
    simpa using wrong1_any (l.getD i sp0) B c W)
  have HB := Lib.hid hB
  clear hB hr hn
  obtain ⟨x0, x1, x2, x3⟩ := r
  obtain ⟨b, hb⟩ : ∃ b, (l.any fun s => s.bad) = b := ⟨_, rfl⟩
  unfold boxes at HB H
  unfold ruCells at HB H ⊢
  dsimp only at HB H ⊢
  rw [hb] at H ⊢
  clear hb
  go_enter Tryd.func37, Tryd.ntmps37
  go_wp2_with fail
  refine H.out.mono ?_
  rintro e w2 ⟨rfl, hb2⟩
  have HB2 := Lib.hid (HB.out.trans (hb2.mono HB.out.size))
  clear hb2
  go_wp2_with fail
  go_ret
  exact ⟨rfl, HB2.out⟩
set_option maxRecDepth 100000 in
set_option maxHeartbeats 2000000 in
theorem has_any (r : Ru) (A : Option Addr) (l : List Sp) (n cap num : Nat) (w : World) (hn : l.length = n) (hn2 : n ≤ 9223372036854775807) (hat : ∀ i, i < n → (l.getD i sp0).attrs.length ≤ 9223372036854775807) (hr : HoldsS w.heap.size w A l) :
    Calls Tryd.prog 38 #[.agg (ruCells r), .agg #[.slice A n cap, .int .u64 (num : Int)]] w fun e w' => e = .returned (.bool (l.any (hasM r))) ∧ Below w.heap.size w w' := by
  obtain ⟨hB, hK1, hK2, hs⟩ := boxes_at w r A n cap num
  obtain ⟨W2, hW2⟩ : ∃ W2, boxes w r A n cap num = W2 := ⟨_, rfl⟩
  obtain ⟨W3, hW3⟩ : ∃ W3, W2.alloc (.cells #[.string r.key, .string r.val] 65) = W3 := ⟨_, rfl⟩
  rw [hW2] at hB hs hK1 hK2
  have hb3 : Below W2.heap.size W2 W3 := by rw [← hW3]; exact box_below _
  have hK3 : Blk W3 (w.heap.size + 1 + 1) #[.string r.key, .string r.val] 65 := by
    rw [← hW3]
    have := blk_new W2 #[.string r.key, .string r.val] 65
    rw [hs] at this
    exact this
  have hB3 : Below w.heap.size w W3 := hB.trans (hb3.mono hB.size)
  have H := Lib.hid (containsS_any A l n cap 46 #[.pointer (some ⟨w.heap.size + 1 + 1, 0, none⟩)] (hasM r) W3 hn hn2 (hr.later hB3) goes_has fun W hW i hi B c hA => by
    have := has1_any (l.getD i sp0) B c (w.heap.size + 1 + 1) r.key r.val W ((hA.below hW).mono hW.size) (hat i hi) (hK3.later hW)
    rw [isM_at] at this
    simpa [hasM] using this)
  have q0 := (hK1.later hb3).cell 2 rfl
  have z0 : W3.cell? ⟨w.heap.size + 1, 0, none⟩ = some (.slice A n cap) := (hK2.later hb3).cell 0 rfl
  have HB3 := Lib.hid hB3
  clear hB hr hn hK1 hK2 hK3 hs hb3 hB3 q0 hat
  obtain ⟨x0, x1, x2, x3⟩ := r
  obtain ⟨b, hb⟩ : ∃ b, (l.any (hasM ⟨x0, x1, x2, x3⟩)) = b := ⟨_, rfl⟩
  rw [← hW2] at hW3
  unfold boxes at hW3
  unfold ruCells at hW3 ⊢
  dsimp only at hW3 ⊢
  rw [hb] at H ⊢
  clear hb hW2
  go_enter Tryd.func38, Tryd.ntmps38
  go_wp2_with fail
  refine H.out.mono ?_
  rintro e w2 ⟨rfl, hb2⟩
  have HB2 := Lib.hid (HB3.out.trans (hb2.mono HB3.out.size))
  clear hb2
  go_wp2_with fail
  go_ret
  exact ⟨rfl, HB2.out⟩
end Go.Proofs.YtmjbdjcpjaeemaaDoor
