/-
  Does each rule of a row hold; which is the first row that does? The program's answers.
-/
import Derived.Test.YtmjbdjcpjaeemaaDoorPoHolds
namespace Go.Proofs.YtmjbdjcpjaeemaaDoor
open Go.RowKit

theorem goes_each : Goes 35 := goes_of Tryd.func35 (by kernel_rfl) rfl
theorem goes_all : Goes 22 := goes_of Tryd.func22 (by kernel_rfl) rfl
theorem goes_which : Goes 24 := goes_of Tryd.func24 (by kernel_rfl) rfl

set_option maxRecDepth 100000 in
set_option maxHeartbeats 1000000 in
theorem each1_any (r : Ru) (F : Nat) (caps : Array Value) (b : Bool) (P : Nat) (w : World) (hP : Blk w P #[.func (.func F) #[] caps] 51) (hgo : Goes F)
    (hf : ∀ W, Below w.heap.size w W → Calls Tryd.prog F (#[.agg (ruCells r)] ++ caps) W fun e w' => e = .returned (.bool b) ∧ Below W.heap.size W w') :
    Calls Tryd.prog 35 #[.agg (ruCells r), .pointer (some ⟨P, 0, none⟩)] w fun e w' => e = .returned (.bool (!b)) ∧ Below w.heap.size w w' := by
  have hB := box_below (W := w) (.cells (ruCells r) 39)
  have p0 := (hP.later hB).cell 0 rfl
  have HB := Lib.hid hB
  have H := Lib.hid (hf _ hB)
  have hgo2 : ∀ args W, (callFunc F args).run Tryd.prog W = .ok (.enter F args) W := hgo
  clear hB hP hf hgo
  obtain ⟨x0, x1, x2, x3⟩ := r
  unfold ruCells at p0 H HB ⊢
  dsimp only at p0 H HB ⊢
  go_enter Tryd.func35, Tryd.ntmps35
  go_wp2_with fail
  refine H.out.mono ?_
  rintro e w2 ⟨rfl, hb2⟩
  have HB2 := Lib.hid (HB.out.trans (hb2.mono HB.out.size))
  clear hb2
  go_wp2_with fail
  go_ret
  exact ⟨rfl, HB2.out⟩
set_option maxRecDepth 100000 in
set_option maxHeartbeats 1000000 in
/-- Are all rules of a row as asked? -/
theorem each_any (A : Option Addr) (l : List Ru) (n cap : Nat) (F : Nat) (caps : Array Value) (p : Ru → Bool) (w : World) (hn : l.length = n) (hn2 : n ≤ 9223372036854775807) (hr : HoldsR w.heap.size w A l) (hgo : Goes F)
    (hf : ∀ W, Below w.heap.size w W → ∀ i, i < n → Calls Tryd.prog F (#[.agg (ruCells (l.getD i ru0))] ++ caps) W fun e w' => e = .returned (.bool (p (l.getD i ru0))) ∧ Below W.heap.size W w') :
    Calls Tryd.prog 21 #[.slice A n cap, .func (.func F) #[] caps] w fun e w' => e = .returned (.bool (l.all p)) ∧ Below w.heap.size w w' := by
  have hB := box_below (W := w) (.cells #[.func (.func F) #[] caps] 51)
  have hK := blk_new w #[.func (.func F) #[] caps] 51
  obtain ⟨b, hb⟩ : ∃ b, (l.any fun r => !p r) = b := ⟨_, rfl⟩
  have hall : l.all p = !b := by rw [← hb, List.not_any_eq_all_not]; simp
  have H : Hid (Calls Tryd.prog 34 #[.slice A n cap, .func (.func 35) #[] #[.pointer (some ⟨w.heap.size, 0, none⟩)]] (w.alloc (.cells #[.func (.func F) #[] caps] 51)) fun e w' => e = .returned (.bool b) ∧ Below w.heap.size w w') := Lib.hid (by
    rw [← hb]
    exact (containsR_any A l n cap 35 #[.pointer (some ⟨w.heap.size, 0, none⟩)] (fun r => !p r) _ hn hn2 (hr.later hB) goes_each fun W hW i hi =>
      each1_any (l.getD i ru0) F caps (p (l.getD i ru0)) w.heap.size W (hK.later hW) hgo fun W' hW' => hf W' (hB.trans ((hW.trans (hW'.mono hW.size)).mono hB.size)) i hi).mono fun e w' ⟨he, hb2⟩ => ⟨he, hB.trans (hb2.mono hB.size)⟩)
  rw [hall]
  clear hB hK hb hall hr hf hn hgo
  go_enter Tryd.func21, Tryd.ntmps21
  go_wp2_with fail
  refine H.out.mono ?_
  rintro e w2 ⟨rfl, hb2⟩
  go_wp2_with fail
  go_ret
  exact ⟨rfl, hb2⟩
/-- What a closure of All or Which has captured: the spans and the number. -/
def Caught (W : World) (P : Nat) (A : Option Addr) (n cap num : Nat) : Prop := Blk W P #[.slice A n cap] 28 ∧ Blk W (P + 1) #[.int .u64 (num : Int)] 24
theorem Caught.later {W W' : World} {P : Nat} {A : Option Addr} {n cap num : Nat} (h : Caught W P A n cap num) (hb : Below W.heap.size W W') : Caught W' P A n cap num := ⟨h.1.later hb, h.2.later hb⟩
def catch_ (w : World) (A : Option Addr) (n cap num : Nat) : World := (w.alloc (.cells #[.slice A n cap] 28)).alloc (.cells #[.int .u64 (num : Int)] 24)
theorem catch_at (w : World) (A : Option Addr) (n cap num : Nat) : Below w.heap.size w (catch_ w A n cap num) ∧ Caught (catch_ w A n cap num) w.heap.size A n cap num := by
  have h2 := blk_new (w.alloc (.cells #[.slice A n cap] 28)) #[.int .u64 (num : Int)] 24
  rw [World.size_alloc] at h2
  exact ⟨(box_below _).alloc (by simp) _, (blk_new w _ _).later (box_below _), h2⟩
set_option maxRecDepth 100000 in
set_option maxHeartbeats 1000000 in
theorem all1_any (r : Ru) (A : Option Addr) (l : List Sp) (n cap num P : Nat) (w : World) (hf : Fits n cap l) (ha : In64 r.a) (hr : HoldsS w.heap.size w A l) (hP : Caught w P A n cap num) :
    Calls Tryd.prog 22 #[.agg (ruCells r), .pointer (some ⟨P, 0, none⟩), .pointer (some ⟨P + 1, 0, none⟩)] w fun e w' => e = .returned (.bool (holdsM r l num)) ∧ Below w.heap.size w w' := by
  have hB := box_below (W := w) (.cells (ruCells r) 39)
  have p0 := (hP.later hB).1.cell 0 rfl
  have p1 := (hP.later hB).2.cell 0 rfl
  have HB := Lib.hid hB
  have H := Lib.hid (holds_any r A l n cap num _ hf ha (hr.later hB))
  obtain ⟨b, hb⟩ : ∃ b, holdsM r l num = b := ⟨_, rfl⟩
  rw [hb] at H ⊢
  clear hB hP hf hr ha hb
  obtain ⟨x0, x1, x2, x3⟩ := r
  unfold ruCells at p0 p1 H HB ⊢
  dsimp only at p0 p1 H HB ⊢
  go_enter Tryd.func22, Tryd.ntmps22
  go_wp2_with fail
  refine H.out.mono ?_
  rintro e w2 ⟨rfl, hb2⟩
  have HB2 := Lib.hid (HB.out.trans (hb2.mono HB.out.size))
  clear hb2
  go_wp2_with fail
  go_ret
  exact ⟨rfl, HB2.out⟩
set_option maxRecDepth 100000 in
set_option maxHeartbeats 1000000 in
theorem all_any (B : Option Addr) (row : List Ru) (m c : Nat) (A : Option Addr) (l : List Sp) (n cap num : Nat) (w : World) (hm : row.length = m) (hm2 : m ≤ 9223372036854775807) (ha : ∀ i, i < m → In64 (row.getD i ru0).a) (hR : HoldsR w.heap.size w B row) (hf : Fits n cap l) (hr : HoldsS w.heap.size w A l) :
    Calls Tryd.prog 12 #[.slice B m c, .slice A n cap, .int .u64 (num : Int)] w fun e w' => e = .returned (.bool (allM row l num)) ∧ Below w.heap.size w w' := by
  obtain ⟨hB, hC⟩ := catch_at w A n cap num
  have H : Hid (Calls Tryd.prog 21 #[.slice B m c, .func (.func 22) #[] #[.pointer (some ⟨w.heap.size, 0, none⟩), .pointer (some ⟨w.heap.size + 1, 0, none⟩)]] (catch_ w A n cap num) fun e w' => e = .returned (.bool (allM row l num)) ∧ Below w.heap.size w w') := Lib.hid
    ((each_any B row m c 22 #[.pointer (some ⟨w.heap.size, 0, none⟩), .pointer (some ⟨w.heap.size + 1, 0, none⟩)] (fun r => holdsM r l num) _ hm hm2 (hR.later hB) goes_all fun W hW i hi =>
      all1_any (row.getD i ru0) A l n cap num w.heap.size W hf (ha i hi) ((hr.later hB).later hW) (hC.later hW)).mono fun e w' ⟨he, hb2⟩ => ⟨he, hB.trans (hb2.mono hB.size)⟩)
  obtain ⟨b, hb⟩ : ∃ b, allM row l num = b := ⟨_, rfl⟩
  rw [hb] at H ⊢
  unfold catch_ at H
  clear hB hC hb hR hr hf ha hm
  go_enter Tryd.func12, Tryd.ntmps12
  go_wp2_with fail
  refine H.out.mono ?_
  rintro e w2 ⟨rfl, hb2⟩
  go_wp2_with fail
  go_ret
  exact ⟨rfl, hb2⟩
set_option maxRecDepth 100000 in
set_option maxHeartbeats 1000000 in
theorem which1_any (B : Option Addr) (row : List Ru) (m c : Nat) (A : Option Addr) (l : List Sp) (n cap num P : Nat) (w : World) (hm : row.length = m) (hm2 : m ≤ 9223372036854775807) (ha : ∀ i, i < m → In64 (row.getD i ru0).a) (hR : HoldsR w.heap.size w B row) (hf : Fits n cap l) (hr : HoldsS w.heap.size w A l) (hP : Caught w P A n cap num) :
    Calls Tryd.prog 24 #[.slice B m c, .pointer (some ⟨P, 0, none⟩), .pointer (some ⟨P + 1, 0, none⟩)] w fun e w' => e = .returned (.bool (allM row l num)) ∧ Below w.heap.size w w' := by
  have p0 := hP.1.cell 0 rfl
  have p1 := hP.2.cell 0 rfl
  have H := Lib.hid (all_any B row m c A l n cap num w hm hm2 ha hR hf hr)
  obtain ⟨b, hb⟩ : ∃ b, allM row l num = b := ⟨_, rfl⟩
  rw [hb] at H ⊢
  clear hb hR hr hf ha hm hP
  go_enter Tryd.func24, Tryd.ntmps24
  go_wp2_with fail
  refine H.out.mono ?_
  rintro e w2 ⟨rfl, hb2⟩
  go_wp2_with fail
  go_ret
  exact ⟨rfl, hb2⟩
/-- Rows of rules: no row longer than a slice may be, each number in its bounds. -/
def OkRows (ls : List (List Ru)) : Prop := ls.length ≤ 9223372036854775807 ∧ ∀ i, i < ls.length → (ls.getD i []).length ≤ 9223372036854775807 ∧ ∀ j, j < (ls.getD i []).length → In64 ((ls.getD i []).getD j ru0).a
set_option maxRecDepth 100000 in
set_option maxHeartbeats 1000000 in
theorem which_any (B : Option Addr) (ls : List (List Ru)) (m c : Nat) (A : Option Addr) (l : List Sp) (n cap num : Nat) (w : World) (hm : ls.length = m) (hok : OkRows ls) (hR : HoldsRR w.heap.size w B ls) (hf : Fits n cap l) (hr : HoldsS w.heap.size w A l) :
    Calls Tryd.prog 13 #[.slice B m c, .slice A n cap, .int .u64 (num : Int)] w fun e w' => e = .returned (.int .i64 (whichM ls l num)) ∧ Below w.heap.size w w' := by
  obtain ⟨hB, hC⟩ := catch_at w A n cap num
  have H : Hid (Calls Tryd.prog 23 #[.slice B m c, .func (.func 24) #[] #[.pointer (some ⟨w.heap.size, 0, none⟩), .pointer (some ⟨w.heap.size + 1, 0, none⟩)]] (catch_ w A n cap num) fun e w' => e = .returned (.int .i64 (whichM ls l num)) ∧ Below w.heap.size w w') := Lib.hid
    ((indexRR_any B ls m c 24 #[.pointer (some ⟨w.heap.size, 0, none⟩), .pointer (some ⟨w.heap.size + 1, 0, none⟩)] (fun row => allM row l num) _ hm (hm ▸ hok.1) (hR.later hB) goes_which fun W hW i hi B' c' hR' => by
      obtain ⟨h1, h2⟩ := hok.2 i (by omega)
      exact which1_any B' (ls.getD i []) _ c' A l n cap num w.heap.size W rfl h1 h2 ((hR'.below hW).mono hW.size) hf ((hr.later hB).later hW) (hC.later hW)).mono fun e w' ⟨he, hb2⟩ => ⟨he, hB.trans (hb2.mono hB.size)⟩)
  obtain ⟨k, hk⟩ : ∃ b, whichM ls l num = b := ⟨_, rfl⟩
  rw [hk] at H ⊢
  unfold catch_ at H
  clear hB hC hk hR hr hf hok hm
  go_enter Tryd.func13, Tryd.ntmps13
  go_wp2_with fail
  refine H.out.mono ?_
  rintro e w2 ⟨rfl, hb2⟩
  go_wp2_with fail
  go_ret
  exact ⟨rfl, hb2⟩
end Go.Proofs.YtmjbdjcpjaeemaaDoor
