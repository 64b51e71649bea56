/-
  Proved: HeapSorts returns true for every numbers and every shift: all that is put in comes out in order, each once. No condition.
-/
import Derived.Test.YtlbopajnnbnolaaHpMarks
import Derived.Test.YtlbopajnnbnolaaHpInts
namespace Go.Proofs.Ytlbopajnnbnolaa
open Go.ChangeShapes Go.WideShapes Go.ChangeAt Go.RowKit Go.Maps Go.Proofs.HeapMath

/-- The times. -/
def fS (cs : List Int) (s : Nat) (i : Nat) : Int := cs.getD i 0 / 2 ^ s
theorem pow_pos' (s : Nat) : (0 : Int) < 2 ^ s := Int.pow_pos (by omega)
theorem div_in {a p : Int} (hp : 0 < p) (h : -9223372036854775808 ≤ a ∧ a ≤ 9223372036854775807) : -9223372036854775808 ≤ a / p ∧ a / p ≤ 9223372036854775807 := by
  constructor
  · refine (Int.le_ediv_iff_mul_le hp).2 ?_
    omega
  · refine Int.ediv_le_of_le_mul hp ?_
    omega

/-- The heap, the marks of what came out, and the last one that did. -/
structure Osm (w₀ W : World) (S : Nat) (s : List Tm) (T N : Nat) (th : Nat → Bool) (bs : List Nat) (LB : Nat) (la lb : Int) : Prop where
  m : Om w₀ W S 200 s T N (fun j => !th j) bs
  l : Blk W LB #[.int .i64 la, .int .i64 lb] 31
  far : LB ∉ bs ∧ LB ≠ T
  base : w₀.heap.size ≤ LB
theorem Osm.later {w₀ W W' : World} {S T N LB : Nat} {s : List Tm} {th : Nat → Bool} {bs : List Nat} {la lb : Int} (h : Osm w₀ W S s T N th bs LB la lb) (hb : Below W.heap.size W W') : Osm w₀ W' S s T N th bs LB la lb := ⟨h.m.later hb, h.l.later hb, h.far, h.base⟩
theorem Osm.next {w₀ W W' : World} {S T N LB : Nat} {s s' : List Tm} {th : Nat → Bool} {bs bs' : List Nat} {la lb : Int} (h : Osm w₀ W S s T N th bs LB la lb) (ho : Ow w₀ W' S 200 s' bs') (hm : Mut bs W W') (hx : Ext W bs bs') : Osm w₀ W' S s' T N th bs' LB la lb :=
  ⟨h.m.next ho hm hx, h.l.mut hm h.far.1, ⟨far_ext hx h.far.1 h.l.lt, h.far.2⟩, h.base⟩
theorem Osm.set {w₀ W : World} {S T N LB : Nat} {s : List Tm} {th th' : Nat → Bool} {bs : List Nat} {la lb a b : Int} (h : Osm w₀ W S s T N th bs LB la lb) {k : Nat} (hk : k < N) (hb : th' k = false) (hg : ∀ j, j ≠ k → th' j = th j) :
    Osm w₀ (((W.setCell ⟨T, k, none⟩ (.int .i64 1)).setCell ⟨LB, 0, none⟩ (.int .i64 a)).setCell ⟨LB, 1, none⟩ (.int .i64 b)) S s T N th' bs LB a b := by
  have h1 := h.m.set (th' := fun j => !th' j) (b := true) hk (by simp [hb]) (fun j hj => by simp [hg j hj])
  have hm : Mut [LB] (W.setCell ⟨T, k, none⟩ (.int .i64 1)) (((W.setCell ⟨T, k, none⟩ (.int .i64 1)).setCell ⟨LB, 0, none⟩ (.int .i64 a)).setCell ⟨LB, 1, none⟩ (.int .i64 b)) := ((Mut.refl _ _).setCell (by simp) _).setCell (by simp) _
  have h2 : Om w₀ (W.setCell ⟨T, k, none⟩ (.int .i64 1)) S 200 s T N (fun j => !th' j) bs := h1
  have hl : Blk (W.setCell ⟨T, k, none⟩ (.int .i64 1)) LB #[.int .i64 la, .int .i64 lb] 31 := h.l.same (Below.heap_setCell _ _ _ _ h.far.2)
  refine ⟨⟨⟨h2.o.1.mut hm fun x hx hc => ?_, h2.o.2.1.trans (hm.below h2.o.2.1.size fun x hx => by rw [List.mem_singleton.1 hx]; exact h.base), h2.o.2.2⟩, h2.k.mut hm (by simpa using h.far.2.symm), h2.far, h2.base⟩, (hl.set 0 _).set 1 _, h.far, h.base⟩
  rw [List.mem_singleton.1 hc] at hx
  exact h.far.1 hx
set_option linter.unusedSimpArgs false in
set_option maxRecDepth 100000 in
set_option maxHeartbeats 4000000 in
theorem heapSorts_walk (A0 : Option Addr) (cs : List Int) (cap : Nat) (c : UInt8) (w : World) (hH : HoldsI w.heap.size w A0 cs) (hcap : cs.length ≤ cap) :
    Calls Try.prog 5 #[.slice A0 cs.length cap, .int .u8 (c.toNat : Int)] w fun e w' => e = .returned (.bool true) ∧ Below w.heap.size w w' := by
  obtain ⟨N, hN⟩ : ∃ N, cs.length = N := ⟨_, rfl⟩
  rw [hN] at hcap ⊢
  have hc3 := c.toNat_lt
  obtain ⟨sh, hsh, hsh2⟩ : ∃ sh : Nat, (c.toNat : Int) % 64 = (sh : Int) ∧ sh ≤ 63 := ⟨c.toNat % 64, by omega, by omega⟩
  obtain ⟨d, hd⟩ : ∃ d, c.toNat = d := ⟨_, rfl⟩
  rw [hd] at hc3 hsh ⊢
  have HH := Lib.hid hH
  have HN := Lib.hid hN
  clear hH hN hd
  by_cases hbig : 200 < N
  · have d1 : decide ((200 : Int) < (N : Int)) = true := by simp; omega
    go_enter Try.func5, Try.ntmps5
    go_wp2_with fail
    refine (known_any _).mono ?_
    rintro e w1 ⟨rfl, hb⟩
    have HB := Lib.hid hb
    clear hb
    go_wp2_with fail
    go_ret
    exact ⟨rfl, HB.out⟩
  have d1 : decide ((200 : Int) < (N : Int)) = false := by simp; omega
  have hNew : ∀ W, Below w.heap.size w W → _ := fun W hb => own_new (w₀ := w) (W := W) 200 hb (by omega) (by omega)
  have hrange : ∀ k, k < N → -9223372036854775808 ≤ fS cs sh k ∧ fS cs sh k ≤ 9223372036854775807 := fun k hk => by
    obtain ⟨b0, o0, _, hb0, hc0⟩ := HH.out (by rw [HN.out]; omega)
    exact div_in (pow_pos' _) (hc0 k (by rw [HN.out]; exact hk)).2
  have hPush : ∀ S bs W k, k < N → Ow w W S 200 (pushed (fS cs sh) k) bs → Calls Try.prog 10 #[.pointer (some ⟨S, 0, none⟩), .agg #[.int .i64 (fS cs sh k), .int .i64 (k : Int)]] W fun e w' => e = .returned (.int .u16 0) ∧ ∃ bs', Hid (Ow w w' S 200 (pushed (fS cs sh) (k + 1)) bs') := fun S bs W k hk h =>
    (own_push (fS cs sh k, (k : Int)) h ⟨hrange k hk, by simp only; omega⟩ (pushed_not _ _) (by rw [pushed_len]; omega)).mono fun e w' ⟨x1, bs', x2⟩ => ⟨x1, bs', Lib.hid x2.out.1⟩
  have HNEW := Lib.hid hNew
  have HPUSH := Lib.hid hPush
  have hmk := fun W => make_ints N (by omega) W
  clear hNew hPush hrange
  go_enter Try.func5, Try.ntmps5
  go_wp2_with fail
  refine (known_any _).mono ?_
  rintro e w1 ⟨rfl, hb⟩
  have HB := Lib.hid hb
  clear hb
  go_wp2_with fail
  refine (HNEW.out _ HB.out).mono ?_
  rintro e w2 ⟨S, bs, rfl, HO⟩
  clear HB HNEW
  go_wp2_with fail
  go_loopw [6] (fun kv wr => ∃ k : Nat, k ≤ N ∧ kv = .int .i64 (k : Int) ∧ Hid (∃ bs, Ow w wr S 200 (pushed (fS cs sh) k) bs)) (fun kv _ => N - (intOf kv).toNat)
  case atStart => exact ⟨0, by omega, rfl, Lib.hid ⟨bs, HO.out.1⟩⟩
  case round =>
    clear HO
    obtain ⟨k, hk, rfl, HR⟩ := hrel
    obtain ⟨bs, hO⟩ := HR.out
    by_cases hlt : k < N
    · have dl : decide ((k : Int) < (N : Int)) = true := by simp; omega
      have hP := HPUSH.out S bs wr k hlt hO
      obtain ⟨b0, o0, rfl, hb0, hc0⟩ := HH.out (by rw [HN.out]; omega)
      obtain ⟨hc1, hr1⟩ := hc0 k (by rw [HN.out]; exact hlt)
      have hcell := (hO.2.1.cell (p := ⟨b0, o0 + k, none⟩) hb0).trans hc1
      have hval : fS cs sh k = cs.getD k 0 / 2 ^ sh := rfl
      obtain ⟨x, hx⟩ : ∃ x, cs.getD k 0 = x := ⟨_, rfl⟩
      rw [hx] at hcell hval hr1
      obtain ⟨y, hy⟩ : ∃ y, fS cs sh k = y := ⟨_, rfl⟩
      rw [hy] at hP hval
      have hval2 : x / 2 ^ sh = y := hval.symm
      have HP := Lib.hid hP
      clear hP hval hx hc0 hc1 hO HR hy
      go_wp2_with fail
      refine HP.out.mono ?_
      rintro e w3 ⟨rfl, bs2, H2⟩
      go_wp2_with fail
      go_roundw
      case rel => exact ⟨k + 1, by omega, by go_num, Lib.hid ⟨bs2, H2.out⟩⟩
      case measure => simp [intOf]; omega
    · obtain rfl : k = N := by omega
      have dl : decide ((k : Int) < (k : Int)) = false := by simp
      have hstart : Hid (∀ T, wr.heap.size = T → Osm w ((wr.alloc (.cells (zeI k) 3)).alloc (.cells #[.int .i64 0, .int .i64 0] 31)) S (pushed (fS cs sh) k) T k (fun _ => true) bs (T + 1) 0 0) := Lib.hid fun T hT => by
        subst hT
        have hb1 : Below wr.heap.size wr (wr.alloc (.cells (zeI k) 3)) := box_below _
        have hb2 : Below (wr.alloc (.cells (zeI k) 3)).heap.size (wr.alloc (.cells (zeI k) 3)) ((wr.alloc (.cells (zeI k) 3)).alloc (.cells #[.int .i64 0, .int .i64 0] 31)) := box_below _
        have hlb := blk_new (wr.alloc (.cells (zeI k) 3)) #[.int .i64 0, .int .i64 0] 31
        rw [World.size_alloc] at hlb
        have hbs := hO.1.lt
        have hsz := hO.2.1.size
        refine ⟨⟨(hO.later hb1).later hb2, (mk_new wr k).later hb2, fun hm => by have := hbs _ hm; omega, hsz⟩, hlb, ⟨fun hm => by have := hbs _ hm; omega, by omega⟩, by omega⟩
      obtain ⟨T, hT⟩ : ∃ T, wr.heap.size = T := ⟨_, rfl⟩
      have HST := Lib.hid (hstart.out T hT)
      clear hstart hO HR HPUSH
      go_wp2_with fail
      generalize T + 1 = LB at HST ⊢
      clear hmk hT
      go_loopw [9] (fun iv wr => ∃ i : Nat, i ≤ k ∧ iv = .int .i64 (i : Int) ∧ Hid (∃ (th : Nat → Bool) (s : List Tm) (bs : List Nat) (la lb : Int), i + s.length = k ∧ Th (fS cs sh) k th s ∧ Osm w wr S s T k th bs LB la lb ∧ (0 < i → ∀ a ∈ s, lt (la, lb) a = true))) (fun iv _ => k - (intOf iv).toNat)
      case atStart => exact ⟨0, by omega, rfl, Lib.hid ⟨_, _, bs, 0, 0, by rw [pushed_len]; omega, th_all _ _ (fun _ _ => rfl), HST.out, fun h => absurd h (by omega)⟩⟩
      case round =>
        clear HST
        obtain ⟨i, hi, rfl, HR⟩ := hrel
        obtain ⟨th, s, bs, la, lb, hsl, hTh, hO, hla⟩ := HR.out
        by_cases hlt2 : i < k
        · have dl2 : decide (i < k) = true := by simp; omega
          obtain ⟨t, r, rfl⟩ : ∃ t r, s = t :: r := by
            cases s with
            | nil => simp at hsl; omega
            | cons t r => exact ⟨t, r, rfl⟩
          have hsn := hO.m.o.1.so
          obtain ⟨j, hj, hthj, rfl, hrest⟩ := hTh.first hsn.2.1
          have hP := own_pop hO.m.o
          have hlj : 0 < i → lt (la, lb) (fS cs sh j, (j : Int)) = true := fun h => hla h _ List.mem_cons_self
          have hra : ∀ a ∈ r, lt (fS cs sh j, (j : Int)) a = true := fun a ha => (hsn.1.head_le ha).2
          obtain ⟨b0, o0, rfl, hb0, hc0⟩ := HH.out (by rw [HN.out]; omega)
          obtain ⟨hc1, hr1⟩ := hc0 j (by rw [HN.out]; exact hj)
          have hval : cs.getD j 0 / 2 ^ sh = fS cs sh j := rfl
          obtain ⟨x, hx⟩ : ∃ x, cs.getD j 0 = x := ⟨_, rfl⟩
          rw [hx] at hval hr1 hc1
          have hmid : ∀ W bs', Ow w W S 200 r bs' → Mut bs wr W → Ext wr bs bs' → Osm w W S r T k th bs' LB la lb := fun W bs' h1 h2 h3 => hO.next h1 h2 h3
          obtain ⟨a, ha⟩ : ∃ a, fS cs sh j = a := ⟨_, rfl⟩
          simp only at hP
          rw [ha] at hP hlj hra hval
          have hrng : -9223372036854775808 ≤ a ∧ a ≤ 9223372036854775807 := by rw [← hval]; exact div_in (pow_pos' _) hr1
          have hnext : ∀ W bs', Osm w W S r T k th bs' LB la lb → Hid (∃ (th : Nat → Bool) (s : List Tm) (bs : List Nat) (la lb : Int), (i + 1) + s.length = k ∧ Th (fS cs sh) k th s ∧ Osm w (((W.setCell ⟨T, j, none⟩ (.int .i64 1)).setCell ⟨LB, 0, none⟩ (.int .i64 a)).setCell ⟨LB, 1, none⟩ (.int .i64 (j : Int))) S s T k th bs LB la lb ∧ (0 < i + 1 → ∀ a ∈ s, lt (la, lb) a = true)) := fun W bs' h =>
            Lib.hid ⟨fun q => if q = j then false else th q, r, bs', a, (j : Int), by simp at hsl; omega, hrest _ (by simp) (fun q hq => by simp [hq]), h.set hj (by simp) (fun q hq => by simp [hq]), fun _ => hra⟩
          have hmark : ∀ W bs', Osm w W S r T k th bs' LB la lb → W.cell? ⟨T, j, none⟩ = some (.int .i64 0) ∧ W.frozen? ⟨T, j, none⟩ = false := fun W bs' h => by
            have e : mk1 (!th j) = 0 := by rw [hthj]; rfl
            exact ⟨by rw [← e]; exact (h.m.k.2 j hj).1, (h.m.k.2 j hj).2⟩
          have HP := Lib.hid hP
          have HMID := Lib.hid hmid
          have HNX := Lib.hid hnext
          have HMK := Lib.hid hmark
          have HC1 := Lib.hid (show w.cell? ⟨b0, o0 + j, none⟩ = some (.int .i64 x) ∧ b0 < w.heap.size from ⟨hc1, hb0⟩)
          have dj : decide ((k : Int) ≤ (j : Int)) = false := by simp; omega
          have dj2 : decide (k ≤ j) = false := by simp; omega
          have hcases : (decide ((0 : Int) < (i : Int)) = false ∧ decide (0 < i) = false) ∨ (decide ((0 : Int) < (i : Int)) = true ∧ decide (0 < i) = true ∧ decide (a < la) = false ∧ ((a == la) = false ∨ ((a == la) = true ∧ decide ((j : Int) < lb) = false))) := by
            by_cases h : 0 < i
            · right
              have := lt_true.1 (hlj h)
              simp only at this
              refine ⟨by simp; omega, by simp; omega, by simp; omega, ?_⟩
              by_cases e : a = la
              · exact .inr ⟨by simp; exact e, by simp; omega⟩
              · exact .inl (by simp; exact e)
            · exact .inl ⟨by simp; omega, by simp; omega⟩
          clear hP hnext hmark hra hsn hO hTh hthj hrest hla HR hsl ha hx hc0 hc1 hb0 hmid hlj
          go_wp2_with fail
          refine HP.out.mono ?_
          rintro e w3 ⟨rfl, bs3, H3⟩
          have h3 := HMID.out _ _ H3.out.1 H3.out.2.1 H3.out.2.2
          have h4 := h3.later (box_below (.cells #[.int .i64 a, .int .i64 (j : Int)] 31))
          obtain ⟨n3, hn3⟩ : ∃ n3, w3.heap.size = n3 := ⟨_, rfl⟩
          have hk3 := blk_new w3 #[.int .i64 a, .int .i64 (j : Int)] 31
          rw [hn3] at hk3
          have hne : n3 ≠ T ∧ n3 ≠ LB := by have := h3.m.k.1; have := h3.l.lt; omega
          have k0 := hk3.cell 0 rfl
          have k1 := hk3.cell 1 rfl
          have l0 := h4.l.cell 0 rfl
          have l1 := h4.l.cell 1 rfl
          obtain ⟨c0, c1⟩ := HMK.out _ _ h4
          have hcx : (w3.alloc (.cells #[.int .i64 a, .int .i64 (j : Int)] 31)).cell? ⟨b0, o0 + j, none⟩ = some (.int .i64 x) := (h4.m.o.2.1.cell (p := ⟨b0, o0 + j, none⟩) HC1.out.2).trans HC1.out.1
          have H4 := Lib.hid (show Osm w (w3.alloc (.cells #[.int .i64 a, .int .i64 (j : Int)] 31)) S r T k th bs3 LB la lb ∧ Blk (w3.alloc (.cells #[.int .i64 a, .int .i64 (j : Int)] 31)) n3 #[.int .i64 a, .int .i64 (j : Int)] 31 from ⟨h4, hk3⟩)
          clear h3 h4 hk3 H3 HMID HP
          have htm : (d : Int).tmod 64 = (sh : Int) := by rw [Int.tmod_eq_emod_of_nonneg (by omega)]; exact hsh
          rcases hcases with ⟨di, di2⟩ | ⟨di, di2, da, de | ⟨dae, de⟩⟩
          all_goals
            go_wp2_with fail
            refine wp_region_quiet_lit (by kernel_rfl) (by kernel_rfl) ?_
            repeat (any_goals (first | go_big_quiet_step (fail) | quiet_step (fail)))
            refine wpQuiet_nil ?_
            intro _ hw'
            obtain ⟨nq, hw''⟩ := hw'
            subst hw''
            have h5 : Osm w ((w3.alloc (.cells #[.int .i64 a, .int .i64 (j : Int)] 31)).drewN nq) S r T k th bs3 LB la lb := H4.out.1.later ⟨rfl, rfl, rfl, Nat.le_refl _, fun _ _ => rfl⟩
            have hk5 : Blk ((w3.alloc (.cells #[.int .i64 a, .int .i64 (j : Int)] 31)).drewN nq) n3 #[.int .i64 a, .int .i64 (j : Int)] 31 := H4.out.2
            have H5 := Lib.hid h5
            have HK5 := Lib.hid hk5
            clear h5 hk5 H4 k0 k1 l0 l1 c0 c1 hcx hn3 htm
            generalize (w3.alloc (.cells #[.int .i64 a, .int .i64 (j : Int)] 31)).drewN nq = w5 at H5 HK5 ⊢
            obtain ⟨c0, c1⟩ := HMK.out _ _ H5.out
            have hks := HK5.out.same (Below.heap_setCell w5 ⟨T, j, none⟩ (.int .i64 1) n3 (by simpa using hne.1))
            have hls := H5.out.l.same (Below.heap_setCell w5 ⟨T, j, none⟩ (.int .i64 1) LB (by simpa using H5.out.far.2))
            have k1' := HK5.out.cell 1 rfl
            have k0 := hks.cell 0 rfl
            have k1 := hks.cell 1 rfl
            have l0 := hls.cell 0 rfl
            have l1 := hls.cell 1 rfl
            have f0 := hls.free 0
            have f1 := hls.free 1
            have HNN := HNX.out _ _ H5.out
            clear hks hls HK5 H5 HNX HMK
            go_wp2_with fail
            go_roundw
            case rel => exact ⟨i + 1, by omega, by go_num, HNN⟩
            case measure => simp [intOf]; omega
        · obtain rfl : i = k := by omega
          have dl2 : decide (i < i) = false := by simp
          obtain rfl : s = [] := List.eq_nil_of_length_eq_zero (by omega)
          have hP := hpop_no wr hO.m.o.1
          have hL : ∀ W, Below wr.heap.size wr W → Calls Try.prog 12 #[.pointer (some ⟨S, 0, none⟩)] W fun e w' => e = .returned (.int .i64 0) ∧ W = w' := fun W hb => own_len (hO.later hb).m.o
          have hE : ∀ W, Below wr.heap.size wr W → Below w.heap.size w W := fun W hb => (hO.later hb).m.o.2.1
          have HP := Lib.hid hP
          have HL := Lib.hid hL
          have HE := Lib.hid hE
          clear hP hL hE hO hTh hla hsl HR
          go_wp2_with fail
          refine HP.out.mono ?_
          rintro e w3 ⟨rfl, hb3⟩
          have hb4 : Below wr.heap.size wr (w3.alloc (.cells #[.int .i64 0, .int .i64 0] 31)) := hb3.alloc hb3.size _
          have HL4 := Lib.hid (HL.out _ hb4)
          have HE4 := Lib.hid (HE.out _ hb4)
          clear hb3 hb4 HL HE HP
          go_wp2_with fail
          refine HL4.out.mono ?_
          rintro e w' ⟨rfl, rfl⟩
          go_wp2_with fail
          go_ret
          exact ⟨rfl, HE4.out⟩
namespace HeapSorts
set_option linter.unusedSimpArgs false in
set_option maxRecDepth 100000 in
theorem lifted (os : Os) (started : os.Started) (H : Type) (enc : TypeId × Value → H) :
    ReturnsInHanded {} Try.checked os 5 .any (Rows.heapSortsSpec.pre6 enc Try.prog Try.f5 Rows.heapSortsRow.domain false) (Rows.heapSortsSpec.post enc Try.prog Try.f5 false true false false) := by
  refine returnsInHanded_of_change (C := Try.checked) own started (by kernel_rfl) Try.func5
    (ChangeSpec.witness6 (enc := enc) (C := Try.checked) false ⟨#[], #[.slice none 0 0, .int .u8 0], []⟩ 8 (by kernel_rfl) (by kernel_rfl) (by kernel_rfl) (by kernel_rfl)) ?_
  intro W base args ds gs before hval0 hW _ _
  have hval : ∀ (j : Nat) t v, Try.f5.params[j]? = some t → args[j]? = some v → Value.okWide Try.prog W .any base t v := hval0
  have hW' := hW
  obtain ⟨p, q, hA0, hV, rfl, _, _⟩ := hW
  have hA : DataW.TrodAll enc Try.prog W 0 (fun _ => true) true Try.f5.params.toList args.toList ds p := hA0
  rw [Try.params5] at hA hval
  obtain ⟨v0, vs0, d0, ds0, p0, q0, hargs, rfl, rfl, h0, r0⟩ := trodAll_cons hA
  obtain ⟨v1, vs1, d1, ds1, p1, q1, rfl, rfl, rfl, h1, r1⟩ := trodAll_cons r0
  obtain ⟨rfl, rfl, rfl⟩ := trodAll_nil r1
  obtain rfl : args = #[v0, v1] := by cases args; simp_all
  obtain ⟨rfl, rfl⟩ := trodVars_none hV
  obtain ⟨A0, cs0, cap0, rfl, l0, m0, b0⟩ := arg_ints (hval 0 26 v0 rfl rfl) h0
  obtain ⟨a1, rfl, rfl, rfl, w1⟩ := open_int Try.underlying5 (hval 1 5 v1 rfl rfl) h1
  have k1 := wf_u8 w1
  obtain ⟨n1, rfl⟩ : ∃ u : UInt8, a1 = (u.toNat : Int) := ⟨UInt8.ofNat a1.toNat, by simp; omega⟩
  clear hA0 hval0
  simp only [List.append_nil] at hW'
  refine (heapSorts_walk A0 cs0 cap0 n1 W b0 l0).mono fun e W' ⟨he, hg⟩ => ?_
  subst he
  exact ⟨_, rfl, true_last hW' rfl (by kernel_rfl) Try.underlying4 rfl rfl rfl (of_decide_eq_true (by kernel_rfl)) hg⟩

/-- **HeapSorts, at every input.** -/
theorem proved : Rows.HeapSortsSaid :=
  OpenClaim.holds_of_wide 5 Try.f5 rfl rfl rfl rfl rfl rfl rfl ⟨rfl, rfl, rfl, rfl, rfl⟩ rfl rfl rfl rfl rfl (by kernel_rfl) Try.func5 (by kernel_rfl)
    (of_decide_eq_true (by kernel_rfl)) (by unfold Func.isWrapper; first | (rw [if_pos (by decide +kernel)]; kernel_rfl) | (rw [if_neg (by decide +kernel)]; exact ⟨rfl, rfl⟩))
    (fun os started H enc _ => lifted os started H enc)
end HeapSorts

end Go.Proofs.Ytlbopajnnbnolaa
