/-
  Proved: TailOnce returns true for every two numbers and deeds: what is taken is told once. No condition.
-/
import Derived.Test.YtbmhhidlmdhacaaTlOnceW
namespace Go.Proofs.Ytbmhhidlmdhacaa
open Go.ChangeShapes Go.WideShapes Go.ChangeAt Go.RowKit Go.Maps Go.Proofs.HeapMath Go.Proofs.TailMath

def inSp (d : De) (i : Nat) : Sp := ⟨ofHi d, ofLo d, d.more + 1, 0, ⟨#[110]⟩, (i : Int), (d.more : Int), false, 0⟩
def ofC (d : De) : Array Value := #[.int .u64 (ofHi d : Int), .int .u64 (ofLo d : Int), .int .u64 ((d.more : Int) + 1), .int .u64 0, .string ⟨#[110]⟩, .int .i64 0, .int .i64 (d.more : Int), .bool false, .slice none 0 0, .int .u64 0]
theorem of_lit (d : De) (w : World) (hd : d.ok) : Calls Try.prog 21 #[.agg #[.int .u8 (d.what : Int), .int .u8 (d.after : Int), .int .u8 (d.trace : Int), .int .u8 (d.more : Int)]] w fun e w' => e = .returned (.agg (ofC d)) ∧ Below w.heap.size w w' := of_any d w hd
def All (w : World) (W : World) (S : Nat) (i t : Nat) (ins outs : List Int) (b : St) (A : Option Addr) (n cap : Nat) (A2 : Option Addr) (n2 cap2 : Nat) (bs : List Nat) : Prop := Ob w W S b bs ∧ OnI i t ins outs b ∧ OnW w.heap.size W A n cap ins A2 n2 cap2 outs bs
theorem once_offer {w W : World} {S i now t : Nat} {d : De} {b : St} {ins outs : List Int} {A A2 : Option Addr} {n cap n2 cap2 : Nat} {bs : List Nat} (h : All w W S i now ins outs b A n cap A2 n2 cap2 bs) (h1 : now ≤ t) (h2 : t ≤ 1000) (hi : i ≤ 100) :
    Calls Try.prog 12 #[.pointer (some ⟨S, 0, none⟩), .int .i64 (t : Int), .agg #[.int .u64 (ofHi d : Int), .int .u64 (ofLo d : Int), .int .u64 ((d.more : Int) + 1), .int .u64 0, .string ⟨#[110]⟩, .int .i64 (i : Int), .int .i64 (d.more : Int), .bool false, .slice none 0 0, .int .u64 0]] W
      fun e w' => (e = .returned (.tuple #[.int .u8 1, .int .u16 0]) ∧ ∃ bs' b', Hid (Ob w w' S b' bs' ∧ OnI (i + 1) t (ins ++ [(i : Int)]) outs b' ∧ OnW w.heap.size w' A n cap ins A2 n2 cap2 outs bs')) ∨ (e = .returned (.tuple #[.int .u8 2, .int .u16 0]) ∧ ∃ bs' b', Hid (All w w' S (i + 1) t ins outs b' A n cap A2 n2 cap2 bs')) := by
  obtain ⟨hO, hI, hW⟩ := h
  have ht := Nat.le_trans hI.time h1
  have hk : askK (inSp d i).hi (inSp d i).lo b.K = none := by rw [hI.K]; rfl
  have hu : u64 (inSp d i).hi ∧ u64 (inSp d i).lo := ofU d
  have hc : b.came ≤ 1000000000 := by have := hI.came; omega
  have hv : Iv b := hO.1.iv
  by_cases hr : TailMath.tot b.L = b.sp
  · exact (hO.offer (t : Int) (inSp d i) hu hc _ (offer_busy ht (by omega) hk hr)).mono fun e w' ⟨a, bs', y, z⟩ => .inr ⟨a, bs', _, Lib.hid ⟨y.out, hI.busy, hW.mut z.out.1 z.out.2⟩⟩
  · exact (hO.offer (t : Int) (inSp d i) hu hc _ (offer_taken ht (by omega) hk (by have := hv.tot; omega))).mono fun e w' ⟨a, bs', y, z⟩ => .inl ⟨a, bs', _, Lib.hid ⟨y.out, hI.taken hv rfl (by omega), hW.mut z.out.1 z.out.2⟩⟩
theorem once_due {w W : World} {S i now t : Nat} {b : St} {ins outs : List Int} {A A2 : Option Addr} {n cap n2 cap2 : Nat} {bs : List Nat} (h : All w W S i now ins outs b A n cap A2 n2 cap2 bs) (h1 : now ≤ t) (h2 : t ≤ 1000) (hi : i ≤ 100) :
    Calls Try.prog 13 #[.pointer (some ⟨S, 0, none⟩), .int .i64 (t : Int)] W
      fun e w' => ∃ V m M, e = .returned (.tuple #[.slice V m m, .int .u16 0]) ∧ ∃ bs' b' ys, n2 + M ≤ i ∧ Hid (Calls Try.prog 22 #[.slice V m m] w' fun e w2 => ∃ A' cap', e = .returned (.slice A' M cap') ∧ Hid (w2.ownsRow w'.heap.size 3 1 (.slice A' M cap') M (vI ys)) ∧ Hid (Below w'.heap.size w' w2)) ∧ Hid (Ob w w' S b' bs' ∧ OnI i t ins (outs ++ ys) b' ∧ OnW w.heap.size w' A n cap ins A2 n2 cap2 outs bs') ∧ Hid (t = now + 100 → b'.L = []) := by
  obtain ⟨hO, hI, hW⟩ := h
  have hv : Iv b := hO.1.iv
  obtain ⟨hI2, hf⟩ := hI.due (t := t)
  have hl1 := hI.some_
  have hl2 := due_len (l := b.L) (t := (t : Int))
  have hl3 := hW.lens
  have hl4 : (dueL (t : Int) b.L).length ≤ (stOf (dueL (t : Int) b.L)).length := len_stOf fun g hg => (hv.L.ok g ((List.takeWhile_sublist _).subset hg)).2.2.2.2
  refine (hO.due t (Nat.le_trans hI.time h1) (by omega) (by have := hI.came; omega) _ _ _ rfl rfl rfl).mono fun e w' ⟨V, l, a, x, y, bs', z, u⟩ => ⟨V, _, (stOf (dueL (t : Int) b.L)).length, a, bs', _, stOf (dueL (t : Int) b.L), by omega, Lib.hid ?_, Lib.hid ⟨z.out, hI2, hW.mut u.out.1 u.out.2⟩, Lib.hid fun e => ?_⟩
  · exact taken_any V l (dueL (t : Int) b.L) w' _ _ x.out rfl y.out hf rfl (by omega) (by omega)
  · subst e
    exact (hI.all hv).2

set_option linter.unusedSimpArgs false in
set_option maxRecDepth 100000 in
set_option maxHeartbeats 4000000 in
theorem tailOnce_walk (cs cw : UInt8) (A0 : Option Addr) (ls : List De) (cap0 : Nat) (w : World) (hH : Dds w.heap.size w A0 ls) (hcap : ls.length ≤ cap0) :
    Calls Try.prog 6 #[.int .u8 (cs.toNat : Int), .int .u8 (cw.toNat : Int), .slice A0 ls.length cap0] w fun e w' => e = .returned (.bool true) ∧ Below w.heap.size w w' := by
  obtain ⟨N, hN⟩ : ∃ N, ls.length = N := ⟨_, rfl⟩
  rw [hN] at hcap ⊢
  obtain ⟨sp, hsp, hsp1, hsp2⟩ : ∃ m : Nat, (1 : Int) + (cs.toNat : Int) % 30 = (m : Int) ∧ 1 ≤ m ∧ m ≤ 30 := ⟨1 + cs.toNat % 30, by omega, by omega, by omega⟩
  obtain ⟨wt, hwt, hwt1, hwt2⟩ : ∃ m : Nat, (1 : Int) + (cw.toNat : Int) % 20 = (m : Int) ∧ 1 ≤ m ∧ m ≤ 20 := ⟨1 + cw.toNat % 20, by omega, by omega, by omega⟩
  have hOf := of_lit
  unfold ofC at hOf
  have HOF := Lib.hid hOf
  have HKN := Lib.hid (known_any w)
  have HH := Lib.hid hH
  have HN := Lib.hid hN
  clear hOf hH hN
  go_enter Try.func6, Try.ntmps6
  by_cases hlong : 80 < N
  · have t1 : decide ((80 : Int) < (N : Int)) = true := by simp; omega
    go_wp2_with fail
    refine HKN.out.mono ?_
    rintro e w2 ⟨rfl, hb⟩
    have HE := Lib.hid hb
    clear hb
    go_wp2_with fail
    go_ret
    exact ⟨rfl, HE.out⟩
  · have t1 : decide ((80 : Int) < (N : Int)) = false := by simp; omega
    have hN80 : N ≤ 80 := by omega
    clear hlong
    go_wp2_with fail
    refine HKN.out.mono ?_
    rintro e w1 ⟨rfl, hb1⟩
    have HB1 := Lib.hid hb1
    have HNEW := Lib.hid (own_new sp wt 1 w1 (by omega) (by omega) (by omega))
    clear hb1
    go_wp2_with fail
    refine HNEW.out.mono ?_
    rintro e w2 ⟨S, bs, rfl, HO⟩
    have HST := Lib.hid (show All w w2 S 0 0 [] [] (new sp wt 1) none 0 0 none 0 0 bs from ⟨⟨HO.out.1, HB1.out.trans (HO.out.2.1.mono HB1.out.size), fun k hk => Nat.le_trans HB1.out.size (HO.out.2.2 k hk)⟩, OnI.start _ _ hwt2, OnW.nil _ _ _⟩)
    clear HO HNEW HB1 HKN t1
    go_wp2_with fail
    go_loopw [11, 8, 9, 10] (fun iv nv av ov wr => ∃ (i now n cap n2 cap2 : Nat) (A A2 : Option Addr) (ins outs : List Int) (bs : List Nat) (b : St), iv = .int .i64 (i : Int) ∧ nv = .int .i64 (now : Int) ∧ av = .slice A n cap ∧ ov = .slice A2 n2 cap2 ∧ i ≤ N ∧ now ≤ 4 * i ∧ Hid (All w wr S i now ins outs b A n cap A2 n2 cap2 bs)) (fun iv _ _ _ _ => N - (intOf iv).toNat)
    case atStart => exact ⟨0, 0, 0, 0, 0, 0, none, none, [], [], bs, _, rfl, rfl, rfl, rfl, by omega, by omega, HST⟩
    case round =>
      clear HST
      obtain ⟨i, now, n, cap, n2, cap2, A, A2, ins, outs, bs1, b1, rfl, rfl, rfl, rfl, hi, hnow, HB⟩ := hrel
      by_cases hin : i < N
      · have di : decide ((i : Int) < (N : Int)) = true := by simp; omega
        obtain ⟨b0, o0, rfl, hb0, hc0⟩ := HH.out (by rw [HN.out]; omega)
        obtain ⟨d, hd⟩ : ∃ d, ls.getD i de0 = d := ⟨_, rfl⟩
        have hcl := hc0 i (by rw [HN.out]; exact hin)
        rw [hd] at hcl
        obtain ⟨l0, l1, l2, l3, hok⟩ := hcl
        have HL := Lib.hid (show ∀ W, Below w.heap.size w W → W.cell? ⟨b0, o0 + i * 4, none⟩ = some (.int .u8 (d.what : Int)) ∧ W.cell? ⟨b0, o0 + i * 4 + 1, none⟩ = some (.int .u8 (d.after : Int)) ∧ W.cell? ⟨b0, o0 + i * 4 + 2, none⟩ = some (.int .u8 (d.trace : Int)) ∧ W.cell? ⟨b0, o0 + i * 4 + 3, none⟩ = some (.int .u8 (d.more : Int)) from fun W hW =>
          ⟨(hW.cell (p := ⟨b0, _, none⟩) hb0).trans l0, (hW.cell (p := ⟨b0, _, none⟩) hb0).trans l1, (hW.cell (p := ⟨b0, _, none⟩) hb0).trans l2, (hW.cell (p := ⟨b0, _, none⟩) hb0).trans l3⟩)
        have HOK := Lib.hid hok
        obtain ⟨r, hr, hr2⟩ : ∃ r : Nat, (d.after : Int) % 5 = (r : Int) ∧ r ≤ 4 := ⟨d.after % 5, by omega, by omega⟩
        obtain ⟨t, ht, ht2⟩ : ∃ t : Nat, (now : Int) + (r : Int) = (t : Int) ∧ t = now + r := ⟨now + r, by omega, rfl⟩
        have HT := Lib.hid ht2
        have ht3 : t ≤ 400 := by omega
        have hd255 : d.what ≤ 255 ∧ d.after ≤ 255 ∧ d.more ≤ 255 := ⟨hok.1, hok.2.1, hok.2.2.2⟩
        clear l0 l1 l2 l3 hc0 hd hok ht2
        obtain ⟨q0, q1, q2, q3⟩ := HL.out wr HB.out.1.2.1
        go_wp2_with fail
        refine (HOF.out d wr HOK.out).mono ?_
        rintro e w2 ⟨rfl, hb2⟩
        clear q0 q1 q2 q3
        have hbel : Below wr.heap.size wr (w2.alloc (.cells #[.int .u64 (ofHi d : Int), .int .u64 (ofLo d : Int), .int .u64 ((d.more : Int) + 1), .int .u64 0, .string ⟨#[110]⟩, .int .i64 (i : Int), .int .i64 (d.more : Int), .bool false, .slice none 0 0, .int .u64 0] 35)) := hb2.trans ((box_below _).mono hb2.size)
        have HC := Lib.hid (once_offer (d := d) (show All w (w2.alloc (.cells #[.int .u64 (ofHi d : Int), .int .u64 (ofLo d : Int), .int .u64 ((d.more : Int) + 1), .int .u64 0, .string ⟨#[110]⟩, .int .i64 (i : Int), .int .i64 (d.more : Int), .bool false, .slice none 0 0, .int .u64 0] 35)) S i now ins outs b1 A n cap A2 n2 cap2 bs1 from ⟨HB.out.1.later hbel, HB.out.2.1, HB.out.2.2.later hbel⟩) (t := t) (by rw [HT.out]; omega) (by omega) (by omega))
        clear hbel hb2 HB
        go_wp2_with fail
        refine HC.out.mono ?_
        clear HC
        rintro e w3 (⟨rfl, bs3, b3, H3⟩ | ⟨rfl, bs3, b3, H3⟩)
        · obtain ⟨n3, hn3⟩ : ∃ n, w3.heap.size = n := ⟨_, rfl⟩
          obtain ⟨i0, hi0, hz0, hz1, hz2⟩ := info_parts info_int'
          have hb1 := hn3 ▸ blk_new w3 #[.int .i64 (i : Int)] 3
          have HX := Lib.hid (show ∀ j u, [Value.int .i64 (i : Int)][j]? = some u → (w3.alloc (.cells #[.int .i64 (i : Int)] 3)).cell? ⟨n3, j, none⟩ = some u from fun j u hj => hb1.cell j (by simpa using hj))
          have hn100 : n ≤ 100 := by have h1 := H3.out.2.2.lens; have h2 := H3.out.2.1.len; rw [List.length_append] at h2; simp only [List.length_singleton] at h2; omega
          clear hb1
          go_wp2_with (refine app_one Try.underlying26 hi0 hz0 hz1 hz2 rfl (by decide) rfl (.tmp 82) (.tmp 84) rfl w.heap.size A n cap (vI ins) [.int .i64 (i : Int)] n3 1 rfl (H3.out.2.2.rowI.alloc _) rfl rfl HX.out (by simp [Value.oneCell']) (by omega) (by omega) (by rw [World.size_alloc]; exact Nat.le_succ_of_le H3.out.1.2.1.size) ?_)
          intro g cap3 W4 hown hgr hor
          have H5 := Lib.hid (show All w W4 S (i + 1) t (ins ++ [(i : Int)]) outs b3 (some ⟨g, 0, none⟩) (n + 1) cap3 A2 n2 cap2 bs3 from ⟨H3.out.2.2.besideI (B := 0) H3.out.1 hgr rfl, H3.out.2.1, H3.out.2.2.pushI H3.out.1.1.lt hgr hown (by rw [World.size_alloc, hn3]; exact hor)⟩)
          clear hown hgr hor hi0 hz0 hz1 hz2 hn3 H3
          obtain ⟨q0, q1, q2, q3⟩ := HL.out W4 H5.out.1.2.1
          by_cases hz : d.what % 3 = 0
          · have hw3 : (d.what : Int) % 3 = 0 := by omega
            have HC := Lib.hid (once_due H5.out (t := t) (Nat.le_refl _) (by omega) (by omega))
            clear hz
            go_wp2_with fail
            refine HC.out.mono ?_
            rintro e w6 ⟨V, m, M, rfl, bs6, b6, ys, hM, HTK, H6, _⟩
            clear HC H5 q0 q1 q2 q3
            go_wp2_with fail
            refine HTK.out.mono ?_
            rintro e w7 ⟨At, ct, rfl, HR7, HB7⟩
            obtain ⟨nm, hnm⟩ : ∃ x, n2 + M = x := ⟨_, rfl⟩
            have H7 := Lib.hid (show Ob w w7 S b6 bs6 ∧ OnI (i + 1) t (ins ++ [(i : Int)]) (outs ++ ys) b6 ∧ OnW w.heap.size w7 (some ⟨g, 0, none⟩) (n + 1) cap3 (ins ++ [(i : Int)]) A2 n2 cap2 outs bs6 from ⟨H6.out.1.later HB7.out, H6.out.2.1, H6.out.2.2.later HB7.out⟩)
            have hbase : w.heap.size ≤ w7.heap.size := H7.out.1.2.1.size
            have hMM : n2 + M ≤ 1000 := by omega
            clear H6 HB7 HTK
            go_wp2_with (refine app_ints rfl (.tmp 99) (.tmp 101) rfl w.heap.size w6.heap.size A2 At n2 cap2 M ct nm hnm outs ys rfl H7.out.2.2.rowO rfl HR7.out hMM hbase ?_)
            intro A8 cap8 w8 hown hgr hor
            have H8 := Lib.hid (show All w w8 S (i + 1) t (ins ++ [(i : Int)]) (outs ++ ys) b6 (some ⟨g, 0, none⟩) (n + 1) cap3 A8 nm cap8 bs6 from ⟨H7.out.2.2.besideO H7.out.1 hgr, H7.out.2.1, H7.out.2.2.pushO H7.out.1.1.lt hgr hown hor⟩)
            clear hown hgr hor H7 HR7
            go_wp2_with fail
            go_roundw
            case rel => exact ⟨i + 1, t, (n + 1), cap3, nm, cap8, (some ⟨g, 0, none⟩), A8, (ins ++ [(i : Int)]), outs ++ ys, bs6, b6, by simp, rfl, rfl, rfl, by omega, by have := HT.out; omega, H8⟩
            case measure => simp [intOf]; omega
          · obtain ⟨r3, hr3, hr4⟩ : ∃ r : Nat, (d.what : Int) % 3 = (r : Int) ∧ ¬ r = 0 := ⟨d.what % 3, by omega, hz⟩
            have hr5 : ¬ (r3 : Int) = 0 := by omega
            clear hz
            go_wp2_with fail
            go_roundw
            case rel => exact ⟨i + 1, t, (n + 1), cap3, n2, cap2, (some ⟨g, 0, none⟩), A2, (ins ++ [(i : Int)]), outs, bs3, b3, by simp, rfl, rfl, rfl, by omega, by have := HT.out; omega, H5⟩
            case measure => simp [intOf]; omega
        · skip
          obtain ⟨q0, q1, q2, q3⟩ := HL.out w3 H3.out.1.2.1
          by_cases hz : d.what % 3 = 0
          · have hw3 : (d.what : Int) % 3 = 0 := by omega
            have HC := Lib.hid (once_due H3.out (t := t) (Nat.le_refl _) (by omega) (by omega))
            clear hz
            go_wp2_with fail
            refine HC.out.mono ?_
            rintro e w6 ⟨V, m, M, rfl, bs6, b6, ys, hM, HTK, H6, _⟩
            clear HC H3 q0 q1 q2 q3
            go_wp2_with fail
            refine HTK.out.mono ?_
            rintro e w7 ⟨At, ct, rfl, HR7, HB7⟩
            obtain ⟨nm, hnm⟩ : ∃ x, n2 + M = x := ⟨_, rfl⟩
            have H7 := Lib.hid (show Ob w w7 S b6 bs6 ∧ OnI (i + 1) t ins (outs ++ ys) b6 ∧ OnW w.heap.size w7 A n cap ins A2 n2 cap2 outs bs6 from ⟨H6.out.1.later HB7.out, H6.out.2.1, H6.out.2.2.later HB7.out⟩)
            have hbase : w.heap.size ≤ w7.heap.size := H7.out.1.2.1.size
            have hMM : n2 + M ≤ 1000 := by omega
            clear H6 HB7 HTK
            go_wp2_with (refine app_ints rfl (.tmp 99) (.tmp 101) rfl w.heap.size w6.heap.size A2 At n2 cap2 M ct nm hnm outs ys rfl H7.out.2.2.rowO rfl HR7.out hMM hbase ?_)
            intro A8 cap8 w8 hown hgr hor
            have H8 := Lib.hid (show All w w8 S (i + 1) t ins (outs ++ ys) b6 A n cap A8 nm cap8 bs6 from ⟨H7.out.2.2.besideO H7.out.1 hgr, H7.out.2.1, H7.out.2.2.pushO H7.out.1.1.lt hgr hown hor⟩)
            clear hown hgr hor H7 HR7
            go_wp2_with fail
            go_roundw
            case rel => exact ⟨i + 1, t, n, cap, nm, cap8, A, A8, ins, outs ++ ys, bs6, b6, by simp, rfl, rfl, rfl, by omega, by have := HT.out; omega, H8⟩
            case measure => simp [intOf]; omega
          · obtain ⟨r3, hr3, hr4⟩ : ∃ r : Nat, (d.what : Int) % 3 = (r : Int) ∧ ¬ r = 0 := ⟨d.what % 3, by omega, hz⟩
            have hr5 : ¬ (r3 : Int) = 0 := by omega
            clear hz
            go_wp2_with fail
            go_roundw
            case rel => exact ⟨i + 1, t, n, cap, n2, cap2, A, A2, ins, outs, bs3, b3, by simp, rfl, rfl, rfl, by omega, by have := HT.out; omega, H3⟩
            case measure => simp [intOf]; omega
      · obtain rfl : i = N := by omega
        have di : decide ((i : Int) < (i : Int)) = false := by simp
        clear HOF HH hcap
        obtain ⟨t, ht, ht2⟩ : ∃ t : Nat, (now : Int) + 100 = (t : Int) ∧ t = now + 100 := ⟨now + 100, by omega, rfl⟩
        have HC := Lib.hid (once_due HB.out (t := t) (by omega) (by omega) (by omega))
        have HT := Lib.hid ht2
        have ht3 : t ≤ 1000 := by omega
        clear ht2
        go_wp2_with fail
        refine HC.out.mono ?_
        rintro e w6 ⟨V, m, M, rfl, bs6, b6, ys, hM, HTK, H6, HNIL⟩
        clear HC HB
        go_wp2_with fail
        refine HTK.out.mono ?_
        rintro e w7 ⟨At, ct, rfl, HR7, HB7⟩
        obtain ⟨nm, hnm⟩ : ∃ x, n2 + M = x := ⟨_, rfl⟩
        have H7 := Lib.hid (show Ob w w7 S b6 bs6 ∧ OnI i t ins (outs ++ ys) b6 ∧ OnW w.heap.size w7 A n cap ins A2 n2 cap2 outs bs6 from ⟨H6.out.1.later HB7.out, H6.out.2.1, H6.out.2.2.later HB7.out⟩)
        have hbase : w.heap.size ≤ w7.heap.size := H7.out.1.2.1.size
        have hMM : n2 + M ≤ 1000 := by omega
        clear H6 HB7 HTK
        go_wp2_with (refine app_ints rfl (.tmp 110) (.tmp 112) rfl w.heap.size w6.heap.size A2 At n2 cap2 M ct nm hnm outs ys rfl H7.out.2.2.rowO rfl HR7.out hMM hbase ?_)
        intro A8 cap8 w8 hown hgr hor
        obtain ⟨fs, hfs⟩ : ∃ x, outs ++ ys = x := ⟨_, rfl⟩
        rw [hfs] at hown H7
        have H8 := Lib.hid (show All w w8 S i t ins fs b6 A n cap A8 nm cap8 bs6 from ⟨H7.out.2.2.besideO H7.out.1 hgr, H7.out.2.1, hfs ▸ H7.out.2.2.pushO H7.out.1.1.lt hgr (by rw [hfs]; exact hown) hor⟩)
        clear hown hgr hor H7 HR7 hMM hbase
        have hmk := make_ints i (by omega) w8
        have hp : fs.Perm ins := by
          have h1 := H8.out.2.1.perm
          rw [HNIL.out HT.out] at h1
          simpa [stOf] using h1
        have hnm80 : nm ≤ 80 := by omega
        obtain rfl : n = nm := by
          have h1 := H8.out.2.2.lens
          have h2 := hp.length_eq
          omega
        obtain ⟨hnd, hlt, hall⟩ := on_end hp H8.out.2.1.up H8.out.2.1.lt
        have HE := Lib.hid (show fs.Nodup ∧ (∀ x ∈ fs, 0 ≤ x ∧ x < (i : Int)) ∧ (∀ x ∈ ins, x ∈ fs) ∧ fs.length = n ∧ ins.length = n ∧ TailMath.tot b6.L = 0 from ⟨hnd, hlt, hall, H8.out.2.2.lens.2, H8.out.2.2.lens.1, by rw [HNIL.out HT.out]; rfl⟩)
        clear hp hnd hlt hall HNIL HT hfs hnm hM
        obtain ⟨Ns, hNs⟩ : ∃ x, w8.heap.size = x := ⟨_, rfl⟩
        have hbk := hNs ▸ blk_new w8 (zeI i) 3
        have H9 := Lib.hid (show All w (w8.alloc (.cells (zeI i) 3)) S i t ins fs b6 A n cap A8 n cap8 bs6 ∧ Blk (w8.alloc (.cells (zeI i) 3)) Ns (zeI i) 3 ∧ (Ns ∉ bs6 ∧ w.heap.size ≤ Ns) ∧ (∀ g, (Value.slice A n cap).ownBlock = some g → g ≠ Ns) ∧ (∀ g, (Value.slice A8 n cap8).ownBlock = some g → g ≠ Ns) from
          ⟨⟨H8.out.1.later (box_below _), H8.out.2.1, H8.out.2.2.later (box_below _)⟩, hbk, ⟨fun e => by have := H8.out.1.1.lt Ns e; omega, by rw [← hNs]; exact H8.out.1.2.1.size⟩, fun g hg => by have := (H8.out.2.2.rowI.lt g hg).2; omega, fun g hg => by have := (H8.out.2.2.rowO.lt g hg).2; omega⟩)
        clear hbk H8
        go_wp2_with fail
        clear hNs hmk
        generalize w8.alloc (.cells (zeI i) 3) = w9 at H9 ⊢
        have hatO : ∀ j, j < n → ∀ W, Mut [Ns] w9 W → ∃ x go : Nat, x < i ∧ A8 = some ⟨go, 0, none⟩ ∧ n ≤ cap8 ∧ W.cell? ⟨go, j, none⟩ = some (.int .i64 (x : Int)) ∧ fs[j]? = some (x : Int) := fun j hj W hW => by
          have hr := H9.out.1.2.2.rowO
          obtain ⟨hnd, hlt, hall, hfl, hil, _⟩ := HE.out
          obtain ⟨go, capr, e2, _, hg2⟩ := hr.form (by omega)
          injection e2 with e2 _ e3
          subst e2
          have hrc := hr.cellAt j (by omega)
          have hjf : j < fs.length := by omega
          obtain ⟨h0, h1⟩ := hlt fs[j] (List.getElem_mem hjf)
          obtain ⟨x, hx⟩ := Int.eq_ofNat_of_zero_le h0
          refine ⟨x, go, by omega, rfl, ?_, ?_, by rw [List.getElem?_eq_getElem hjf, hx]⟩
          · rcases hr.2 with ⟨e, _⟩ | ⟨g', c', cur, e, _, _, h2, _⟩
            · cases e
            · injection e with _ _ e; omega
          · have hb := hW.block go hg2 (by simp; exact H9.out.2.2.2.2 go rfl)
            exact (World.cell?_of_block (w := w9) hb).trans (by rw [hrc]; simp [vI, hjf, hx])
        have hatI : ∀ j, j < n → ∀ W, Mut [Ns] w9 W → ∃ x go : Nat, x < i ∧ A = some ⟨go, 0, none⟩ ∧ n ≤ cap ∧ W.cell? ⟨go, j, none⟩ = some (.int .i64 (x : Int)) ∧ (x : Int) ∈ fs := fun j hj W hW => by
          have hr := H9.out.1.2.2.rowI
          obtain ⟨hnd, hlt, hall, hfl, hil, _⟩ := HE.out
          obtain ⟨go, capr, e2, _, hg2⟩ := hr.form (by omega)
          injection e2 with e2 _ e3
          subst e2
          have hrc := hr.cellAt j (by omega)
          have hjf : j < ins.length := by omega
          have hm := hall ins[j] (List.getElem_mem hjf)
          obtain ⟨h0, h1⟩ := hlt ins[j] hm
          obtain ⟨x, hx⟩ := Int.eq_ofNat_of_zero_le h0
          refine ⟨x, go, by omega, rfl, ?_, ?_, by rw [hx] at hm; exact hm⟩
          · rcases hr.2 with ⟨e, _⟩ | ⟨g', c', cur, e, _, _, h2, _⟩
            · cases e
            · injection e with _ _ e; omega
          · have hb := hW.block go hg2 (by simp; exact H9.out.2.2.2.1 go rfl)
            exact (World.cell?_of_block (w := w9) hb).trans (by rw [hrc]; simp [vI, hjf, hx])
        have HAO := Lib.hid hatO
        have HAI := Lib.hid hatI
        have hc9 : ∃ C, Blk w9 Ns C 3 ∧ SeenC i C (fs.take 0) := ⟨_, H9.out.2.1, SeenC.start i⟩
        have HC9 := Lib.hid hc9
        clear hatO hatI hc9
        go_loopw [20] (fun jv wr => ∃ j : Nat, jv = .int .i64 (j : Int) ∧ j ≤ n ∧ Hid (Mut [Ns] w9 wr) ∧ Hid (∃ C, Blk wr Ns C 3 ∧ SeenC i C (fs.take j))) (fun jv _ => n - (intOf jv).toNat)
        case atStart => exact ⟨0, rfl, by omega, Lib.hid (Mut.refl _ _), HC9⟩
        case round =>
          clear HC9
          obtain ⟨j, rfl, hj, HM, HS⟩ := hrel
          obtain ⟨C, hC1, hC2⟩ := HS.out
          by_cases hjn : j < n
          · have dj : decide ((j : Int) < (n : Int)) = true := by simp; omega
            obtain ⟨x, go, hx, rfl, hnc, c1, hfx⟩ := HAO.out j hjn wr HM.out
            have hx0 : decide ((x : Int) < 0) = false := by simp
            have hx1 : decide ((i : Int) ≤ (x : Int)) = false := by simp; omega
            have hx2 : decide (i ≤ x) = false := by simp; omega
            have hnot : ¬ (x : Int) ∈ fs.take j := fun hm => by
              obtain ⟨hjl, e⟩ := List.getElem?_eq_some_iff.1 hfx
              obtain ⟨k, hk, e2⟩ := List.getElem_of_mem hm
              simp at hk
              rw [List.getElem_take] at e2
              have := (List.pairwise_iff_getElem.1 HE.out.1) k j (by omega) hjl (by omega)
              exact this (e2.trans e.symm)
            have cN : wr.cell? ⟨Ns, x, none⟩ = some (.int .i64 0) := hC1.cell x ((hC2.at_ x hx).trans (by rw [if_neg hnot]))
            have fN : wr.frozen? ⟨Ns, x, none⟩ = false := hC1.free x
            have HNX := Lib.hid (show Mut [Ns] w9 (wr.setCell ⟨Ns, x, none⟩ (.int .i64 1)) ∧ ∃ C, Blk (wr.setCell ⟨Ns, x, none⟩ (.int .i64 1)) Ns C 3 ∧ SeenC i C (fs.take (j + 1)) from
              ⟨HM.out.setCell (by simp) _, _, hC1.set x _, by
                obtain ⟨hjl, e⟩ := List.getElem?_eq_some_iff.1 hfx
                rw [List.take_succ_eq_append_getElem hjl, e]
                exact hC2.next hx⟩)
            have hx80 : x ≤ 80 := by omega
            clear hnot hfx hC1 hC2 HS HM
            go_wp2_with fail
            go_roundw
            case rel => exact ⟨j + 1, by simp, by omega, Lib.hid HNX.out.1, Lib.hid HNX.out.2⟩
            case measure => simp [intOf]; omega
          · obtain rfl : n = j := by omega
            have dj : decide ((n : Int) < (n : Int)) = false := by simp
            have hS2 : SeenC i C fs := by
              have h := hC2
              rw [List.take_of_length_le (by rw [HE.out.2.2.2.1]; exact Nat.le_refl _)] at h
              exact h
            have HS2 := Lib.hid hS2
            have HC1 := Lib.hid hC1
            clear hS2 hC1 hC2 HS
            go_wp2_with fail
            have hO : Ob w wr S b6 bs6 := H9.out.1.1.beside HM.out fun k hk => by rw [List.mem_singleton.1 hk]; exact H9.out.2.2.1
            have HLEN := Lib.hid (show Calls Try.prog 15 #[.pointer (some ⟨S, 0, none⟩)] wr fun e w' => e = .returned (.int .i64 0) ∧ wr = w' from own_len hO 0 HE.out.2.2.2.2.2)
            have HEN := Lib.hid hO.2.1
            clear hO
            obtain ⟨Wo, rfl⟩ : ∃ Wo, Wo = wr := ⟨_, rfl⟩
            go_loopw [21] (fun kv wq => ∃ k : Nat, kv = .int .i64 (k : Int) ∧ k ≤ n ∧ Hid (Wo = wq)) (fun kv _ => n - (intOf kv).toNat)
            case atStart => exact ⟨0, rfl, by omega, Lib.hid rfl⟩
            case round =>
              obtain ⟨k, rfl, hk, HW⟩ := hrel
              obtain rfl := HW.out
              by_cases hkn : k < n
              · have dk : decide ((k : Int) < (n : Int)) = true := by simp; omega
                obtain ⟨x, go, hx, rfl, hnc, c1, hfx⟩ := HAI.out k hkn Wo HM.out
                have cN : Wo.cell? ⟨Ns, x, none⟩ = some (.int .i64 1) := HC1.out.cell x ((HS2.out.at_ x hx).trans (by rw [if_pos hfx]))
                have hx80 : x ≤ 80 := by omega
                clear hfx
                go_wp2_with fail
                go_roundw
                case rel => exact ⟨k + 1, by simp, by omega, Lib.hid trivial⟩
                case measure => simp [intOf]; omega
              · obtain rfl : n = k := by omega
                have dk : decide ((n : Int) < (n : Int)) = false := by simp
                go_wp2_with fail
                refine HLEN.out.mono ?_
                rintro e w' ⟨rfl, rfl⟩
                go_wp2_with fail
                go_ret
                exact ⟨rfl, HEN.out⟩
namespace TailOnce
set_option linter.unusedSimpArgs false in
set_option maxRecDepth 100000 in
theorem lifted (os : Os) (started : os.Started) (H : Type) (enc : TypeId × Value → H) :
    ReturnsInHanded {} Try.checked os 6 .any (Rows.tailOnceSpec.pre6 enc Try.prog Try.f6 Rows.tailOnceRow.domain false) (Rows.tailOnceSpec.post enc Try.prog Try.f6 false true false false) := by
  refine returnsInHanded_of_change (C := Try.checked) own started (by kernel_rfl) Try.func6
    (ChangeSpec.witness6 (enc := enc) (C := Try.checked) false ⟨#[], #[.int .u8 0, .int .u8 0, .slice none 0 0], []⟩ 8 (by kernel_rfl) (by kernel_rfl) (by kernel_rfl) (by kernel_rfl)) ?_
  intro W base args ds gs before hval0 hW _ _
  have hval : ∀ (j : Nat) t v, Try.f6.params[j]? = some t → args[j]? = some v → Value.okWide Try.prog W .any base t v := hval0
  have hW' := hW
  obtain ⟨p, q, hA0, hV, rfl, _, _⟩ := hW
  have hA : DataW.TrodAll enc Try.prog W 0 (fun _ => true) true Try.f6.params.toList args.toList ds p := hA0
  rw [Try.params6] at hA hval
  obtain ⟨v0, vs0, d0, ds0, p0, q0, hargs, rfl, rfl, h0, r0⟩ := trodAll_cons hA
  obtain ⟨v1, vs1, d1, ds1, p1, q1, rfl, rfl, rfl, h1, r1⟩ := trodAll_cons r0
  obtain ⟨v2, vs2, d2, ds2, p2, q2, rfl, rfl, rfl, h2, r2⟩ := trodAll_cons r1
  obtain ⟨rfl, rfl, rfl⟩ := trodAll_nil r2
  obtain rfl : args = #[v0, v1, v2] := by cases args; simp_all
  obtain ⟨rfl, rfl⟩ := trodVars_none hV
  obtain ⟨a0, rfl, rfl, rfl, w0⟩ := open_int Try.underlying5 (hval 0 5 v0 rfl rfl) h0
  have k0 := wf_u8 w0
  obtain ⟨n0, rfl⟩ : ∃ u : UInt8, a0 = (u.toNat : Int) := ⟨UInt8.ofNat a0.toNat, by simp; omega⟩
  obtain ⟨a1, rfl, rfl, rfl, w1⟩ := open_int Try.underlying5 (hval 1 5 v1 rfl rfl) h1
  have k1 := wf_u8 w1
  obtain ⟨n1, rfl⟩ : ∃ u : UInt8, a1 = (u.toNat : Int) := ⟨UInt8.ofNat a1.toNat, by simp; omega⟩
  obtain ⟨A2, cs2, cap2, rfl, l2, m2, b2⟩ := arg_deeds (hval 2 46 v2 rfl rfl) h2
  clear hA0 hval0
  simp only [List.append_nil] at hW'
  refine (tailOnce_walk n0 n1 A2 cs2 cap2 W b2 l2).mono fun e W' ⟨he, hg⟩ => ?_
  subst he
  exact ⟨_, rfl, true_last hW' rfl (by kernel_rfl) Try.underlying4 rfl rfl rfl (of_decide_eq_true (by kernel_rfl)) hg⟩

/-- **TailOnce, at every input.** -/
theorem proved : Rows.TailOnceSaid :=
  OpenClaim.holds_of_wide 6 Try.f6 rfl rfl rfl rfl rfl rfl rfl ⟨rfl, rfl, rfl, rfl, rfl⟩ rfl rfl rfl rfl rfl (by kernel_rfl) Try.func6 (by kernel_rfl)
    (of_decide_eq_true (by kernel_rfl)) (by unfold Func.isWrapper; first | (rw [if_pos (by decide +kernel)]; kernel_rfl) | (rw [if_neg (by decide +kernel)]; exact ⟨rfl, rfl⟩))
    (fun os started H enc _ => lifted os started H enc)
end TailOnce

end Go.Proofs.Ytbmhhidlmdhacaa
