/-
  Both Decodes tell the same of all bytes: the program's and the document's own.
-/
import Derived.Test.YtklgggolkclebaaItemRefDec
import Derived.Test.YtklgggolkclebaaItemDecOk
import Derived.Test.YtklgggolkclebaaItemSame
import Derived.Test.YtklgggolkclebaaItemOf
namespace Go.Proofs.Ytklgggolkclebaa
open Go.RowKit Go.Proofs.NumMath Go.Proofs.ItemMath

theorem noSp_no : noSpan noSp = true := by decide
theorem dec_span {s : Sp} (h1 : s.hi < 18446744073709551616) (h2 : s.lo < 18446744073709551616) (h3 : s.id < 18446744073709551616) (h4 : s.par < 18446744073709551616) (hright : rightSpan s = true) {cs : List UInt8} (hcs : (1 : UInt8) :: encSpan s = cs) : decOf cs = some (1, s, noLg) := by
  obtain ⟨p1, p2, p3, p4, p5, p6, p7, p8⟩ := right_parts hright
  have hf : fieldsOf (encSpan s) = some (fSpan s) := by
    rw [← flat_fSpan]
    refine fieldsOf_enc ?_
    unfold fSpan
    refine ok_app (ok_fN (by omega) h1) (ok_app (ok_fN (by omega) h2) (ok_app (ok_fN (by omega) h3) (ok_app (ok_fN (by omega) h4) (ok_app (ok_fT (by omega) (by omega)) (ok_app (ok_fN (by omega) (by omega)) (ok_app (ok_fN (by omega) (by omega)) (ok_app (ok_fN (by omega) ?_) (ok_app (ok_fN (by omega) (by omega)) (ok_fAttrs _ fun a ha => ⟨(p8 a ha).2.1, (p8 a ha).2.2⟩)))))))))
    unfold badN; split <;> omega
  subst hcs
  refine dec_some hf rfl ?_ ?_
  · unfold stateOf
    rw [if_pos (by decide), fold_span s ⟨p2, p3⟩ ⟨p4, p5⟩ p8]
  · unfold encItem
    rw [if_pos (by decide), if_pos ⟨hright, rfl, rfl, rfl, rfl⟩]
theorem dec_log {g : Lg} (hright : rightLog g = true) {cs : List UInt8} (hcs : (2 : UInt8) :: encLog g = cs) : decOf cs = some (2, noSp, g) := by
  obtain ⟨p1, p2, p3, p4, p5, p6⟩ := rightLog_parts hright
  have hf : fieldsOf (encLog g) = some (fLog g) := by
    rw [← flat_fLog]
    refine fieldsOf_enc ?_
    unfold fLog
    exact ok_app (ok_fT (by omega) (by omega)) (ok_app (ok_fN (by omega) (by omega)) (ok_app (ok_fN (by omega) (by omega)) (ok_fT (by omega) (by omega))))
  subst hcs
  refine dec_some hf rfl ?_ ?_
  · unfold stateOf
    rw [if_neg (by decide), fold_log g ⟨p4, p5⟩]
  · unfold encItem
    rw [if_neg (by decide), if_pos (by decide), if_pos ⟨hright, noSp_no⟩]
theorem state_ok {k : Nat} : ∀ (l : List Fld), (∀ f ∈ l, okL f) → okS (stateOf k l).1 := fun l h => by
  have hz : okS noSp := ⟨by decide, by decide, by decide, by decide, by decide, by simp [noSp]⟩
  have hfold : ∀ (l : List Fld) (s : Sp), (∀ f ∈ l, okL f) → okS s → okS (l.foldl putSp s) := fun l => by
    induction l with
    | nil => intro s _ hs; exact hs
    | cons f r ih => intro s hall hs; exact ih _ (fun g hg => hall g (by simp [hg])) (okS_put hs (hall f (by simp)))
  unfold stateOf
  split
  · exact hfold l noSp h hz
  · exact hz
theorem dec_told {cs : List UInt8} {k : Nat} {S : Sp} {G : Lg} (h : decOf cs = some (k, S, G)) : encItem k S G = some cs ∧ okS S := by
  match cs, h with
  | c :: r, h =>
    simp only [decOf] at h
    split at h
    · cases h
    · rename_i l hl
      split at h
      · rename_i he
        injection h with h
        have hk : c.toNat = k := congrArg (·.1) h
        have hs : stateOf c.toNat l = (S, G) := congrArg (·.2) h
        rw [hs, hk] at he
        refine ⟨he, ?_⟩
        have := state_ok (k := c.toNat) l (runF_ok _ _ _ hl)
        rw [hs] at this
        exact this
      · cases h
theorem dec_bad {cs : List UInt8} (h1 : ¬ (cs.getD 0 0 = 1 ∧ rightSpan (readSpan cs) = true ∧ (1 : UInt8) :: encSpan (readSpan cs) = cs)) (h2 : ¬ (cs.getD 0 0 = 2 ∧ rightLog (readLog cs) = true ∧ (2 : UInt8) :: encLog (readLog cs) = cs)) : decOf cs = none := by
  rcases hd : decOf cs with _ | ⟨k, S, G⟩
  · rfl
  · exfalso
    obtain ⟨he, s1, s2, s3, s4, _⟩ := dec_told hd
    unfold encItem at he
    split at he
    · split at he
      · rename_i hk hc
        injection he with he
        obtain ⟨p1, p2, p3, p4, p5, p6, p7, p8⟩ := right_parts hc.1
        have hr := readSpan_enc 1 S s1 s2 s3 s4 p1 ⟨p2, p3⟩ ⟨p4, p5⟩ (by omega) p6 p8
        rw [he] at hr
        exact h1 ⟨by rw [← he]; rfl, by rw [hr]; exact hc.1, by rw [hr]; exact he⟩
      · cases he
    · split at he
      · split at he
        · rename_i hc
          injection he with he
          obtain ⟨p1, p2, p3, p4, p5, p6⟩ := rightLog_parts hc.1
          have hr := readLog_enc 2 G p1 (by omega) ⟨p4, p5⟩ p6
          rw [he] at hr
          exact h2 ⟨by rw [← he]; rfl, by rw [hr]; exact hc.1, by rw [hr]; exact he⟩
        · cases he
      · cases he

/-- What the program's Decode tells. -/
def ProgTold (cs : List UInt8) (w : World) (e : Ending) (w' : World) : Prop :=
  Below w.heap.size w w' ∧ (decOf cs = none ∧ e = .returned (.tuple #[.agg itZ, .int .u16 40]) ∨
    ∃ (k : Nat) (S : Sp) (G : Lg) (A : Option Addr) (n c : Nat), decOf cs = some (k, S, G) ∧ S.attrs.length = n ∧ n ≤ 8 ∧ e = .returned (.tuple #[.agg (itC k S A n c G), .int .u16 0]) ∧ HoldsA w'.heap.size w' A S.attrs)
set_option maxHeartbeats 2000000 in
theorem decode_prog (A : Option Addr) (cs : List UInt8) (len cap : Nat) (W : World) (hlen : cs.length = len) (hl : len ≤ cap) (hcap : cap ≤ 9223372036854775807) (hr : Holds8 W.heap.size W A cs) :
    Calls Try.prog 20 #[.slice A len cap] W (ProgTold cs W) := by
  rcases Nat.eq_zero_or_pos len with rfl | hpos
  · have : cs = [] := List.eq_nil_of_length_eq_zero hlen
    subst this
    exact (decode_nil A cap W).mono fun e W' h => ⟨h.2, .inl ⟨rfl, h.1⟩⟩
  by_cases h2 : cs.getD 0 0 = 2
  · have n1 : ¬ cs.getD 0 0 = 1 := by rw [h2]; decide
    cases hright : rightLog (readLog cs) with
    | false => exact (decode_log_bad A cs len cap W hlen hpos hl hcap hr h2 hright).mono fun e W' h => ⟨h.2, .inl ⟨dec_bad (fun h => n1 h.1) (fun h => by rw [hright] at h; cases h.2.1), h.1⟩⟩
    | true =>
      by_cases heq : (2 : UInt8) :: encLog (readLog cs) = cs
      · have hD := decode_log A cs len cap W hlen hpos hl hcap hr h2 hright heq
        have hd := dec_log hright heq
        generalize readLog cs = l at hD hd
        obtain ⟨key, weight, a, body⟩ := l
        dsimp only at hD
        exact hD.mono fun e W' ⟨he, hb⟩ => ⟨hb, .inr ⟨2, noSp, ⟨key, weight, a, body⟩, none, 0, 0, hd, rfl, by omega, he, fun h => absurd h (by simp [noSp])⟩⟩
      · exact (decode_log_other A cs len cap W hlen hpos hl hcap hr h2 hright heq).mono fun e W' h => ⟨h.2, .inl ⟨dec_bad (fun h => n1 h.1) (fun h => heq h.2.2), h.1⟩⟩
  by_cases h1 : cs.getD 0 0 = 1
  · cases hright : rightSpan (readSpan cs) with
    | false => exact (decode_span_bad A cs len cap W hlen hpos hl hcap hr h1 hright).mono fun e W' h => ⟨h.2, .inl ⟨dec_bad (fun h => by rw [hright] at h; cases h.2.1) (fun h => h2 h.1), h.1⟩⟩
    | true =>
      by_cases heq : (1 : UInt8) :: encSpan (readSpan cs) = cs
      · have hD := decode_span A cs len cap W hlen hpos hl hcap hr h1 hright heq
        obtain ⟨f1, f2, f3, f4, f5, f6, f7, _⟩ := readSpan_fits cs
        have hd := dec_span f1 f2 f3 f4 hright heq
        generalize readSpan cs = l at hD hd f7
        obtain ⟨hi, lo, id, par, name, start, stop, bad, al, rv⟩ := l
        dsimp only at hD f7
        exact hD.mono fun e W' ⟨A', n', c', he, hn, hA, hb⟩ => ⟨hb, .inr ⟨1, ⟨hi, lo, id, par, name, start, stop, bad, al, rv⟩, noLg, A', n', c', hd, hn.symm, by omega, he, hA⟩⟩
      · exact (decode_span_other A cs len cap W hlen hpos hl hcap hr h1 hright heq).mono fun e W' h => ⟨h.2, .inl ⟨dec_bad (fun h => heq h.2.2) (fun h => h2 h.1), h.1⟩⟩
  · exact (decode_kind (cs.getD 0 0).toNat A cs len cap W hlen hpos hl hcap hr rfl (fun h => h1 (UInt8.toNat_inj.1 h)) (fun h => h2 (UInt8.toNat_inj.1 h))).mono fun e W' h => ⟨h.2, .inl ⟨dec_bad (fun h => h1 h.1) (fun h => h2 h.1), h.1⟩⟩

theorem decode_ref (A : Option Addr) (cs : List UInt8) (len cap : Nat) (w : World) (hlen : cs.length = len) (hl : len ≤ cap) (hcap : cap ≤ 9223372036854775807) (hbd : len ≤ 100000) (hr : Holds8 w.heap.size w A cs) :
    Calls Try.prog 32 #[.slice A len cap] w (DecTold cs w) := by
  match cs, hlen, hr with
  | [], hlen, _ =>
    have : len = 0 := by rw [← hlen]; rfl
    subst this
    exact refDecode_nil A cap w
  | c :: r, hlen, hr => exact refDecode_some A c r len cap w hlen hl hcap hbd hr

set_option linter.unusedSimpArgs false in
set_option linter.unusedVariables false in
set_option maxRecDepth 100000 in
set_option maxHeartbeats 4000000 in
theorem reads_any (A : Option Addr) (cs : List UInt8) (len cap : Nat) (w : World) (hlen : cs.length = len) (hl : len ≤ cap) (hcap : cap ≤ 9223372036854775807) (hbd : len ≤ 100000) (hr : Holds8 w.heap.size w A cs) :
    Calls Try.prog 18 #[.slice A len cap] w fun e w' => e = .returned (.bool true) ∧ Below w.heap.size w w' := by
  have HP := Lib.hid (decode_prog A cs len cap w hlen hl hcap hr)
  have HD := Lib.hid (fun (W : World) (h : Below w.heap.size w W) => decode_ref A cs len cap W hlen hl hcap hbd (hr.later h))
  clear hr hlen
  go_enter Try.func18, Try.ntmps18
  go_wp2_with fail
  refine HP.out.mono ?_
  rintro e w1 ⟨hb1, hP⟩
  have HB1 := Lib.hid hb1
  rcases hP with ⟨hN, rfl⟩ | ⟨k, S, G, A1, n, c1, hY, hn, hn8, rfl, hA1⟩
  · have HN := Lib.hid hN
    have HB2 := Lib.hid (HB1.out.alloc HB1.out.size (.cells #[.int .u8 0, .int .u64 0, .int .u64 0, .int .u64 0, .int .u64 0, .string ⟨#[]⟩, .int .i64 0, .int .i64 0, .bool false, .slice none 0 0, .int .u64 0, .string ⟨#[]⟩, .int .u64 0, .int .i64 0, .string ⟨#[]⟩] 38))
    have hZ : ∀ W, Calls Try.prog 21 #[.agg #[.int .u8 0, .int .u64 0, .int .u64 0, .int .u64 0, .int .u64 0, .string ⟨#[]⟩, .int .i64 0, .int .i64 0, .bool false, .slice none 0 0, .int .u64 0, .string ⟨#[]⟩, .int .u64 0, .int .i64 0, .string ⟨#[]⟩], .agg #[.int .u8 0, .int .u64 0, .int .u64 0, .int .u64 0, .int .u64 0, .string ⟨#[]⟩, .int .i64 0, .int .i64 0, .bool false, .slice none 0 0, .int .u64 0, .string ⟨#[]⟩, .int .u64 0, .int .i64 0, .string ⟨#[]⟩]] W fun e W' => e = .returned (.bool true) ∧ Below W.heap.size W W' := fun W =>
      same_any 0 0 0 0 0 0 0 0 0 0 ⟨#[]⟩ ⟨#[]⟩ ⟨#[]⟩ 0 0 0 false none none [] W rfl (by omega) (fun h => absurd h (by simp)) (fun h => absurd h (by simp))
    have HZ := Lib.hid hZ
    clear hb1 hN hZ HP
    unfold itZ
    go_wp2_with fail
    refine (HD.out _ HB2.out).mono ?_
    rintro e w3 ⟨hb3, hQ⟩
    rcases hQ with ⟨_, rfl⟩ | ⟨_, _, _, _, _, _, hY, _⟩
    · have HB3 := Lib.hid (HB2.out.trans (hb3.mono HB2.out.size))
      have HK3 := Lib.hid ((blk_new w1 #[.int .u8 0, .int .u64 0, .int .u64 0, .int .u64 0, .int .u64 0, .string ⟨#[]⟩, .int .i64 0, .int .i64 0, .bool false, .slice none 0 0, .int .u64 0, .string ⟨#[]⟩, .int .u64 0, .int .i64 0, .string ⟨#[]⟩] 38).same (hb3.block _ (by rw [World.size_alloc]; omega)))
      have hlt3 := HK3.out.lt
      have z0 : w3.cell? ⟨w1.heap.size, 0, none⟩ = some (.int .u8 0) := HK3.out.cell 0 rfl
      have z1 : w3.cell? ⟨w1.heap.size, 1, none⟩ = some (.int .u64 0) := HK3.out.cell 1 rfl
      have z2 : w3.cell? ⟨w1.heap.size, 2, none⟩ = some (.int .u64 0) := HK3.out.cell 2 rfl
      have z3 : w3.cell? ⟨w1.heap.size, 3, none⟩ = some (.int .u64 0) := HK3.out.cell 3 rfl
      have z4 : w3.cell? ⟨w1.heap.size, 4, none⟩ = some (.int .u64 0) := HK3.out.cell 4 rfl
      have z5 : w3.cell? ⟨w1.heap.size, 5, none⟩ = some (.string ⟨#[]⟩) := HK3.out.cell 5 rfl
      have z6 : w3.cell? ⟨w1.heap.size, 6, none⟩ = some (.int .i64 0) := HK3.out.cell 6 rfl
      have z7 : w3.cell? ⟨w1.heap.size, 7, none⟩ = some (.int .i64 0) := HK3.out.cell 7 rfl
      have z8 : w3.cell? ⟨w1.heap.size, 8, none⟩ = some (.bool false) := HK3.out.cell 8 rfl
      have z9 : w3.cell? ⟨w1.heap.size, 9, none⟩ = some (.slice none 0 0) := HK3.out.cell 9 rfl
      have z10 : w3.cell? ⟨w1.heap.size, 10, none⟩ = some (.int .u64 0) := HK3.out.cell 10 rfl
      have z11 : w3.cell? ⟨w1.heap.size, 11, none⟩ = some (.string ⟨#[]⟩) := HK3.out.cell 11 rfl
      have z12 : w3.cell? ⟨w1.heap.size, 12, none⟩ = some (.int .u64 0) := HK3.out.cell 12 rfl
      have z13 : w3.cell? ⟨w1.heap.size, 13, none⟩ = some (.int .i64 0) := HK3.out.cell 13 rfl
      have z14 : w3.cell? ⟨w1.heap.size, 14, none⟩ = some (.string ⟨#[]⟩) := HK3.out.cell 14 rfl
      clear hb3 HD
      unfold itZ
      go_wp2_with fail
      refine (HZ.out _).mono ?_
      rintro e w4 ⟨rfl, hb4⟩
      have HB4 := Lib.hid ((HB3.out.alloc HB3.out.size (.cells #[.int .u8 0, .int .u64 0, .int .u64 0, .int .u64 0, .int .u64 0, .string ⟨#[]⟩, .int .i64 0, .int .i64 0, .bool false, .slice none 0 0, .int .u64 0, .string ⟨#[]⟩, .int .u64 0, .int .i64 0, .string ⟨#[]⟩] 38)).trans (hb4.mono (HB3.out.alloc HB3.out.size (.cells #[.int .u8 0, .int .u64 0, .int .u64 0, .int .u64 0, .int .u64 0, .string ⟨#[]⟩, .int .i64 0, .int .i64 0, .bool false, .slice none 0 0, .int .u64 0, .string ⟨#[]⟩, .int .u64 0, .int .i64 0, .string ⟨#[]⟩] 38)).size))
      clear hb4
      go_wp2_with fail
      go_ret
      exact ⟨rfl, HB4.out⟩
    · rw [HN.out] at hY; cases hY
  · have HY := Lib.hid hY
    obtain ⟨hi, lo, id, par, name, start, stop, bad, al, rv⟩ := S
    obtain ⟨key, weight, at_, body⟩ := G
    dsimp only at hn hA1
    have HB2 := Lib.hid (HB1.out.alloc HB1.out.size (.cells #[.int .u8 (k : Int), .int .u64 (hi : Int), .int .u64 (lo : Int), .int .u64 (id : Int), .int .u64 (par : Int), .string name, .int .i64 start, .int .i64 stop, .bool bad, .slice A1 n c1, .int .u64 (rv : Int), .string key, .int .u64 (weight : Int), .int .i64 at_, .string body] 38))
    have HHA := Lib.hid hA1
    have HNL := Lib.hid hn
    clear hb1 hY HP hA1 hn
    unfold itC
    dsimp only
    go_wp2_with fail
    refine (HD.out _ HB2.out).mono ?_
    rintro e w3 ⟨hb3, hQ⟩
    rcases hQ with ⟨hN, _⟩ | ⟨k2, S2, G2, A2, n2, c2, hY2, hn2, hn2b, rfl, hA2⟩
    · rw [HY.out] at hN; cases hN
    · rw [HY.out] at hY2
      injection hY2 with hY2
      injection hY2 with q1 hY2
      injection hY2 with q2 q3
      subst q1 q2 q3
      dsimp only at hn2 hA2
      have hnn : n2 = n := by rw [← hn2, HNL.out]
      subst hnn
      have HB3 := Lib.hid (HB2.out.trans (hb3.mono HB2.out.size))
      have HK3 := Lib.hid ((blk_new w1 #[.int .u8 (k : Int), .int .u64 (hi : Int), .int .u64 (lo : Int), .int .u64 (id : Int), .int .u64 (par : Int), .string name, .int .i64 start, .int .i64 stop, .bool bad, .slice A1 n2 c1, .int .u64 (rv : Int), .string key, .int .u64 (weight : Int), .int .i64 at_, .string body] 38).same (hb3.block _ (by rw [World.size_alloc]; omega)))
      have HHA3 := Lib.hid ((HHA.out.later (box_below (.cells #[.int .u8 (k : Int), .int .u64 (hi : Int), .int .u64 (lo : Int), .int .u64 (id : Int), .int .u64 (par : Int), .string name, .int .i64 start, .int .i64 stop, .bool bad, .slice A1 n2 c1, .int .u64 (rv : Int), .string key, .int .u64 (weight : Int), .int .i64 at_, .string body] 38))).later hb3)
      have HHB3 := Lib.hid hA2
      have hlt3 := HK3.out.lt
      have hZ := same_any k hi lo id par rv n2 c1 c2 weight name key body start stop at_ bad A1 A2 al (w3.alloc (.cells #[.int .u8 (k : Int), .int .u64 (hi : Int), .int .u64 (lo : Int), .int .u64 (id : Int), .int .u64 (par : Int), .string name, .int .i64 start, .int .i64 stop, .bool bad, .slice A2 n2 c2, .int .u64 (rv : Int), .string key, .int .u64 (weight : Int), .int .i64 at_, .string body] 38)) HNL.out (by omega) (HHA3.out.later (box_below _)) (HHB3.out.later (box_below _))
      have HZ := Lib.hid hZ
      have z0 : w3.cell? ⟨w1.heap.size, 0, none⟩ = some (.int .u8 (k : Int)) := HK3.out.cell 0 rfl
      have z1 : w3.cell? ⟨w1.heap.size, 1, none⟩ = some (.int .u64 (hi : Int)) := HK3.out.cell 1 rfl
      have z2 : w3.cell? ⟨w1.heap.size, 2, none⟩ = some (.int .u64 (lo : Int)) := HK3.out.cell 2 rfl
      have z3 : w3.cell? ⟨w1.heap.size, 3, none⟩ = some (.int .u64 (id : Int)) := HK3.out.cell 3 rfl
      have z4 : w3.cell? ⟨w1.heap.size, 4, none⟩ = some (.int .u64 (par : Int)) := HK3.out.cell 4 rfl
      have z5 : w3.cell? ⟨w1.heap.size, 5, none⟩ = some (.string name) := HK3.out.cell 5 rfl
      have z6 : w3.cell? ⟨w1.heap.size, 6, none⟩ = some (.int .i64 start) := HK3.out.cell 6 rfl
      have z7 : w3.cell? ⟨w1.heap.size, 7, none⟩ = some (.int .i64 stop) := HK3.out.cell 7 rfl
      have z8 : w3.cell? ⟨w1.heap.size, 8, none⟩ = some (.bool bad) := HK3.out.cell 8 rfl
      have z9 : w3.cell? ⟨w1.heap.size, 9, none⟩ = some (.slice A1 n2 c1) := HK3.out.cell 9 rfl
      have z10 : w3.cell? ⟨w1.heap.size, 10, none⟩ = some (.int .u64 (rv : Int)) := HK3.out.cell 10 rfl
      have z11 : w3.cell? ⟨w1.heap.size, 11, none⟩ = some (.string key) := HK3.out.cell 11 rfl
      have z12 : w3.cell? ⟨w1.heap.size, 12, none⟩ = some (.int .u64 (weight : Int)) := HK3.out.cell 12 rfl
      have z13 : w3.cell? ⟨w1.heap.size, 13, none⟩ = some (.int .i64 at_) := HK3.out.cell 13 rfl
      have z14 : w3.cell? ⟨w1.heap.size, 14, none⟩ = some (.string body) := HK3.out.cell 14 rfl
      clear hb3 HD hZ hA2
      unfold itC
      dsimp only
      go_wp2_with fail
      refine HZ.out.mono ?_
      rintro e w4 ⟨rfl, hb4⟩
      have HB4 := Lib.hid ((HB3.out.alloc HB3.out.size (.cells #[.int .u8 (k : Int), .int .u64 (hi : Int), .int .u64 (lo : Int), .int .u64 (id : Int), .int .u64 (par : Int), .string name, .int .i64 start, .int .i64 stop, .bool bad, .slice A2 n2 c2, .int .u64 (rv : Int), .string key, .int .u64 (weight : Int), .int .i64 at_, .string body] 38)).trans (hb4.mono (HB3.out.alloc HB3.out.size (.cells #[.int .u8 (k : Int), .int .u64 (hi : Int), .int .u64 (lo : Int), .int .u64 (id : Int), .int .u64 (par : Int), .string name, .int .i64 start, .int .i64 stop, .bool bad, .slice A2 n2 c2, .int .u64 (rv : Int), .string key, .int .u64 (weight : Int), .int .i64 at_, .string body] 38)).size))
      clear hb4
      go_wp2_with fail
      go_ret
      exact ⟨rfl, HB4.out⟩
end Go.Proofs.Ytklgggolkclebaa
