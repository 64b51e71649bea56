/-
  Proved: ItemOne returns true for all bytes: bytes that are an item's are the one way to write it; it may be. No condition.
-/
import Derived.Deep.RegionHeld
import Derived.BigQuiet
import Derived.Deep.QuietTactic
import Derived.Test.YtklgggolkclebaaAgain
import Derived.Test.YtklgggolkclebaaItemDecOk
import Derived.Test.YtklgggolkclebaaItemItem
import Derived.Test.YtklgggolkclebaaItemKnown
import Derived.Test.YtklgggolkclebaaItemRef5
namespace Go.Proofs.Ytklgggolkclebaa
open Go.ChangeShapes Go.WideShapes Go.ChangeAt Go.RowKit Go.Proofs.NumMath Go.Proofs.ItemMath

/-- What is told of bytes that are an item's: the item is written so, and it is either a span or a log. -/
def Told (cs : List UInt8) (W : World) (c0 c1 c2 c3 c4 c6 c7 c10 c12 c13 : Int) (c5 c11 c14 : ByteArray) (c8 : Bool) (c9 : Option Addr) (c9n c9c : Nat) : Prop :=
  (∀ X, Below W.heap.size W X → Calls Try.prog 19 #[.agg #[.int .u8 c0, .int .u64 c1, .int .u64 c2, .int .u64 c3, .int .u64 c4, .string c5, .int .i64 c6, .int .i64 c7, .bool c8, .slice c9 c9n c9c, .int .u64 c10, .string c11, .int .u64 c12, .int .i64 c13, .string c14]] X fun e X' => ∃ A' c', e = .returned (.tuple #[.slice A' cs.length c', .int .u16 0]) ∧ X'.ownsRow X.heap.size 5 1 (.slice A' cs.length c') cs.length (cs.map b8) ∧ Below X.heap.size X X') ∧
  ∃ r : Bool, (∀ X, Below W.heap.size W X → Calls Try.prog 13 #[.agg #[.int .u64 c1, .int .u64 c2, .int .u64 c3, .int .u64 c4, .string c5, .int .i64 c6, .int .i64 c7, .bool c8, .slice c9 c9n c9c, .int .u64 c10]] X fun e X' => e = .returned (.bool r) ∧ Below X.heap.size X X') ∧
    (∀ X, Below W.heap.size W X → Calls Try.prog 14 #[.agg #[.string c11, .int .u64 c12, .int .i64 c13, .string c14]] X fun e X' => e = .returned (.bool (!r)) ∧ Below X.heap.size X X')
/-- What Decode tells, whatever the bytes are. -/
def Decoded (cs : List UInt8) (W : World) (e : Ending) (W' : World) : Prop :=
  ∃ (c0 c1 c2 c3 c4 c6 c7 c10 c12 c13 : Int) (c5 c11 c14 : ByteArray) (c8 : Bool) (c9 : Option Addr) (c9n c9c : Nat) (E : Nat), e = .returned (.tuple #[.agg #[.int .u8 c0, .int .u64 c1, .int .u64 c2, .int .u64 c3, .int .u64 c4, .string c5, .int .i64 c6, .int .i64 c7, .bool c8, .slice c9 c9n c9c, .int .u64 c10, .string c11, .int .u64 c12, .int .i64 c13, .string c14], .int .u16 (E : Int)]) ∧ (E = 0 ∨ E = 40) ∧ Below W.heap.size W W' ∧ (E = 0 → Told cs W' c0 c1 c2 c3 c4 c6 c7 c10 c12 c13 c5 c11 c14 c8 c9 c9n c9c)

theorem zero_log : rightLog ⟨⟨#[]⟩, 0, 0, ⟨#[]⟩⟩ = false := by decide +kernel
theorem zero_span' : rightSpan ⟨0, 0, 0, 0, ⟨#[]⟩, 0, 0, false, [], 0⟩ = false := by decide +kernel
theorem none_holds (W : World) : HoldsA W.heap.size W none [] := fun h => absurd h (by simp)

theorem told_log (key body : ByteArray) (weight : Nat) (a : Int) (cs : List UInt8) (W : World) (hright : rightLog ⟨key, weight, a, body⟩ = true) (hz : (2 : UInt8) :: encLog ⟨key, weight, a, body⟩ = cs) :
    Told cs W 2 0 0 0 0 0 0 0 (weight : Int) a ⟨#[]⟩ key body false none 0 0 := by
  obtain ⟨p1, p2, p3, p4, p5, p6⟩ := rightLog_parts hright
  dsimp only at p1 p6
  refine ⟨fun X _ => encode_log key body weight a X hright cs cs.length hz rfl, false, fun X _ => ?_, fun X _ => ?_⟩
  · have := rightSpan_any 0 0 0 0 0 ⟨#[]⟩ 0 0 false none [] 0 0 X false rfl (by omega) (by decide) (none_holds X) zero_span'
    exact this
  · exact rightLog_any key body weight a X true (by omega) (by omega) hright
theorem told_span (hi lo id par rv : Nat) (name : ByteArray) (start stop : Int) (bad : Bool) (A : Option Addr) (l : List Attr) (n cap : Nat) (cs : List UInt8) (W : World) (b1 : hi < 18446744073709551616) (b2 : lo < 18446744073709551616) (b3 : id < 18446744073709551616) (b4 : par < 18446744073709551616)
    (hn : l.length = n) (hr : HoldsA W.heap.size W A l) (hright : rightSpan ⟨hi, lo, id, par, name, start, stop, bad, l, rv⟩ = true) (hz : (1 : UInt8) :: encSpan ⟨hi, lo, id, par, name, start, stop, bad, l, rv⟩ = cs) :
    Told cs W 1 (hi : Int) (lo : Int) (id : Int) (par : Int) start stop (rv : Int) 0 0 name ⟨#[]⟩ ⟨#[]⟩ bad A n cap := by
  obtain ⟨p1, p2, p3, p4, p5, p6, p7, p8⟩ := right_parts hright
  dsimp only at p1 p6
  refine ⟨fun X hX => encode_span hi lo id par rv name start stop bad A l n cap X b1 b2 b3 b4 hn (hr.later hX) hright cs cs.length hz rfl, true, fun X hX => ?_, fun X _ => ?_⟩
  · exact rightSpan_any hi lo id par rv name start stop bad A l n cap X true hn (by omega) (by omega) (hr.later hX) hright
  · exact rightLog_any ⟨#[]⟩ ⟨#[]⟩ 0 0 X false (by decide) (by decide) zero_log

set_option maxHeartbeats 2000000 in
/-- **Decode of any bytes.** -/
theorem decode_told (A : Option Addr) (cs : List UInt8) (len cap : Nat) (W : World) (hlen : cs.length = len) (hl : len ≤ cap) (hcap : cap ≤ 9223372036854775807) (hr : Holds8 W.heap.size W A cs) :
    Calls Try.prog 20 #[.slice A len cap] W (Decoded cs W) := by
  have no : ∀ (e : Ending) (W' : World), (e = .returned (.tuple #[.agg #[.int .u8 0, .int .u64 0, .int .u64 0, .int .u64 0, .int .u64 0, .string ⟨#[]⟩, .int .i64 0, .int .i64 0, .bool false, .slice none 0 0, .int .u64 0, .string ⟨#[]⟩, .int .u64 0, .int .i64 0, .string ⟨#[]⟩], .int .u16 40]) ∧ Below W.heap.size W W') → Decoded cs W e W' :=
    fun e W' ⟨he, hb⟩ => ⟨_, _, _, _, _, _, _, _, _, _, _, _, _, _, _, _, _, 40, he, .inr rfl, hb, fun h => by omega⟩
  rcases Nat.eq_zero_or_pos len with rfl | hpos
  · exact (decode_nil A cap W).mono fun e W' h => no e W' h
  by_cases h2 : cs.getD 0 0 = 2
  · cases hright : rightLog (readLog cs) with
    | false => exact (decode_log_bad A cs len cap W hlen hpos hl hcap hr h2 hright).mono no
    | true =>
      by_cases heq : (2 : UInt8) :: encLog (readLog cs) = cs
      · have hD := decode_log A cs len cap W hlen hpos hl hcap hr h2 hright heq
        generalize readLog cs = l at hD hright heq
        obtain ⟨key, weight, a, body⟩ := l
        dsimp only at hD
        refine hD.mono fun e W' ⟨he, hb⟩ => ?_
        exact ⟨_, _, _, _, _, _, _, _, _, _, _, _, _, _, _, _, _, 0, he, .inl rfl, hb, fun _ => told_log key body weight a cs W' hright heq⟩
      · exact (decode_log_other A cs len cap W hlen hpos hl hcap hr h2 hright heq).mono no
  by_cases h1 : cs.getD 0 0 = 1
  · cases hright : rightSpan (readSpan cs) with
    | false => exact (decode_span_bad A cs len cap W hlen hpos hl hcap hr h1 hright).mono no
    | true =>
      by_cases heq : (1 : UInt8) :: encSpan (readSpan cs) = cs
      · have hD := decode_span A cs len cap W hlen hpos hl hcap hr h1 hright heq
        obtain ⟨f1, f2, f3, f4, _⟩ := readSpan_fits cs
        generalize readSpan cs = l at hD hright heq f1 f2 f3 f4
        obtain ⟨hi, lo, id, par, name, start, stop, bad, al, rv⟩ := l
        dsimp only at hD f1 f2 f3 f4
        refine hD.mono fun e W' ⟨A', n', c', he, hn, hA, hb⟩ => ?_
        exact ⟨_, _, _, _, _, _, _, _, _, _, _, _, _, _, _, _, _, 0, he, .inl rfl, hb, fun _ => told_span hi lo id par rv name start stop bad A' al n' c' cs W' f1 f2 f3 f4 hn.symm hA hright heq⟩
      · exact (decode_span_other A cs len cap W hlen hpos hl hcap hr h1 hright heq).mono no
  · exact (decode_kind (cs.getD 0 0).toNat A cs len cap W hlen hpos hl hcap hr rfl (fun h => h1 (UInt8.toNat_inj.1 h)) (fun h => h2 (UInt8.toNat_inj.1 h))).mono no

/-- An item of choices, and what it is written as. -/
def Made (W : World) (e : Ending) (W' : World) : Prop :=
  ∃ (c0 c1 c2 c3 c4 c5 c6 c7 c8 c9 c10 c11 c12 c13 c14 : Value) (z : List UInt8), e = .returned (.agg #[c0, c1, c2, c3, c4, c5, c6, c7, c8, c9, c10, c11, c12, c13, c14]) ∧ 0 < z.length ∧ z.length ≤ 5001 ∧ Below W.heap.size W W' ∧
    ∀ X, Below W'.heap.size W' X → Calls Try.prog 17 #[.agg #[c0, c1, c2, c3, c4, c5, c6, c7, c8, c9, c10, c11, c12, c13, c14]] X fun e X' => ∃ A' c', e = .returned (.tuple #[.slice A' z.length c', .int .i64 0]) ∧ X'.ownsRow X.heap.size 5 1 (.slice A' z.length c') z.length (z.map b8) ∧ Below X.heap.size X X'
set_option maxHeartbeats 2000000 in
theorem made_any (A : Option Addr) (cs : List UInt8) (len cap : Nat) (w : World) (hlen : cs.length = len) (hl : len ≤ cap) (hcap : cap ≤ 9223372036854775807) (hr : Holds8 w.heap.size w A cs) :
    Calls Try.prog 15 #[.slice A len cap] w (Made w) := by
  cases hk : isLog cs with
  | true =>
    have hD := item_log A cs len cap w hlen hl hcap hr hk
    have hright := logOf_right (cs.drop 1)
    generalize logOf (cs.drop 1) = l at hD hright
    obtain ⟨key, weight, a, body⟩ := l
    dsimp only at hD
    refine hD.mono fun e W' ⟨he, hb⟩ => ?_
    obtain ⟨p1, p2, p3, p4, p5, p6⟩ := rightLog_parts hright
    dsimp only at p1 p2 p3 p4 p5 p6
    have q1 := refT_len 1 key.data.toList (by omega) (by rw [size_list]; omega)
    have q2 := refN_len 2 weight (by omega) (by omega)
    have q3 := refN_len 3 a.toNat (by omega) (by omega)
    have q4 := refT_len 4 body.data.toList (by omega) (by rw [size_list]; omega)
    rw [size_list] at q1 q4
    refine ⟨_, _, _, _, _, _, _, _, _, _, _, _, _, _, _, (2 : UInt8) :: encLog ⟨key, weight, a, body⟩, he, by simp, ?_, hb, fun X _ => refEncode_log key body weight a X hright _ _ rfl rfl⟩
    rw [List.length_cons]
    unfold encLog
    simp only [List.length_append]
    omega
  | false =>
    have hD := item_span A cs len cap w hlen hl hcap hr hk
    have hright := spanOf_right cs
    obtain ⟨f1, f2, f3, f4, _⟩ := spanOf_fits cs
    have q := refS_len (spanOf cs) f1 f2 f3 f4 hright
    generalize spanOf cs = l at hD hright f1 f2 f3 f4 q
    obtain ⟨hi, lo, id, par, name, start, stop, bad, al, rv⟩ := l
    dsimp only at hD f1 f2 f3 f4
    refine hD.mono fun e W' ⟨A', n', c', he, hn, hA, hb⟩ => ?_
    exact ⟨_, _, _, _, _, _, _, _, _, _, _, _, _, _, _, (1 : UInt8) :: encSpan ⟨hi, lo, id, par, name, start, stop, bad, al, rv⟩, he, by simp, by rw [List.length_cons]; omega, hb, fun X hX => refEncode_span hi lo id par rv name start stop bad A' al n' c' X f1 f2 f3 f4 hn.symm (hA.later hX) hright _ _ rfl rfl⟩

/-- Own bytes: the parts. -/
theorem own_parts' {W : World} {base : Nat} {A : Option Addr} {k cap : Nat} {cs : List UInt8} {e : TypeId} (h : W.ownsRow base e 1 (.slice A k cap) cs.length (cs.map b8)) (h0 : 0 < cs.length) :
    ∃ g, A = some ⟨g, 0, none⟩ ∧ base ≤ g ∧ (∀ j, j < cs.length → W.cell? ⟨g, j, none⟩ = some (b8 (cs.getD j 0))) ∧ (∀ j, j < cs.length → W.frozen? ⟨g, j, none⟩ = false) := by
  rcases h.2 with ⟨hv, hn⟩ | ⟨g, c, cur, hv, hb, hg, hn, hc, hs, ht⟩
  · omega
  · injection hv with e1 e2 e3
    subst e1 e2 e3
    refine ⟨g, rfl, hb, fun j hj => ?_, fun j hj => ?_⟩
    · have := h.cellAt j (by simpa using hj)
      rw [this]
      simp [hj]
    · simp [World.frozen?, hg]
theorem own_set' {W w : World} {base g k cap : Nat} {cs : List UInt8} (h : W.ownsRow base 5 1 (.slice (some ⟨g, 0, none⟩) k cap) cs.length (cs.map b8)) (hk : k = cs.length) (hg : base ≤ g) (hb : Below base w W) (j : Nat) (y : UInt8) :
    (W.setCell ⟨g, j, none⟩ (.int .u8 (y.toNat : Int))).ownsRow base 5 1 (.slice (some ⟨g, 0, none⟩) k cap) (cs.set j y).length ((cs.set j y).map b8) ∧ Below base w (W.setCell ⟨g, j, none⟩ (.int .u8 (y.toNat : Int))) := by
  subst hk
  obtain ⟨h1, _⟩ := h.stored j (b8 y)
  refine ⟨?_, hb.setCell (p := ⟨g, j, none⟩) hg _⟩
  rw [List.length_set, List.map_set]
  exact h1

set_option linter.unusedSimpArgs false in
set_option linter.unusedVariables false in
set_option maxRecDepth 100000 in
set_option maxHeartbeats 8000000 in
theorem one_walk (A : Option Addr) (bs : List UInt8) (lb cb : Nat) (C : Option Addr) (cs : List UInt8) (lc cc : Nat) (a : Nat) (v : UInt8) (w : World) (ha : a < 256) (hlb : bs.length = lb) (hl1 : lb ≤ cb) (hcb : cb ≤ 9223372036854775807) (hA : Holds8 w.heap.size w A bs) (hlc : cs.length = lc) (hl2 : lc ≤ cc) (hcc : cc ≤ 9223372036854775807) (hC : Holds8 w.heap.size w C cs) :
    Calls Try.prog 8 #[.slice A lb cb, .slice C lc cc, .int .u8 (a : Int), .int .u8 (v.toNat : Int)] w fun e w' => e = .returned (.bool true) ∧ Below w.heap.size w w' := by
  by_cases h3 : 300 < lb
  · have d1 : decide ((300 : Int) < (lb : Int)) = true := by simp; omega
    clear hA hC
    go_enter Try.func8, Try.ntmps8
    go_wp2_with fail
    refine (known_any _).mono ?_
    rintro e w1 ⟨rfl, hb1⟩
    go_wp2_with fail
    go_ret
    exact ⟨rfl, hb1⟩
  have d1 : decide ((300 : Int) < (lb : Int)) = false := by simp; omega
  have HA := Lib.hid hA
  have HC := Lib.hid hC
  have HLB := Lib.hid hlb
  have HLC := Lib.hid hlc
  have hv := v.toNat_lt
  clear hA hC hlb hlc
  go_enter Try.func8, Try.ntmps8
  go_wp2_with fail
  refine (known_any _).mono ?_
  rintro e w1 ⟨rfl, hb1⟩
  have HB1 := Lib.hid hb1
  clear hb1
  go_wp2_with fail
  refine (made_any C cs lc cc _ HLC.out hl2 hcc (HC.out.later HB1.out)).mono ?_
  rintro e w2 ⟨d0, d1, d2, d3, d4, d5, d6, d7, d8, d9, d10, d11, d12, d13, d14, z, rfl, hz0, hz1, hb2, henc⟩
  have HB2 := Lib.hid (HB1.out.trans (hb2.mono HB1.out.size))
  have HE := Lib.hid henc
  obtain ⟨m, hm⟩ : ∃ m, z.length = m := ⟨_, rfl⟩
  rw [hm] at hz0 hz1
  have HM := Lib.hid hm
  clear hb2 henc hm
  go_wp2_with fail
  refine (HE.out _ (Below.refl _ _)).mono ?_
  rintro e w3 ⟨A3, c3, rfl, o3, b3⟩
  have HB3 := Lib.hid (HB2.out.trans (b3.mono HB2.out.size))
  have HO3 := Lib.hid (own_lower0 o3 HB2.out.size)
  rw [HM.out] at HO3
  obtain ⟨g, hA3, hg, hcell, hfroz⟩ := own_parts' (cs := z) (by rw [HM.out]; exact HO3.out) (by rw [HM.out]; exact hz0)
  subst hA3
  obtain ⟨k, hk, hkm⟩ : ∃ k : Nat, (a : Int) % (m : Int) = (k : Int) ∧ k < m := ⟨a % m, by simp, Nat.mod_lt _ hz0⟩
  have dm : ((m : Int) == 0) = false := by simp; omega
  have hck := hcell k (by rw [HM.out]; exact hkm)
  have hfk := hfroz k (by rw [HM.out]; exact hkm)
  obtain ⟨xq, hxq⟩ : ∃ xq, z.getD k 0 = xq := ⟨_, rfl⟩
  rw [hxq] at hck
  unfold b8 at hck
  have hc3 := (own_facts (cs := z) (by rw [HM.out]; exact HO3.out)).1
  rw [HM.out] at hc3
  have HS3 := own_set' (cs := z) (by rw [HM.out]; exact HO3.out) HM.out.symm hg HB3.out k v
  have HO4 := Lib.hid HS3.1
  have HB4 := Lib.hid HS3.2
  obtain ⟨z2, hz2⟩ : ∃ z2, z.set k v = z2 := ⟨_, rfl⟩
  rw [hz2] at HO4
  have HL2 : Hid (z2.length = m) := Lib.hid (by rw [← hz2, List.length_set, HM.out])
  have hcm := (own_facts (cs := z2) HO4.out).2.1
  rw [HM.out]
  clear HS3 hcell hfroz hxq hz2 o3 b3 HO3 HE
  go_wp2_with fail
  refine (decode_told (some ⟨g, 0, none⟩) z2 m c3 _ HL2.out hc3 hcm (own_facts HO4.out).2.2).mono ?_
  rintro e w5 ⟨e0, e1, e2, e3, e4, e6, e7, e10, e12, e13, e5, e11, e14, e8, e9, e9n, e9c, E, rfl, hE, hb5, htold⟩
  have HB5 := Lib.hid (HB4.out.trans (hb5.mono HB4.out.size))
  have HO5 := Lib.hid (own_later HO4.out hb5)
  have HT := Lib.hid htold
  clear hb5 htold HO4 hck hfk

  by_cases hE0 : E = 0
  · obtain ⟨hEnc, _⟩ := HT.out hE0
    rw [HL2.out] at hEnc
    have dE : ((E : Int) == 0) = true := by simp; omega
    have HEn := Lib.hid hEnc
    clear hEnc hE hE0 HT
    go_wp2_with fail
    refine (HEn.out _ ((Below.refl _ _).alloc (Nat.le_refl _) _)).mono ?_
    rintro e w6 ⟨A6, c6, rfl, o6, b6⟩
    have HB6 := Lib.hid ((HB5.out.alloc HB5.out.size (.cells #[.int .u8 e0, .int .u64 e1, .int .u64 e2, .int .u64 e3, .int .u64 e4, .string e5, .int .i64 e6, .int .i64 e7, .bool e8, .slice e9 e9n e9c, .int .u64 e10, .string e11, .int .u64 e12, .int .i64 e13, .string e14] 38)).trans (b6.mono (HB5.out.alloc HB5.out.size _).size))
    have HO6 := Lib.hid (own_later (own_later HO5.out ((Below.refl _ _).alloc (Nat.le_refl _) (.cells #[.int .u8 e0, .int .u64 e1, .int .u64 e2, .int .u64 e3, .int .u64 e4, .string e5, .int .i64 e6, .int .i64 e7, .bool e8, .slice e9 e9n e9c, .int .u64 e10, .string e11, .int .u64 e12, .int .i64 e13, .string e14] 38))) b6)
    obtain ⟨s1, hs1⟩ : ∃ s1 : ByteArray, (⟨z2.toArray⟩ : ByteArray) = s1 := ⟨_, rfl⟩
    have tr1 := text_run A6 z2 m c6 w6 _ HL2.out (own_facts (cs := z2) (by rw [HL2.out]; exact o6)).2.2
    have tr2 := text_run (some ⟨g, 0, none⟩) z2 m c3 w6 _ HL2.out (own_facts HO6.out).2.2
    rw [hs1] at tr1 tr2
    clear o6 b6 hs1
    go_wp2_with fail
    refine (decode_told A bs lb cb _ HLB.out hl1 hcb (HA.out.later HB6.out)).mono ?_
    rintro e w8 ⟨f0, f1, f2, f3, f4, f6, f7, f10, f12, f13, f5, f11, f14, f8, f9, f9n, f9c, F, rfl, hF, hb8, htold2⟩
    have HB8 := Lib.hid (HB6.out.trans (hb8.mono HB6.out.size))
    have HT2 := Lib.hid htold2
    clear hb8 htold2
    by_cases hF0 : F = 0
    · obtain ⟨_, r, hS, hL⟩ := HT2.out hF0
      have dF : ((F : Int) != 0) = false := by simp; omega
      have hrr : (r != !r) = true := by cases r <;> rfl
      have HS := Lib.hid hS
      have HL := Lib.hid hL
      have hBk : Blk (w8.alloc (.cells #[.int .u8 f0, .int .u64 f1, .int .u64 f2, .int .u64 f3, .int .u64 f4, .string f5, .int .i64 f6, .int .i64 f7, .bool f8, .slice f9 f9n f9c, .int .u64 f10, .string f11, .int .u64 f12, .int .i64 f13, .string f14] 38)).drew w8.heap.size #[.int .u8 f0, .int .u64 f1, .int .u64 f2, .int .u64 f3, .int .u64 f4, .string f5, .int .i64 f6, .int .i64 f7, .bool f8, .slice f9 f9n f9c, .int .u64 f10, .string f11, .int .u64 f12, .int .i64 f13, .string f14] 38 := blk_new _ _ _
      have hBl : Below w8.heap.size w8 (w8.alloc (.cells #[.int .u8 f0, .int .u64 f1, .int .u64 f2, .int .u64 f3, .int .u64 f4, .string f5, .int .i64 f6, .int .i64 f7, .bool f8, .slice f9 f9n f9c, .int .u64 f10, .string f11, .int .u64 f12, .int .i64 f13, .string f14] 38)).drew := ((Below.refl _ _).alloc (Nat.le_refl _) _).drew
      clear hS hL hF hF0 HT2
      go_wp2_with fail
      refine wp_region_held_drew (S := fun W => Blk W w8.heap.size #[.int .u8 f0, .int .u64 f1, .int .u64 f2, .int .u64 f3, .int .u64 f4, .string f5, .int .i64 f6, .int .i64 f7, .bool f8, .slice f9 f9n f9c, .int .u64 f10, .string f11, .int .u64 f12, .int .i64 f13, .string f14] 38 ∧ Below w8.heap.size w8 W) (by kernel_rfl) ?_ (fun hHeld => ?_)
      · exact ⟨hBk, hBl⟩
      refine wpAnyH_take (i := 0) (v := ?_) rfl (by kernel_rfl) (by kernel_rfl) (by kernel_rfl) (fun _ _ _ h => h) (Or.inl ⟨by rfl, ?_⟩) (by assumption) ?_
      rotate_left
      · intro wq hSw; (try dsimp only at hSw); go_simp; (try with_reducible rfl)
      simp only [Act.put, List.getElem_toArray, List.getElem_cons_succ, List.getElem_cons_zero, List.setIfInBounds_toArray, List.set_cons_zero, List.set_cons_succ]
      refine wpAnyH_take (i := 1) (v := ?_) rfl (by kernel_rfl) (by kernel_rfl) (by kernel_rfl) (fun _ _ _ h => h) (Or.inl ⟨by rfl, ?_⟩) (by assumption) ?_
      rotate_left
      · intro wq hSw; (try dsimp only at hSw); go_simp; (try with_reducible rfl)
      simp only [Act.put, List.getElem_toArray, List.getElem_cons_succ, List.getElem_cons_zero, List.setIfInBounds_toArray, List.set_cons_zero, List.set_cons_succ]
      refine wpAnyH_take (i := 2) (v := ?_) rfl (by kernel_rfl) (by kernel_rfl) (by kernel_rfl) (fun _ _ _ h => h) (Or.inl ⟨by rfl, ?_⟩) (by assumption) ?_
      rotate_left
      · intro wq hSw; (try dsimp only at hSw); go_simp; (try with_reducible rfl)
      simp only [Act.put, List.getElem_toArray, List.getElem_cons_succ, List.getElem_cons_zero, List.setIfInBounds_toArray, List.set_cons_zero, List.set_cons_succ]
      refine wpAnyH_take (i := 3) (v := ?_) rfl (by kernel_rfl) (by kernel_rfl) (by kernel_rfl) (fun _ _ _ h => h) (Or.inl ⟨by rfl, ?_⟩) (by assumption) ?_
      rotate_left
      · intro wq hSw; (try dsimp only at hSw); go_simp; (try with_reducible rfl)
      simp only [Act.put, List.getElem_toArray, List.getElem_cons_succ, List.getElem_cons_zero, List.setIfInBounds_toArray, List.set_cons_zero, List.set_cons_succ]
      refine wpAnyH_take (i := 4) (v := ?_) rfl (by kernel_rfl) (by kernel_rfl) (by kernel_rfl) (fun _ _ _ h => h) (Or.inl ⟨by rfl, ?_⟩) (by assumption) ?_
      rotate_left
      · intro wq hSw; (try dsimp only at hSw); have q1 := hSw.1.cell 1 rfl; have q2 := hSw.1.cell 2 rfl; have q3 := hSw.1.cell 3 rfl; have q4 := hSw.1.cell 4 rfl; have q5 := hSw.1.cell 5 rfl; have q6 := hSw.1.cell 6 rfl; have q7 := hSw.1.cell 7 rfl; have q8 := hSw.1.cell 8 rfl; have q9 := hSw.1.cell 9 rfl; have q10 := hSw.1.cell 10 rfl; go_simp; (try with_reducible rfl)
      simp only [Act.put, List.getElem_toArray, List.getElem_cons_succ, List.getElem_cons_zero, List.setIfInBounds_toArray, List.set_cons_zero, List.set_cons_succ]
      refine wpAnyH_take (i := 6) (v := ?_) rfl (by kernel_rfl) (by kernel_rfl) (by kernel_rfl) (fun _ _ _ h => h) (Or.inl ⟨by rfl, ?_⟩) (by assumption) ?_
      rotate_left
      · intro wq hSw; (try dsimp only at hSw); go_simp; (try with_reducible rfl)
      simp only [Act.put, List.getElem_toArray, List.getElem_cons_succ, List.getElem_cons_zero, List.setIfInBounds_toArray, List.set_cons_zero, List.set_cons_succ]
      refine wpAnyH_take (i := 7) (v := ?_) rfl (by kernel_rfl) (by kernel_rfl) (by kernel_rfl) (fun _ _ _ h => h) (Or.inl ⟨by rfl, ?_⟩) (by assumption) ?_
      rotate_left
      · intro wq hSw; (try dsimp only at hSw); have q11 := hSw.1.cell 11 rfl; have q12 := hSw.1.cell 12 rfl; have q13 := hSw.1.cell 13 rfl; have q14 := hSw.1.cell 14 rfl; go_simp; (try with_reducible rfl)
      simp only [Act.put, List.getElem_toArray, List.getElem_cons_succ, List.getElem_cons_zero, List.setIfInBounds_toArray, List.set_cons_zero, List.set_cons_succ]
      refine wpAnyH_ready (rs := [5]) (by kernel_rfl) (by simp) ?_
      refine AllReadyH.cons rfl (fun K hK => ?_) AllReadyH.nil
      go_simp
      refine (HS.out _ hHeld.2).mono ?_
      rintro e y1 ⟨rfl, by1⟩
      (try go_wp2_with fail)
      refine hK.out _ _ ?_ (fun hHeld => ?_)
      · exact ⟨hHeld.1.same (by1.block _ hHeld.1.lt), hHeld.2.trans (by1.mono hHeld.2.size)⟩
      clear hK K
      try simp only [Act.put, List.getElem_toArray, List.getElem_cons_succ, List.getElem_cons_zero, List.setIfInBounds_toArray, List.set_cons_zero, List.set_cons_succ]
      refine wpAnyH_ready (rs := [8]) (by kernel_rfl) (by simp) ?_
      refine AllReadyH.cons rfl (fun K hK => ?_) AllReadyH.nil
      go_simp
      refine (HL.out _ hHeld.2).mono ?_
      rintro e y2 ⟨rfl, by2⟩
      (try go_wp2_with fail)
      refine hK.out _ _ ?_ (fun hHeld => ?_)
      · exact ⟨hHeld.1.same (by2.block _ hHeld.1.lt), hHeld.2.trans (by2.mono hHeld.2.size)⟩
      clear hK K
      try simp only [Act.put, List.getElem_toArray, List.getElem_cons_succ, List.getElem_cons_zero, List.setIfInBounds_toArray, List.set_cons_zero, List.set_cons_succ]
      refine wpAnyH_take (i := 9) (v := ?_) rfl (by kernel_rfl) (by kernel_rfl) (by kernel_rfl) (fun _ _ _ h => h) (Or.inl ⟨by rfl, ?_⟩) (by assumption) ?_
      rotate_left
      · intro wq hSw; (try dsimp only at hSw); go_simp; (try with_reducible rfl)
      simp only [Act.put, List.getElem_toArray, List.getElem_cons_succ, List.getElem_cons_zero, List.setIfInBounds_toArray, List.set_cons_zero, List.set_cons_succ]
      refine wpAnyH_take (i := 10) (v := ?_) rfl (by kernel_rfl) (by kernel_rfl) (by kernel_rfl) (fun _ _ _ h => h) (Or.inl ⟨by rfl, ?_⟩) (by assumption) ?_
      rotate_left
      · intro wq hSw; (try dsimp only at hSw); go_simp; (try with_reducible rfl)
      simp only [Act.put, List.getElem_toArray, List.getElem_cons_succ, List.getElem_cons_zero, List.setIfInBounds_toArray, List.set_cons_zero, List.set_cons_succ]
      refine wpAnyH_take (i := 11) (v := ?_) rfl (by kernel_rfl) (by kernel_rfl) (by kernel_rfl) (fun _ _ _ h => h) (Or.inl ⟨by rfl, ?_⟩) (by assumption) ?_
      rotate_left
      · intro wq hSw; (try dsimp only at hSw); go_simp; (try with_reducible rfl)
      simp only [Act.put, List.getElem_toArray, List.getElem_cons_succ, List.getElem_cons_zero, List.setIfInBounds_toArray, List.set_cons_zero, List.set_cons_succ]
      have hBf := HB8.out.trans (hHeld.2.mono HB8.out.size)
      refine wpAnyH_done (by kernel_rfl) ?_ _
      clear hHeld
      clear by1 by2
      go_wp2_with fail
      go_ret
      exact ⟨rfl, hBf⟩
    · have dF : ((F : Int) != 0) = true := by simp; omega
      clear hF hF0 HT2
      go_wp2_with fail
      go_quiet (fail)
      go_wp2_with fail
      go_ret
      exact ⟨rfl, draws3 (HB8.out.alloc HB8.out.size _) _⟩
  · have dE : ((E : Int) == 0) = false := by simp; omega
    have HB6 := Lib.hid (HB5.out.alloc HB5.out.size (.cells #[.int .u8 e0, .int .u64 e1, .int .u64 e2, .int .u64 e3, .int .u64 e4, .string e5, .int .i64 e6, .int .i64 e7, .bool e8, .slice e9 e9n e9c, .int .u64 e10, .string e11, .int .u64 e12, .int .i64 e13, .string e14] 38))
    clear hE hE0 HT
    go_wp2_with fail
    refine (decode_told A bs lb cb _ HLB.out hl1 hcb (HA.out.later HB6.out)).mono ?_
    rintro e w8 ⟨f0, f1, f2, f3, f4, f6, f7, f10, f12, f13, f5, f11, f14, f8, f9, f9n, f9c, F, rfl, hF, hb8, htold2⟩
    have HB8 := Lib.hid (HB6.out.trans (hb8.mono HB6.out.size))
    have HT2 := Lib.hid htold2
    clear hb8 htold2
    by_cases hF0 : F = 0
    · obtain ⟨_, r, hS, hL⟩ := HT2.out hF0
      have dF : ((F : Int) != 0) = false := by simp; omega
      have hrr : (r != !r) = true := by cases r <;> rfl
      have HS := Lib.hid hS
      have HL := Lib.hid hL
      have hBk : Blk (w8.alloc (.cells #[.int .u8 f0, .int .u64 f1, .int .u64 f2, .int .u64 f3, .int .u64 f4, .string f5, .int .i64 f6, .int .i64 f7, .bool f8, .slice f9 f9n f9c, .int .u64 f10, .string f11, .int .u64 f12, .int .i64 f13, .string f14] 38)).drew w8.heap.size #[.int .u8 f0, .int .u64 f1, .int .u64 f2, .int .u64 f3, .int .u64 f4, .string f5, .int .i64 f6, .int .i64 f7, .bool f8, .slice f9 f9n f9c, .int .u64 f10, .string f11, .int .u64 f12, .int .i64 f13, .string f14] 38 := blk_new _ _ _
      have hBl : Below w8.heap.size w8 (w8.alloc (.cells #[.int .u8 f0, .int .u64 f1, .int .u64 f2, .int .u64 f3, .int .u64 f4, .string f5, .int .i64 f6, .int .i64 f7, .bool f8, .slice f9 f9n f9c, .int .u64 f10, .string f11, .int .u64 f12, .int .i64 f13, .string f14] 38)).drew := ((Below.refl _ _).alloc (Nat.le_refl _) _).drew
      clear hS hL hF hF0 HT2
      go_wp2_with fail
      refine wp_region_held_drew (S := fun W => Blk W w8.heap.size #[.int .u8 f0, .int .u64 f1, .int .u64 f2, .int .u64 f3, .int .u64 f4, .string f5, .int .i64 f6, .int .i64 f7, .bool f8, .slice f9 f9n f9c, .int .u64 f10, .string f11, .int .u64 f12, .int .i64 f13, .string f14] 38 ∧ Below w8.heap.size w8 W) (by kernel_rfl) ?_ (fun hHeld => ?_)
      · exact ⟨hBk, hBl⟩
      refine wpAnyH_take (i := 0) (v := ?_) rfl (by kernel_rfl) (by kernel_rfl) (by kernel_rfl) (fun _ _ _ h => h) (Or.inl ⟨by rfl, ?_⟩) (by assumption) ?_
      rotate_left
      · intro wq hSw; (try dsimp only at hSw); go_simp; (try with_reducible rfl)
      simp only [Act.put, List.getElem_toArray, List.getElem_cons_succ, List.getElem_cons_zero, List.setIfInBounds_toArray, List.set_cons_zero, List.set_cons_succ]
      refine wpAnyH_take (i := 1) (v := ?_) rfl (by kernel_rfl) (by kernel_rfl) (by kernel_rfl) (fun _ _ _ h => h) (Or.inl ⟨by rfl, ?_⟩) (by assumption) ?_
      rotate_left
      · intro wq hSw; (try dsimp only at hSw); go_simp; (try with_reducible rfl)
      simp only [Act.put, List.getElem_toArray, List.getElem_cons_succ, List.getElem_cons_zero, List.setIfInBounds_toArray, List.set_cons_zero, List.set_cons_succ]
      refine wpAnyH_take (i := 2) (v := ?_) rfl (by kernel_rfl) (by kernel_rfl) (by kernel_rfl) (fun _ _ _ h => h) (Or.inl ⟨by rfl, ?_⟩) (by assumption) ?_
      rotate_left
      · intro wq hSw; (try dsimp only at hSw); go_simp; (try with_reducible rfl)
      simp only [Act.put, List.getElem_toArray, List.getElem_cons_succ, List.getElem_cons_zero, List.setIfInBounds_toArray, List.set_cons_zero, List.set_cons_succ]
      refine wpAnyH_take (i := 3) (v := ?_) rfl (by kernel_rfl) (by kernel_rfl) (by kernel_rfl) (fun _ _ _ h => h) (Or.inl ⟨by rfl, ?_⟩) (by assumption) ?_
      rotate_left
      · intro wq hSw; (try dsimp only at hSw); go_simp; (try with_reducible rfl)
      simp only [Act.put, List.getElem_toArray, List.getElem_cons_succ, List.getElem_cons_zero, List.setIfInBounds_toArray, List.set_cons_zero, List.set_cons_succ]
      refine wpAnyH_take (i := 4) (v := ?_) rfl (by kernel_rfl) (by kernel_rfl) (by kernel_rfl) (fun _ _ _ h => h) (Or.inl ⟨by rfl, ?_⟩) (by assumption) ?_
      rotate_left
      · intro wq hSw; (try dsimp only at hSw); have q1 := hSw.1.cell 1 rfl; have q2 := hSw.1.cell 2 rfl; have q3 := hSw.1.cell 3 rfl; have q4 := hSw.1.cell 4 rfl; have q5 := hSw.1.cell 5 rfl; have q6 := hSw.1.cell 6 rfl; have q7 := hSw.1.cell 7 rfl; have q8 := hSw.1.cell 8 rfl; have q9 := hSw.1.cell 9 rfl; have q10 := hSw.1.cell 10 rfl; go_simp; (try with_reducible rfl)
      simp only [Act.put, List.getElem_toArray, List.getElem_cons_succ, List.getElem_cons_zero, List.setIfInBounds_toArray, List.set_cons_zero, List.set_cons_succ]
      refine wpAnyH_take (i := 6) (v := ?_) rfl (by kernel_rfl) (by kernel_rfl) (by kernel_rfl) (fun _ _ _ h => h) (Or.inl ⟨by rfl, ?_⟩) (by assumption) ?_
      rotate_left
      · intro wq hSw; (try dsimp only at hSw); go_simp; (try with_reducible rfl)
      simp only [Act.put, List.getElem_toArray, List.getElem_cons_succ, List.getElem_cons_zero, List.setIfInBounds_toArray, List.set_cons_zero, List.set_cons_succ]
      refine wpAnyH_take (i := 7) (v := ?_) rfl (by kernel_rfl) (by kernel_rfl) (by kernel_rfl) (fun _ _ _ h => h) (Or.inl ⟨by rfl, ?_⟩) (by assumption) ?_
      rotate_left
      · intro wq hSw; (try dsimp only at hSw); have q11 := hSw.1.cell 11 rfl; have q12 := hSw.1.cell 12 rfl; have q13 := hSw.1.cell 13 rfl; have q14 := hSw.1.cell 14 rfl; go_simp; (try with_reducible rfl)
      simp only [Act.put, List.getElem_toArray, List.getElem_cons_succ, List.getElem_cons_zero, List.setIfInBounds_toArray, List.set_cons_zero, List.set_cons_succ]
      refine wpAnyH_ready (rs := [5]) (by kernel_rfl) (by simp) ?_
      refine AllReadyH.cons rfl (fun K hK => ?_) AllReadyH.nil
      go_simp
      refine (HS.out _ hHeld.2).mono ?_
      rintro e y1 ⟨rfl, by1⟩
      (try go_wp2_with fail)
      refine hK.out _ _ ?_ (fun hHeld => ?_)
      · exact ⟨hHeld.1.same (by1.block _ hHeld.1.lt), hHeld.2.trans (by1.mono hHeld.2.size)⟩
      clear hK K
      try simp only [Act.put, List.getElem_toArray, List.getElem_cons_succ, List.getElem_cons_zero, List.setIfInBounds_toArray, List.set_cons_zero, List.set_cons_succ]
      refine wpAnyH_ready (rs := [8]) (by kernel_rfl) (by simp) ?_
      refine AllReadyH.cons rfl (fun K hK => ?_) AllReadyH.nil
      go_simp
      refine (HL.out _ hHeld.2).mono ?_
      rintro e y2 ⟨rfl, by2⟩
      (try go_wp2_with fail)
      refine hK.out _ _ ?_ (fun hHeld => ?_)
      · exact ⟨hHeld.1.same (by2.block _ hHeld.1.lt), hHeld.2.trans (by2.mono hHeld.2.size)⟩
      clear hK K
      try simp only [Act.put, List.getElem_toArray, List.getElem_cons_succ, List.getElem_cons_zero, List.setIfInBounds_toArray, List.set_cons_zero, List.set_cons_succ]
      refine wpAnyH_take (i := 9) (v := ?_) rfl (by kernel_rfl) (by kernel_rfl) (by kernel_rfl) (fun _ _ _ h => h) (Or.inl ⟨by rfl, ?_⟩) (by assumption) ?_
      rotate_left
      · intro wq hSw; (try dsimp only at hSw); go_simp; (try with_reducible rfl)
      simp only [Act.put, List.getElem_toArray, List.getElem_cons_succ, List.getElem_cons_zero, List.setIfInBounds_toArray, List.set_cons_zero, List.set_cons_succ]
      refine wpAnyH_take (i := 10) (v := ?_) rfl (by kernel_rfl) (by kernel_rfl) (by kernel_rfl) (fun _ _ _ h => h) (Or.inl ⟨by rfl, ?_⟩) (by assumption) ?_
      rotate_left
      · intro wq hSw; (try dsimp only at hSw); go_simp; (try with_reducible rfl)
      simp only [Act.put, List.getElem_toArray, List.getElem_cons_succ, List.getElem_cons_zero, List.setIfInBounds_toArray, List.set_cons_zero, List.set_cons_succ]
      refine wpAnyH_take (i := 11) (v := ?_) rfl (by kernel_rfl) (by kernel_rfl) (by kernel_rfl) (fun _ _ _ h => h) (Or.inl ⟨by rfl, ?_⟩) (by assumption) ?_
      rotate_left
      · intro wq hSw; (try dsimp only at hSw); go_simp; (try with_reducible rfl)
      simp only [Act.put, List.getElem_toArray, List.getElem_cons_succ, List.getElem_cons_zero, List.setIfInBounds_toArray, List.set_cons_zero, List.set_cons_succ]
      have hBf := HB8.out.trans (hHeld.2.mono HB8.out.size)
      refine wpAnyH_done (by kernel_rfl) ?_ _
      clear hHeld
      clear by1 by2
      go_wp2_with fail
      go_ret
      exact ⟨rfl, hBf⟩
    · have dF : ((F : Int) != 0) = true := by simp; omega
      clear hF hF0 HT2
      go_wp2_with fail
      go_quiet (fail)
      go_wp2_with fail
      go_ret
      exact ⟨rfl, draws3 (HB8.out.alloc HB8.out.size _) _⟩

namespace ItemOne
set_option linter.unusedSimpArgs false in
set_option maxRecDepth 100000 in
theorem lifted (os : Os) (started : os.Started) (H : Type) (enc : TypeId × Value → H) :
    ReturnsInHanded {} Try.checked os 8 .any (Rows.itemOneSpec.pre6 enc Try.prog Try.f8 Rows.itemOneRow.domain false) (Rows.itemOneSpec.post enc Try.prog Try.f8 false true false false) := by
  refine returnsInHanded_of_change (C := Try.checked) own started (by kernel_rfl) Try.func8
    (ChangeSpec.witness6 (enc := enc) (C := Try.checked) false ⟨#[], #[.slice none 0 0, .slice none 0 0, .int .u8 0, .int .u8 0], []⟩ 8 (by kernel_rfl) (by kernel_rfl) (by kernel_rfl) (by kernel_rfl)) ?_
  intro W base args ds gs before hval0 hW _ _
  have hval : ∀ (j : Nat) t v, Try.f8.params[j]? = some t → args[j]? = some v → Value.okWide Try.prog W .any base t v := hval0
  have hW' := hW
  obtain ⟨p, q, hA0, hV, rfl, _, _⟩ := hW
  have hA : DataW.TrodAll enc Try.prog W 0 (fun _ => true) true Try.f8.params.toList args.toList ds p := hA0
  rw [Try.params8] at hA hval
  obtain ⟨v0, vs0, d0, ds0, p0, q0, hargs, rfl, rfl, h0, r0⟩ := trodAll_cons hA
  obtain ⟨v1, vs1, d1, ds1, p1, q1, rfl, rfl, rfl, h1, r1⟩ := trodAll_cons r0
  obtain ⟨v2, vs2, d2, ds2, p2, q2, rfl, rfl, rfl, h2, r2⟩ := trodAll_cons r1
  obtain ⟨v3, vs3, d3, ds3, p3, q3, rfl, rfl, rfl, h3, r3⟩ := trodAll_cons r2
  obtain ⟨rfl, rfl, rfl⟩ := trodAll_nil r3
  obtain rfl : args = #[v0, v1, v2, v3] := by cases args; simp_all
  obtain ⟨rfl, rfl⟩ := trodVars_none hV
  obtain ⟨A0, cs0, cap0, rfl, l0, m0, b0, again0⟩ := arg_bytes (hval 0 22 v0 rfl rfl) h0
  have x0 := arg_extra h0
  obtain ⟨A1, cs1, cap1, rfl, l1, m1, b1, again1⟩ := arg_bytes (hval 1 22 v1 rfl rfl) h1
  have x1 := arg_extra h1
  obtain ⟨a2, rfl, rfl, rfl, w2⟩ := open_int Try.underlying5 (hval 2 5 v2 rfl rfl) h2
  have k2 := wf_u8 w2
  obtain ⟨n2, rfl⟩ : ∃ u : UInt8, a2 = (u.toNat : Int) := ⟨UInt8.ofNat a2.toNat, by simp; omega⟩
  obtain ⟨a3, rfl, rfl, rfl, w3⟩ := open_int Try.underlying5 (hval 3 5 v3 rfl rfl) h3
  have k3 := wf_u8 w3
  obtain ⟨n3, rfl⟩ : ∃ u : UInt8, a3 = (u.toNat : Int) := ⟨UInt8.ofNat a3.toNat, by simp; omega⟩
  clear hA0 hval0
  simp only [List.append_nil] at hW'
  refine (one_walk A0 cs0 _ cap0 A1 cs1 _ cap1 n2.toNat n3 W n2.toNat_lt rfl l0 m0 b0 rfl l1 m1 b1).mono fun e W' ⟨he, hg⟩ => ?_
  subst he
  exact ⟨_, rfl, true_last hW' rfl (by kernel_rfl) Try.underlying4 rfl rfl rfl (of_decide_eq_true (by kernel_rfl)) hg⟩

/-- **ItemOne, at every input.** -/
theorem proved : Rows.ItemOneSaid :=
  OpenClaim.holds_of_wide 8 Try.f8 rfl rfl rfl rfl rfl rfl rfl ⟨rfl, rfl, rfl, rfl, rfl⟩ rfl rfl rfl rfl rfl (by kernel_rfl) Try.func8 (by kernel_rfl)
    (of_decide_eq_true (by kernel_rfl)) (by unfold Func.isWrapper; first | (rw [if_pos (by decide +kernel)]; kernel_rfl) | (rw [if_neg (by decide +kernel)]; exact ⟨rfl, rfl⟩))
    (fun os started H enc _ => lifted os started H enc)
end ItemOne

end Go.Proofs.Ytklgggolkclebaa
