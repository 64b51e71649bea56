/-
  The document's own Parse of layer 4 (telemeterref04) answers as the program's does.
-/
import Derived.Test.YtkfidolbbnmjfaaDoorCtxRefPar
namespace Go.Proofs.YtkfidolbbnmjfaaDoor
open Go.RowKit Go.Proofs.CtxMath

/-- The number that an option tells, and whether. -/
theorem numV_parts (o : Option Nat) : numV o = .tuple #[.int .u64 ((o.getD 0 : Nat) : Int), .bool o.isSome] := by cases o <;> rfl
theorem parse55_bad {cs : List UInt8} (h : ¬ (cs.length = 55 ∧ cs.take 3 = [48, 48, 45] ∧ cs.getD 35 0 = 45 ∧ cs.getD 52 0 = 45)) : parseOf cs = (0, 0, 0, 0, 31) := by
  unfold parseOf
  rw [readAll_55]
  unfold parse55
  rw [if_neg h]
theorem parse55_hex {cs : List UInt8} (h : cs.length = 55 ∧ cs.take 3 = [48, 48, 45] ∧ cs.getD 35 0 = 45 ∧ cs.getD 52 0 = 45) {o1 o2 o3 o4 : Option Nat} (e1 : hexNum ((cs.drop 3).take 16) = o1) (e2 : hexNum ((cs.drop 19).take 16) = o2) (e3 : hexNum ((cs.drop 36).take 16) = o3) (e4 : hexNum (cs.drop 53) = o4) :
    parseOf cs = if o1.isSome && o2.isSome && o3.isSome && o4.isSome then (if isPar (o1.getD 0) (o2.getD 0) (o3.getD 0) = true then (o1.getD 0, o2.getD 0, o3.getD 0, o4.getD 0 % 256, 0) else (0, 0, 0, 0, 1)) else (0, 0, 0, 0, 31) := by
  unfold parseOf
  rw [readAll_55]
  unfold parse55
  rw [if_pos h, e1, e2, e3, e4]
  cases o1 <;> cases o2 <;> cases o3 <;> cases o4 <;> rfl

set_option linter.unusedSimpArgs false in
set_option linter.unusedVariables false in
set_option maxRecDepth 100000 in
set_option maxHeartbeats 8000000 in
theorem refParse_any (s : ByteArray) (w : World) (hs : s.size ≤ 9223372036854775807) :
    Calls Tryd.prog 31 #[.string s] w fun e w' => e = .returned (parentV (parseOf s.data.toList) .i64) ∧ Below w.heap.size w w' := by
  obtain ⟨cs, hcs⟩ : ∃ cs, s.data.toList = cs := ⟨_, rfl⟩
  have hl : cs.length = s.size := by rw [← hcs]; simp
  rw [hcs]
  obtain ⟨P, hP⟩ : ∃ P, parseOf cs = P := ⟨_, rfl⟩
  rw [hP]
  obtain ⟨P0, P1, P2, P3, P4⟩ := P
  have HP := Lib.hid hP
  unfold parentV
  dsimp only
  by_cases h55 : s.size = 55
  · have d55 : ((s.size : Int) != 55) = false := by rw [h55]; rfl
    have hat : ∀ i (h : i < s.size), s[i] = cs.getD i 0 := fun i h => by
      rw [← hcs, List.getD_eq_getElem?_getD, List.getElem?_eq_getElem (by rw [size_list]; exact h)]; rfl
    obtain ⟨q0, hq0⟩ : ∃ q, s.extract 0 3 = q := ⟨_, rfl⟩
    have hq0' : q0.data.toList = cs.take 3 := by rw [← hq0, ext_list, hcs]; rfl
    obtain ⟨x35, hx35⟩ : ∃ x, cs.getD 35 0 = x := ⟨_, rfl⟩
    obtain ⟨x52, hx52⟩ : ∃ x, cs.getD 52 0 = x := ⟨_, rfl⟩
    have hc35 : ∀ hh : 35 < s.size, s[35]'hh = x35 := fun hh => by rw [← hx35]; exact hat 35 hh
    have hc52 : ∀ hh : 52 < s.size, s[52]'hh = x52 := fun hh => by rw [← hx52]; exact hat 52 hh
    by_cases hA : q0 = ⟨#[48, 48, 45]⟩
    · by_cases hB : x35 = 45
      · by_cases hC : x52 = 45
        · have hall : cs.length = 55 ∧ cs.take 3 = [48, 48, 45] ∧ cs.getD 35 0 = 45 ∧ cs.getD 52 0 = 45 := ⟨by rw [hl, h55], by rw [← hq0', hA], by rw [hx35, hB], by rw [hx52, hC]⟩
          subst hA hB hC
          obtain ⟨g1, hg1⟩ : ∃ g, s.extract 3 19 = g := ⟨_, rfl⟩
          obtain ⟨g2, hg2⟩ : ∃ g, s.extract 19 35 = g := ⟨_, rfl⟩
          obtain ⟨g3, hg3⟩ : ∃ g, s.extract 36 52 = g := ⟨_, rfl⟩
          obtain ⟨g4, hg4⟩ : ∃ g, s.extract 53 55 = g := ⟨_, rfl⟩
          have v1 : g1.data.toList = (cs.drop 3).take 16 := by rw [← hg1, ext_list, hcs, List.drop_take]
          have v2 : g2.data.toList = (cs.drop 19).take 16 := by rw [← hg2, ext_list, hcs, List.drop_take]
          have v3 : g3.data.toList = (cs.drop 36).take 16 := by rw [← hg3, ext_list, hcs, List.drop_take]
          have v4 : g4.data.toList = cs.drop 53 := by rw [← hg4, ext_list, hcs, List.take_of_length_le (by omega)]
          obtain ⟨o1, e1⟩ : ∃ o, hexNum ((cs.drop 3).take 16) = o := ⟨_, rfl⟩
          obtain ⟨o2, e2⟩ : ∃ o, hexNum ((cs.drop 19).take 16) = o := ⟨_, rfl⟩
          obtain ⟨o3, e3⟩ : ∃ o, hexNum ((cs.drop 36).take 16) = o := ⟨_, rfl⟩
          obtain ⟨o4, e4⟩ : ∃ o, hexNum (cs.drop 53) = o := ⟨_, rfl⟩
          have hval := parse55_hex hall e1 e2 e3 e4
          rw [HP.out] at hval
          have sz : ∀ g : ByteArray, g.data.toList.length ≤ 55 → g.size ≤ 9223372036854775807 := fun g h => by rw [← size_list]; omega
          have n1 := fun W => refHex_any g1 W (sz g1 (by rw [v1, List.length_take]; omega))
          have n2 := fun W => refHex_any g2 W (sz g2 (by rw [v2, List.length_take]; omega))
          have n3 := fun W => refHex_any g3 W (sz g3 (by rw [v3, List.length_take]; omega))
          have n4 := fun W => refHex_any g4 W (sz g4 (by rw [v4, List.length_drop]; omega))
          rw [v1, e1, numV_parts] at n1
          rw [v2, e2, numV_parts] at n2
          rw [v3, e3, numV_parts] at n3
          rw [v4, e4, numV_parts] at n4
          obtain ⟨m1, hm1⟩ : ∃ m, o1.getD 0 = m := ⟨_, rfl⟩
          obtain ⟨m2, hm2⟩ : ∃ m, o2.getD 0 = m := ⟨_, rfl⟩
          obtain ⟨m3, hm3⟩ : ∃ m, o3.getD 0 = m := ⟨_, rfl⟩
          obtain ⟨m4, hm4⟩ : ∃ m, o4.getD 0 = m := ⟨_, rfl⟩
          obtain ⟨b1, hb1⟩ : ∃ b, o1.isSome = b := ⟨_, rfl⟩
          obtain ⟨b2, hb2⟩ : ∃ b, o2.isSome = b := ⟨_, rfl⟩
          obtain ⟨b3, hb3⟩ : ∃ b, o3.isSome = b := ⟨_, rfl⟩
          obtain ⟨b4, hb4⟩ : ∃ b, o4.isSome = b := ⟨_, rfl⟩
          rw [hm1, hb1] at n1
          rw [hm2, hb2] at n2
          rw [hm3, hb3] at n3
          rw [hm4, hb4] at n4
          rw [hm1, hm2, hm3, hm4, hb1, hb2, hb3, hb4] at hval
          have N1 := Lib.hid n1
          have N2 := Lib.hid n2
          have N3 := Lib.hid n3
          have N4 := Lib.hid n4
          have HV := Lib.hid hval
          clear n1 n2 n3 n4 e1 e2 e3 e4 v1 v2 v3 v4 hm1 hm2 hm3 hm4 hb1 hb2 hb3 hb4 hval hall HP hP hat hl hcs hq0' hx35 hx52 sz
          go_enter Tryd.func31, Tryd.ntmps31
          go_wp2_with fail
          refine (N1.out _).mono ?_
          rintro e w1 ⟨rfl, rfl⟩
          go_wp2_with fail
          refine (N2.out _).mono ?_
          rintro e w1 ⟨rfl, rfl⟩
          go_wp2_with fail
          refine (N3.out _).mono ?_
          rintro e w1 ⟨rfl, rfl⟩
          go_wp2_with fail
          refine (N4.out _).mono ?_
          rintro e w1 ⟨rfl, rfl⟩
          clear N1 N2 N3 N4 hg1 hg2 hg3 hg4
          have hv := HV.out
          cases hbb : (b1 && b2 && b3 && b4) with
          | false =>
            rw [hbb, if_neg (by decide)] at hv
            injection hv with q0 hv
            injection hv with q1 hv
            injection hv with q2 hv
            injection hv with q3 q4
            subst q0 q1 q2 q3 q4
            clear HV
            cases b1 <;> cases b2 <;> cases b3 <;> cases b4 <;> first | (exact absurd hbb (by decide)) | skip
            all_goals
              clear hbb
              go_wp2_with fail
              exact bodyPost_ret (v := .tuple #[.agg #[.int .u64 0, .int .u64 0, .int .u64 0, .int .u8 0], .int .i64 31]) (by simp [results, Tryd.results31, go_sem]) rfl ⟨rfl, box_below _⟩
          | true =>
            rw [hbb, if_pos rfl] at hv
            have hb' : b1 = true ∧ b2 = true ∧ b3 = true ∧ b4 = true := by simpa [and_assoc] using hbb
            obtain ⟨rfl, rfl, rfl, rfl⟩ := hb'
            obtain ⟨x, hx⟩ : ∃ x, ((m1 : Int) == 0) = x := ⟨_, rfl⟩
            obtain ⟨y, hy⟩ : ∃ y, ((m2 : Int) == 0) = y := ⟨_, rfl⟩
            obtain ⟨z, hz⟩ : ∃ z, ((m3 : Int) == 0) = z := ⟨_, rfl⟩
            have hpar : isPar m1 m2 m3 = !((x && y) || z) := by
              rw [← hx, ← hy, ← hz]
              unfold isPar
              rw [Bool.eq_iff_iff]
              simp
              try omega
            rw [hpar] at hv
            obtain ⟨d, hd, hd2⟩ : ∃ d : Nat, IntKind.u8.wrap (m4 : Int) = (d : Int) ∧ d = m4 % 256 := ⟨m4 % 256, by rw [IntKind.wrap_u8']; omega, rfl⟩
            rw [← hd2] at hv
            clear HV hbb hpar hd2
            cases x <;> cases y <;> cases z
            all_goals
              simp only [Bool.and_true, Bool.and_false, Bool.or_true, Bool.or_false, Bool.not_true, Bool.not_false, if_true, if_false, Bool.false_eq_true] at hv
              injection hv with q0 hv
              injection hv with q1 hv
              injection hv with q2 hv
              injection hv with q3 q4
              subst q0 q1 q2 q3 q4
              go_wp2_with fail
              first
                | exact bodyPost_ret (v := .tuple #[.agg #[.int .u64 (P0 : Int), .int .u64 (P1 : Int), .int .u64 (P2 : Int), .int .u8 (P3 : Int)], .int .i64 0]) (by simp [results, Tryd.results31, go_sem]) rfl ⟨rfl, box_below _⟩
                | exact bodyPost_ret (v := .tuple #[.agg #[.int .u64 0, .int .u64 0, .int .u64 0, .int .u8 0], .int .i64 1]) (by simp [results, Tryd.results31, go_sem]) rfl ⟨rfl, box_below _⟩
        · have dC : ((x52.toNat : Int) != 45) = true := by
            have : x52.toNat ≠ 45 := fun h => hC (UInt8.toNat_inj.1 h)
            simp; omega
          subst hA hB
          have hbad := parse55_bad (cs := cs) (fun h => hC (by rw [← hx52]; exact h.2.2.2))
          rw [HP.out] at hbad
          injection hbad with b0 hbad
          injection hbad with b1 hbad
          injection hbad with b2 hbad
          injection hbad with b3 b4
          subst b0 b1 b2 b3 b4
          clear HP hP hl hcs hat hq0' hx35 hx52 hC
          go_enter Tryd.func31, Tryd.ntmps31
          go_wp2_with fail
          exact bodyPost_ret (v := .tuple #[.agg #[.int .u64 0, .int .u64 0, .int .u64 0, .int .u8 0], .int .i64 31]) (by simp [results, Tryd.results31, go_sem]) rfl ⟨rfl, box_below _⟩
      · have dB : ((x35.toNat : Int) != 45) = true := by
          have : x35.toNat ≠ 45 := fun h => hB (UInt8.toNat_inj.1 h)
          simp; omega
        subst hA
        have hbad := parse55_bad (cs := cs) (fun h => hB (by rw [← hx35]; exact h.2.2.1))
        rw [HP.out] at hbad
        injection hbad with b0 hbad
        injection hbad with b1 hbad
        injection hbad with b2 hbad
        injection hbad with b3 b4
        subst b0 b1 b2 b3 b4
        clear HP hP hl hcs hat hq0' hx35 hx52 hB
        go_enter Tryd.func31, Tryd.ntmps31
        go_wp2_with fail
        exact bodyPost_ret (v := .tuple #[.agg #[.int .u64 0, .int .u64 0, .int .u64 0, .int .u8 0], .int .i64 31]) (by simp [results, Tryd.results31, go_sem]) rfl ⟨rfl, box_below _⟩
    · have dA0 : ¬ q0.toList = [48, 48, 45] := by
        rw [list_data]
        intro h
        apply hA
        cases q0 with
        | mk d => congr 1; exact Array.toList_inj.1 h
      have dA : (q0.toList == [48, 48, 45]) = false := by rw [beq_eq_false_iff_ne]; exact dA0
      have hbad := parse55_bad (cs := cs) (fun h => hA (by have h2 := h.2.1; rw [← hq0'] at h2; cases q0 with | mk d => congr 1; exact Array.toList_inj.1 h2))
      rw [HP.out] at hbad
      injection hbad with b0 hbad
      injection hbad with b1 hbad
      injection hbad with b2 hbad
      injection hbad with b3 b4
      subst b0 b1 b2 b3 b4
      clear HP hP hl hcs hat hq0' hx35 hx52 hA
      go_enter Tryd.func31, Tryd.ntmps31
      go_wp2_with fail
      exact bodyPost_ret (v := .tuple #[.agg #[.int .u64 0, .int .u64 0, .int .u64 0, .int .u8 0], .int .i64 31]) (by simp [results, Tryd.results31, go_sem]) rfl ⟨rfl, box_below _⟩
  · have d55 : ((s.size : Int) != 55) = true := by simp; omega
    have hbad := parse55_bad (cs := cs) (fun h => h55 (by rw [← hl]; exact h.1))
    rw [HP.out] at hbad
    injection hbad with b0 hbad
    injection hbad with b1 hbad
    injection hbad with b2 hbad
    injection hbad with b3 b4
    subst b0 b1 b2 b3 b4
    clear HP hP h55 hl hcs
    go_enter Tryd.func31, Tryd.ntmps31
    go_wp2_with fail
    exact bodyPost_ret (v := .tuple #[.agg #[.int .u64 0, .int .u64 0, .int .u64 0, .int .u8 0], .int .i64 31]) (by simp [results, Tryd.results31, go_sem]) rfl ⟨rfl, box_below _⟩
end Go.Proofs.YtkfidolbbnmjfaaDoor
