/-
  What the document's own fields (telemeterref03) tells, at every slice of bytes: the fields one behind the other, in new memory, or none.
-/
import Derived.Test.YtklgggolkclebaaItemFlds
import Derived.Test.YtklgggolkclebaaItemRefGet
import Derived.Test.YtklgggolkclebaaItemRead
namespace Go.Proofs.Ytklgggolkclebaa
open Go.RowKit Go.Proofs.NumMath Go.Proofs.ItemMath

theorem own_apartN {W : World} {B n g k : Nat} {v : Value} {xs : List Value} {C : Array Value} {e T : TypeId} (ho : W.ownsRow B e k v n xs) (hb : Blk W g C T) (hT : e ≠ T) : v.ownBlock ≠ some g := fun h => by
  rcases ho.2 with ⟨rfl, _⟩ | ⟨k, cap, cur, rfl, _, hk, _⟩
  · simp [Value.ownBlock] at h
  · obtain rfl : k = g := by simpa [Value.ownBlock] using h
    unfold Blk at hb
    rw [hk] at hb
    injection hb with hb
    injection hb with _ h2 _
    exact hT h2
theorem own_laterN {base k : Nat} {w w' : World} {e : TypeId} {v : Value} {n : Nat} {xs : List Value} (ho : w.ownsRow base e k v n xs) (hb : Below w.heap.size w w') : w'.ownsRow base e k v n xs := by
  refine ho.kept (row := none) ⟨hb.os, hb.tape, hb.output, hb.size, fun i hi _ => hb.block i hi⟩ ?_
  cases v.ownBlock <;> simp
theorem own_ltN {base k : Nat} {w : World} {e : TypeId} {v : Value} {n : Nat} {xs : List Value} (ho : w.ownsRow base e k v n xs) : v.ownBlock ≠ some w.heap.size := fun h => by
  rcases ho.2 with ⟨rfl, _⟩ | ⟨g, cap, cur, rfl, _, hg, _⟩
  · simp [Value.ownBlock] at h
  · have := (Array.getElem?_eq_some_iff.1 hg).1
    simp [Value.ownBlock] at h
    omega
theorem new_row (W : World) (n : Nat) (hn : W.heap.size = n) (C : List Value) (T : TypeId) : ∀ j u, C[j]? = some u → (W.alloc (.cells C.toArray T)).cell? ((⟨n, 0, none⟩ : Addr).add j) = some u := fun j u hu => by
  subst hn
  have e : (⟨W.heap.size, 0, none⟩ : Addr).add j = ⟨W.heap.size, j, none⟩ := by unfold Addr.add; split <;> simp_all
  rw [e, World.cell?_alloc_mark]
  simpa using hu
theorem own_base {base k : Nat} {w : World} {e : TypeId} {v : Value} {n : Nat} {xs : List Value} (ho : w.ownsRow base e k v n xs) : ∀ b, v.ownBlock = some b → base ≤ b := fun b hb => by
  rcases ho.2 with ⟨e, _⟩ | ⟨g', _, _, e, hg', _⟩
  · rw [e] at hb; simp [Value.ownBlock] at hb
  · rw [e] at hb; simp [Value.ownBlock] at hb; omega

def fCells : List Fld → List Value
  | [] => []
  | f :: r => .int .u64 (f.no : Int) :: .int .i64 (f.tx : Int) :: .int .u64 (f.n : Int) :: .string f.s :: fCells r
theorem fCells_app : ∀ (l : List Fld) (f : Fld), fCells (l ++ [f]) = fCells l ++ [.int .u64 (f.no : Int), .int .i64 (f.tx : Int), .int .u64 (f.n : Int), .string f.s]
  | [], _ => rfl
  | g :: r, f => by rw [List.cons_append, fCells, fCells_app r f, fCells]; rfl
theorem info_fld : (Try.prog.info? 89).map (fun i => (i.zero, i.size, i.bytes)) = some (some (.agg #[.int .u64 0, .int .i64 0, .int .u64 0, .string ⟨#[]⟩]), 4, 40) := by kernel_rfl

def FieldsTold (cs : List UInt8) (w : World) (e : Ending) (w' : World) : Prop :=
  Below w.heap.size w w' ∧ (fieldsOf cs = none ∧ e = .returned (.tuple #[.slice none 0 0, .bool false]) ∨
    ∃ (l : List Fld) (A' : Option Addr) (n c' : Nat), fieldsOf cs = some l ∧ l.length = n ∧ n ≤ cs.length ∧ e = .returned (.tuple #[.slice A' n c', .bool true]) ∧ w'.ownsRow w.heap.size 89 4 (.slice A' n c') n (fCells l))

theorem fields_on {cs : List UInt8} {k i j : Nat} {l : List Fld} {x : Fld} (h : fieldsOf cs = (runF cs (k + 1) i).map (l ++ ·)) (hi : i < cs.length) (hs : stepF cs i = some (x, j)) :
    fieldsOf cs = (runF cs k j).map ((l ++ [x]) ++ ·) := by
  rw [h, runF_step hi hs, Option.map_map]
  congr 1
  funext r
  simp
theorem fields_bad {cs : List UInt8} {k i : Nat} {l : List Fld} (h : fieldsOf cs = (runF cs (k + 1) i).map (l ++ ·)) (hi : i < cs.length) (hs : stepF cs i = none) : fieldsOf cs = none := by
  rw [h, runF_no hi hs]; rfl
theorem fields_end {cs : List UInt8} {k i : Nat} {l : List Fld} (h : fieldsOf cs = (runF cs (k + 1) i).map (l ++ ·)) (hi : cs.length ≤ i) : fieldsOf cs = some l := by
  rw [h, runF_end hi]; simp

set_option linter.unusedSimpArgs false in
set_option linter.unusedVariables false in
set_option maxRecDepth 100000 in
set_option maxHeartbeats 4000000 in
theorem refFields_any (A : Option Addr) (cs : List UInt8) (len cap : Nat) (w : World) (hlen : cs.length = len) (hl : len ≤ cap) (hcap : cap ≤ 9223372036854775807) (hbd : len ≤ 100000) (hr : Holds8 w.heap.size w A cs) :
    Calls Try.prog 46 #[.slice A len cap] w (FieldsTold cs w) := by
  have hG := fun (i : Nat) (W : World) (hb : Below w.heap.size w W) => refGet_any A cs cap (i : Int) W (hlen ▸ hl) hcap (hr.later hb)
  have hT := fun (i : Nat) (W : World) (hb : Below w.heap.size w W) => refGetText_any A cs cap (i : Int) 4096 W (hlen ▸ hl) hcap (by omega) (hr.later hb)
  rw [hlen] at hG hT
  have HG := Lib.hid hG
  have HT := Lib.hid hT
  have HLEN := Lib.hid hlen
  obtain ⟨i1, ha0, ha1, ha2, ha3⟩ := info_parts info_fld
  clear hG hT hlen hr
  go_enter Try.func46, Try.ntmps46
  go_wp2_with fail
  go_loopw [4, 5] (fun ov av wr => ∃ (k m i : Nat) (A' : Option Addr) (c' : Nat) (l : List Fld), ov = .slice A' m c' ∧ av = .int .i64 (i : Int) ∧ Hid (l.length = m) ∧ Hid (fieldsOf cs = (runF cs (k + 1) i).map (l ++ ·)) ∧ len ≤ k + i ∧ m ≤ i ∧ i ≤ len ∧ Hid (wr.ownsRow w.heap.size 89 4 (.slice A' m c') m (fCells l)) ∧ Below w.heap.size w wr) (fun _ av _ => len - (intOf av).toNat)
  case atStart => exact ⟨len, 0, 0, none, 0, [], rfl, rfl, Lib.hid rfl, Lib.hid (by rw [← HLEN.out]; simp [fieldsOf]), by omega, by omega, by omega, Lib.hid (World.ownsRow_nil _ _ _ _), Below.refl _ _⟩
  case round =>
    obtain ⟨k, m, i, A1, c1, l, rfl, rfl, HM, HF, hki, hmi, hil, HO, hB⟩ := hrel
    by_cases hlt : i < len
    · have dl : decide ((i : Int) < (len : Int)) = true := by simp; omega
      have dl' : decide (i < len) = true := by simp; omega
      obtain ⟨k, rfl⟩ : ∃ k', k = k' + 1 := ⟨k - 1, by omega⟩
      have hg1 := HG.out i wr hB
      obtain ⟨g, hgq⟩ : ∃ g, getAt cs (i : Int) = g := ⟨_, rfl⟩
      rw [hgq] at hg1
      have hbt := getAt_cs_bounds (cs := cs) (i := (i : Int))
      rw [hgq] at hbt
      obtain ⟨t, fr, e0⟩ := g
      dsimp only at hg1 hbt
      have HG1 := Lib.hid hg1
      clear hg1
      by_cases he : e0 = 0
      · subst he
        obtain ⟨hfr1, hfr2⟩ := getAt_more hgq
        rw [HLEN.out] at hfr2
        obtain ⟨q, hq, hq63⟩ : ∃ q : Nat, (t : Int) / 2 = (q : Int) ∧ q < 9223372036854775808 := ⟨t / 2, by simp, by omega⟩
        obtain ⟨r, hrr0, hr1⟩ : ∃ r : Nat, (t : Int) % 2 = (r : Int) ∧ r ≤ 1 := ⟨t % 2, by simp, by omega⟩
        by_cases hodd : r = 1
        · subst hodd
          have hrr : (t : Int) % 2 = 1 := hrr0
          clear hrr0
          obtain ⟨gt, hgt⟩ : ∃ g, getText cs (fr : Int) 4096 = g := ⟨_, rfl⟩
          obtain ⟨s, up, e1⟩ := gt
          have hT1 := fun W hb => HT.out fr W hb
          rw [hgt] at hT1
          dsimp only at hT1
          obtain ⟨sb, hsb⟩ : ∃ sb : ByteArray, ⟨s.toArray⟩ = sb := ⟨_, rfl⟩
          rw [hsb] at hT1
          have hsb' : bytesOf s = sb := hsb
          have HT1 := Lib.hid hT1
          have hst : e1 = 0 → stepF cs i = some (⟨q, 1, 0, sb⟩, up) := fun h1 => by
            subst h1
            unfold stepF
            rw [hgq]
            dsimp only
            rw [if_neg (by omega), if_pos (by omega), hgt]
            dsimp only
            rw [if_neg (by omega), hsb', show t / 2 = q by omega]
          have hnt : e1 ≠ 0 → stepF cs i = none := fun h1 => by
            unfold stepF
            rw [hgq]
            dsimp only
            rw [if_neg (by omega), if_pos (by omega), hgt]
            exact if_pos h1
          have hup : e1 = 0 → i < up ∧ up ≤ len := fun h1 => by
            subst h1
            have := getText_more (most := 4096) hgt
            rw [HLEN.out] at this
            omega
          clear hT1 hgt hsb hsb' hgq
          by_cases he1 : e1 = 0
          · obtain ⟨hu1, hu2⟩ := hup he1
            have HON := Lib.hid (fields_on HF.out (by rw [HLEN.out]; exact hlt) (hst he1))
            subst he1
            clear hst hnt hup
            go_wp2_with fail
            refine HG1.out.mono ?_
            rintro e w1 ⟨rfl, hb1⟩
            have HB1 := Lib.hid (hB.trans (hb1.mono hB.size))
            have HO1 := Lib.hid (own_laterN HO.out hb1)
            clear hb1
            go_wp2_with fail
            refine (HT1.out _ (HB1.out.alloc HB1.out.size (.cells #[.int .u64 (q : Int), .int .i64 1, .int .u64 0, .string ⟨#[]⟩] 89))).mono ?_
            rintro e w2 ⟨rfl, hb2⟩
            have HK2 := Lib.hid ((blk_new w1 #[.int .u64 (q : Int), .int .i64 1, .int .u64 0, .string ⟨#[]⟩] 89).same (hb2.block _ (by rw [World.size_alloc]; omega)))
            have HO2 := Lib.hid (own_laterN (HO1.out.alloc (.cells #[.int .u64 (q : Int), .int .i64 1, .int .u64 0, .string ⟨#[]⟩] 89)) hb2)
            have HB2 := Lib.hid ((HB1.out.alloc HB1.out.size (.cells #[.int .u64 (q : Int), .int .i64 1, .int .u64 0, .string ⟨#[]⟩] 89)).trans (hb2.mono (by rw [World.size_alloc]; have := HB1.out.size; omega)))
            have hs12 : w1.heap.size < w2.heap.size := HK2.out.lt
            have hsw1 := HB1.out.size
            have hne : (Value.slice A1 m c1).ownBlock ≠ some w1.heap.size := own_ltN HO1.out
            have HO3 : Hid ((w2.setCell ⟨w1.heap.size, 3, none⟩ (.string sb)).ownsRow w.heap.size 89 4 (.slice A1 m c1) m (fCells l)) := Lib.hid (ownsRow_setCell_other HO2.out hne _)
            have HB3 := Lib.hid (HB2.out.setCell (p := ⟨w1.heap.size, 3, none⟩) hsw1 (.string sb))
            have HK3 := Lib.hid (HK2.out.set 3 (.string sb))
            have y0 := HK2.out.free 3
            have y1 : w2.cell? ⟨w1.heap.size, 3, none⟩ = some (.string ⟨#[]⟩) := HK2.out.cell 3 rfl
            have u0 : (w2.setCell ⟨w1.heap.size, 3, none⟩ (.string sb)).cell? ⟨w1.heap.size, 0, none⟩ = some (.int .u64 (q : Int)) := HK3.out.cell 0 rfl
            have u1 : (w2.setCell ⟨w1.heap.size, 3, none⟩ (.string sb)).cell? ⟨w1.heap.size, 1, none⟩ = some (.int .i64 1) := HK3.out.cell 1 rfl
            have u2 : (w2.setCell ⟨w1.heap.size, 3, none⟩ (.string sb)).cell? ⟨w1.heap.size, 2, none⟩ = some (.int .u64 0) := HK3.out.cell 2 rfl
            have u3 : (w2.setCell ⟨w1.heap.size, 3, none⟩ (.string sb)).cell? ⟨w1.heap.size, 3, none⟩ = some (.string sb) := HK3.out.cell 3 rfl
            clear hb2 hne
            go_wp2_with (at_builtin; refine wpList_append_lies _ rfl _ _ 85 rfl w.heap.size 89 i1 (.agg #[.int .u64 0, .int .i64 0, .int .u64 0, .string ⟨#[]⟩]) 4 40 Try.underlying85 ha0 ha1 ha2 ha3 rfl (by decide) (.slice A1 m c1) m (fCells l) rfl (HO3.out.alloc _) ⟨w2.heap.size, 0, none⟩ 1 1 [.int .u64 (q : Int), .int .i64 1, .int .u64 0, .string sb] rfl rfl (new_row (w2.setCell ⟨w1.heap.size, 3, none⟩ (.string sb)) (w2.heap.size) (by simp) _ _) (by simp [Value.oneCell']) (by decide) (by unfold maxLen; omega) (by omega) (by simp; omega) (w2.heap.size + 1) (by simp) ?_; intro g2 c3 w4 hown4 hgr4 hor4 hlt4; have HO4 := Lib.hid hown4; have HB4 := Lib.hid ((HB3.out.alloc (by simp; omega) (.cells #[.int .u64 (q : Int), .int .i64 1, .int .u64 0, .string sb] 89)).grown hgr4 (by simp; omega) (own_base HO1.out)); clear hown4 hgr4 hor4 hlt4 u0 u1 u2 u3)
            go_roundw
            case rel => exact ⟨k, m + 1, up, some ⟨g2, 0, none⟩, c3, l ++ [⟨q, 1, 0, sb⟩], rfl, rfl, Lib.hid (by rw [List.length_append, HM.out]; rfl), HON, by omega, by omega, by omega, Lib.hid (by rw [fCells_app]; exact HO4.out), HB4.out⟩
            case measure => simp [intOf]; omega
          · have HNO := Lib.hid (fields_bad HF.out (by rw [HLEN.out]; exact hlt) (hnt he1))
            have d1 : ((e1 : Int) != 0) = true := by simp; exact he1
            clear hst hnt hup he1
            go_wp2_with fail
            refine HG1.out.mono ?_
            rintro e w1 ⟨rfl, hb1⟩
            have HB1 := Lib.hid (hB.trans (hb1.mono hB.size))
            have HO1 := Lib.hid (own_laterN HO.out hb1)
            clear hb1
            go_wp2_with fail
            refine (HT1.out _ (HB1.out.alloc HB1.out.size (.cells #[.int .u64 (q : Int), .int .i64 1, .int .u64 0, .string ⟨#[]⟩] 89))).mono ?_
            rintro e w2 ⟨rfl, hb2⟩
            have HK2 := Lib.hid ((blk_new w1 #[.int .u64 (q : Int), .int .i64 1, .int .u64 0, .string ⟨#[]⟩] 89).same (hb2.block _ (by rw [World.size_alloc]; omega)))
            have HO2 := Lib.hid (own_laterN (HO1.out.alloc (.cells #[.int .u64 (q : Int), .int .i64 1, .int .u64 0, .string ⟨#[]⟩] 89)) hb2)
            have HB2 := Lib.hid ((HB1.out.alloc HB1.out.size (.cells #[.int .u64 (q : Int), .int .i64 1, .int .u64 0, .string ⟨#[]⟩] 89)).trans (hb2.mono (by rw [World.size_alloc]; have := HB1.out.size; omega)))
            have hs12 : w1.heap.size < w2.heap.size := HK2.out.lt
            have hsw1 := HB1.out.size
            have hne : (Value.slice A1 m c1).ownBlock ≠ some w1.heap.size := own_ltN HO1.out
            have HO3 : Hid ((w2.setCell ⟨w1.heap.size, 3, none⟩ (.string sb)).ownsRow w.heap.size 89 4 (.slice A1 m c1) m (fCells l)) := Lib.hid (ownsRow_setCell_other HO2.out hne _)
            have HB3 := Lib.hid (HB2.out.setCell (p := ⟨w1.heap.size, 3, none⟩) hsw1 (.string sb))
            have HK3 := Lib.hid (HK2.out.set 3 (.string sb))
            have y0 := HK2.out.free 3
            have y1 : w2.cell? ⟨w1.heap.size, 3, none⟩ = some (.string ⟨#[]⟩) := HK2.out.cell 3 rfl
            have u0 : (w2.setCell ⟨w1.heap.size, 3, none⟩ (.string sb)).cell? ⟨w1.heap.size, 0, none⟩ = some (.int .u64 (q : Int)) := HK3.out.cell 0 rfl
            have u1 : (w2.setCell ⟨w1.heap.size, 3, none⟩ (.string sb)).cell? ⟨w1.heap.size, 1, none⟩ = some (.int .i64 1) := HK3.out.cell 1 rfl
            have u2 : (w2.setCell ⟨w1.heap.size, 3, none⟩ (.string sb)).cell? ⟨w1.heap.size, 2, none⟩ = some (.int .u64 0) := HK3.out.cell 2 rfl
            have u3 : (w2.setCell ⟨w1.heap.size, 3, none⟩ (.string sb)).cell? ⟨w1.heap.size, 3, none⟩ = some (.string sb) := HK3.out.cell 3 rfl
            clear hb2 hne
            go_wp2_with fail
            go_ret2
            exact ⟨HB3.out, .inl ⟨HNO.out, rfl⟩⟩
        · obtain rfl : r = 0 := by omega
          have hrr : (t : Int) % 2 = 0 := hrr0
          clear hrr0
          obtain ⟨gt, hgt⟩ : ∃ g, getAt cs (fr : Int) = g := ⟨_, rfl⟩
          obtain ⟨n, up, e1⟩ := gt
          have hT1 := fun W hb => HG.out fr W hb
          rw [hgt] at hT1
          dsimp only at hT1
          have HT1 := Lib.hid hT1
          have hst : e1 = 0 → stepF cs i = some (⟨q, 0, n, emp⟩, up) := fun h1 => by
            subst h1
            unfold stepF
            rw [hgq]
            dsimp only
            rw [if_neg (by omega), if_neg (by omega), hgt]
            dsimp only
            rw [if_neg (by omega), show t / 2 = q by omega]
          have hnt : e1 ≠ 0 → stepF cs i = none := fun h1 => by
            unfold stepF
            rw [hgq]
            dsimp only
            rw [if_neg (by omega), if_neg (by omega), hgt]
            exact if_pos h1
          have hup : e1 = 0 → i < up ∧ up ≤ len := fun h1 => by
            subst h1
            have := getAt_more hgt
            rw [HLEN.out] at this
            omega
          clear hT1 hgt hgq
          by_cases he1 : e1 = 0
          · obtain ⟨hu1, hu2⟩ := hup he1
            have HON := Lib.hid (fields_on HF.out (by rw [HLEN.out]; exact hlt) (hst he1))
            subst he1
            clear hst hnt hup
            go_wp2_with fail
            refine HG1.out.mono ?_
            rintro e w1 ⟨rfl, hb1⟩
            have HB1 := Lib.hid (hB.trans (hb1.mono hB.size))
            have HO1 := Lib.hid (own_laterN HO.out hb1)
            clear hb1
            go_wp2_with fail
            refine (HT1.out _ (HB1.out.alloc HB1.out.size (.cells #[.int .u64 (q : Int), .int .i64 0, .int .u64 0, .string ⟨#[]⟩] 89))).mono ?_
            rintro e w2 ⟨rfl, hb2⟩
            have HK2 := Lib.hid ((blk_new w1 #[.int .u64 (q : Int), .int .i64 0, .int .u64 0, .string ⟨#[]⟩] 89).same (hb2.block _ (by rw [World.size_alloc]; omega)))
            have HO2 := Lib.hid (own_laterN (HO1.out.alloc (.cells #[.int .u64 (q : Int), .int .i64 0, .int .u64 0, .string ⟨#[]⟩] 89)) hb2)
            have HB2 := Lib.hid ((HB1.out.alloc HB1.out.size (.cells #[.int .u64 (q : Int), .int .i64 0, .int .u64 0, .string ⟨#[]⟩] 89)).trans (hb2.mono (by rw [World.size_alloc]; have := HB1.out.size; omega)))
            have hs12 : w1.heap.size < w2.heap.size := HK2.out.lt
            have hsw1 := HB1.out.size
            have hne : (Value.slice A1 m c1).ownBlock ≠ some w1.heap.size := own_ltN HO1.out
            have HO3 : Hid ((w2.setCell ⟨w1.heap.size, 2, none⟩ (.int .u64 (n : Int))).ownsRow w.heap.size 89 4 (.slice A1 m c1) m (fCells l)) := Lib.hid (ownsRow_setCell_other HO2.out hne _)
            have HB3 := Lib.hid (HB2.out.setCell (p := ⟨w1.heap.size, 2, none⟩) hsw1 (.int .u64 (n : Int)))
            have HK3 := Lib.hid (HK2.out.set 2 (.int .u64 (n : Int)))
            have y0 := HK2.out.free 2
            have y1 : w2.cell? ⟨w1.heap.size, 2, none⟩ = some (.int .u64 0) := HK2.out.cell 2 rfl
            have u0 : (w2.setCell ⟨w1.heap.size, 2, none⟩ (.int .u64 (n : Int))).cell? ⟨w1.heap.size, 0, none⟩ = some (.int .u64 (q : Int)) := HK3.out.cell 0 rfl
            have u1 : (w2.setCell ⟨w1.heap.size, 2, none⟩ (.int .u64 (n : Int))).cell? ⟨w1.heap.size, 1, none⟩ = some (.int .i64 0) := HK3.out.cell 1 rfl
            have u2 : (w2.setCell ⟨w1.heap.size, 2, none⟩ (.int .u64 (n : Int))).cell? ⟨w1.heap.size, 2, none⟩ = some (.int .u64 (n : Int)) := HK3.out.cell 2 rfl
            have u3 : (w2.setCell ⟨w1.heap.size, 2, none⟩ (.int .u64 (n : Int))).cell? ⟨w1.heap.size, 3, none⟩ = some (.string ⟨#[]⟩) := HK3.out.cell 3 rfl
            clear hb2 hne
            go_wp2_with (at_builtin; refine wpList_append_lies _ rfl _ _ 85 rfl w.heap.size 89 i1 (.agg #[.int .u64 0, .int .i64 0, .int .u64 0, .string ⟨#[]⟩]) 4 40 Try.underlying85 ha0 ha1 ha2 ha3 rfl (by decide) (.slice A1 m c1) m (fCells l) rfl (HO3.out.alloc _) ⟨w2.heap.size, 0, none⟩ 1 1 [.int .u64 (q : Int), .int .i64 0, .int .u64 (n : Int), .string ⟨#[]⟩] rfl rfl (new_row (w2.setCell ⟨w1.heap.size, 2, none⟩ (.int .u64 (n : Int))) (w2.heap.size) (by simp) _ _) (by simp [Value.oneCell']) (by decide) (by unfold maxLen; omega) (by omega) (by simp; omega) (w2.heap.size + 1) (by simp) ?_; intro g2 c3 w4 hown4 hgr4 hor4 hlt4; have HO4 := Lib.hid hown4; have HB4 := Lib.hid ((HB3.out.alloc (by simp; omega) (.cells #[.int .u64 (q : Int), .int .i64 0, .int .u64 (n : Int), .string ⟨#[]⟩] 89)).grown hgr4 (by simp; omega) (own_base HO1.out)); clear hown4 hgr4 hor4 hlt4 u0 u1 u2 u3)
            go_roundw
            case rel => exact ⟨k, m + 1, up, some ⟨g2, 0, none⟩, c3, l ++ [⟨q, 0, n, emp⟩], rfl, rfl, Lib.hid (by rw [List.length_append, HM.out]; rfl), HON, by omega, by omega, by omega, Lib.hid (by rw [fCells_app]; exact HO4.out), HB4.out⟩
            case measure => simp [intOf]; omega
          · have HNO := Lib.hid (fields_bad HF.out (by rw [HLEN.out]; exact hlt) (hnt he1))
            have d1 : ((e1 : Int) != 0) = true := by simp; exact he1
            clear hst hnt hup he1
            go_wp2_with fail
            refine HG1.out.mono ?_
            rintro e w1 ⟨rfl, hb1⟩
            have HB1 := Lib.hid (hB.trans (hb1.mono hB.size))
            have HO1 := Lib.hid (own_laterN HO.out hb1)
            clear hb1
            go_wp2_with fail
            refine (HT1.out _ (HB1.out.alloc HB1.out.size (.cells #[.int .u64 (q : Int), .int .i64 0, .int .u64 0, .string ⟨#[]⟩] 89))).mono ?_
            rintro e w2 ⟨rfl, hb2⟩
            have HK2 := Lib.hid ((blk_new w1 #[.int .u64 (q : Int), .int .i64 0, .int .u64 0, .string ⟨#[]⟩] 89).same (hb2.block _ (by rw [World.size_alloc]; omega)))
            have HO2 := Lib.hid (own_laterN (HO1.out.alloc (.cells #[.int .u64 (q : Int), .int .i64 0, .int .u64 0, .string ⟨#[]⟩] 89)) hb2)
            have HB2 := Lib.hid ((HB1.out.alloc HB1.out.size (.cells #[.int .u64 (q : Int), .int .i64 0, .int .u64 0, .string ⟨#[]⟩] 89)).trans (hb2.mono (by rw [World.size_alloc]; have := HB1.out.size; omega)))
            have hs12 : w1.heap.size < w2.heap.size := HK2.out.lt
            have hsw1 := HB1.out.size
            have hne : (Value.slice A1 m c1).ownBlock ≠ some w1.heap.size := own_ltN HO1.out
            have HO3 : Hid ((w2.setCell ⟨w1.heap.size, 2, none⟩ (.int .u64 (n : Int))).ownsRow w.heap.size 89 4 (.slice A1 m c1) m (fCells l)) := Lib.hid (ownsRow_setCell_other HO2.out hne _)
            have HB3 := Lib.hid (HB2.out.setCell (p := ⟨w1.heap.size, 2, none⟩) hsw1 (.int .u64 (n : Int)))
            have HK3 := Lib.hid (HK2.out.set 2 (.int .u64 (n : Int)))
            have y0 := HK2.out.free 2
            have y1 : w2.cell? ⟨w1.heap.size, 2, none⟩ = some (.int .u64 0) := HK2.out.cell 2 rfl
            have u0 : (w2.setCell ⟨w1.heap.size, 2, none⟩ (.int .u64 (n : Int))).cell? ⟨w1.heap.size, 0, none⟩ = some (.int .u64 (q : Int)) := HK3.out.cell 0 rfl
            have u1 : (w2.setCell ⟨w1.heap.size, 2, none⟩ (.int .u64 (n : Int))).cell? ⟨w1.heap.size, 1, none⟩ = some (.int .i64 0) := HK3.out.cell 1 rfl
            have u2 : (w2.setCell ⟨w1.heap.size, 2, none⟩ (.int .u64 (n : Int))).cell? ⟨w1.heap.size, 2, none⟩ = some (.int .u64 (n : Int)) := HK3.out.cell 2 rfl
            have u3 : (w2.setCell ⟨w1.heap.size, 2, none⟩ (.int .u64 (n : Int))).cell? ⟨w1.heap.size, 3, none⟩ = some (.string ⟨#[]⟩) := HK3.out.cell 3 rfl
            clear hb2 hne
            go_wp2_with fail
            go_ret2
            exact ⟨HB3.out, .inl ⟨HNO.out, rfl⟩⟩
      · have d0 : ((e0 : Int) != 0) = true := by simp; exact he
        have hno := fields_bad HF.out (by rw [HLEN.out]; exact hlt) (by unfold stepF; rw [hgq]; exact if_pos he)
        have HNO := Lib.hid hno
        clear hno hgq
        go_wp2_with fail
        refine HG1.out.mono ?_
        rintro e w1 ⟨rfl, hb1⟩
        go_wp2_with fail
        go_ret2
        exact ⟨hB.trans (hb1.mono hB.size), .inl ⟨HNO.out, rfl⟩⟩
    · have dl : decide ((i : Int) < (len : Int)) = false := by simp; omega
      have dl' : decide (i < len) = false := by simp; omega
      have hend := fields_end HF.out (by rw [HLEN.out]; omega)
      have HE := Lib.hid hend
      clear hend
      go_wp2_with fail
      go_ret2
      exact ⟨hB, .inr ⟨l, A1, m, c1, HE.out, HM.out, by rw [HLEN.out]; omega, rfl, HO.out⟩⟩
end Go.Proofs.Ytklgggolkclebaa
