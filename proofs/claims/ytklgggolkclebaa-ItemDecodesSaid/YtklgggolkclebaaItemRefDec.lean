/-
  What the document's own Decode (telemeterref03) tells, at every slice of bytes.
-/
import Derived.Test.YtklgggolkclebaaItemDec0
import Derived.Test.YtklgggolkclebaaItemItem
namespace Go.Proofs.Ytklgggolkclebaa
open Go.RowKit Go.Proofs.NumMath Go.Proofs.ItemMath

theorem refLay_any (hi lo id par rv : Nat) (name : ByteArray) (start stop : Int) (bad : Bool) (A : Option Addr) (l : List Attr) (n cap base : Nat) (no tx fn : Nat) (fs : ByteArray) (w : World) (hf : fn < 18446744073709551616) (hfs : fs.size ≤ 4096) (hl : l.length = n) (hnb : n ≤ 100000) (hbase : base ≤ w.heap.size) (ho : w.ownsRow base 36 2 (.slice A n cap) n (aCells l)) :
    Calls Try.prog 47 #[.agg #[.int .u64 (hi : Int), .int .u64 (lo : Int), .int .u64 (id : Int), .int .u64 (par : Int), .string name, .int .i64 start, .int .i64 stop, .bool bad, .slice A n cap, .int .u64 (rv : Int)], .agg #[.int .u64 (no : Int), .int .i64 (tx : Int), .int .u64 (fn : Int), .string fs]] w (LaidF (putSp ⟨hi, lo, id, par, name, start, stop, bad, l, rv⟩ ⟨no, tx, fn, fs⟩) base A n cap w) := by
  by_cases h1 : no = 1
  · exact refLay_1 hi lo id par rv name start stop bad A l n cap base no tx fn fs w hf hfs hl hnb hbase ho h1
  by_cases h2 : no = 2
  · exact refLay_2 hi lo id par rv name start stop bad A l n cap base no tx fn fs w hf hfs hl hnb hbase ho h2
  by_cases h3 : no = 3
  · exact refLay_3 hi lo id par rv name start stop bad A l n cap base no tx fn fs w hf hfs hl hnb hbase ho h3
  by_cases h4 : no = 4
  · exact refLay_4 hi lo id par rv name start stop bad A l n cap base no tx fn fs w hf hfs hl hnb hbase ho h4
  by_cases h5 : no = 5
  · exact refLay_5 hi lo id par rv name start stop bad A l n cap base no tx fn fs w hf hfs hl hnb hbase ho h5
  by_cases h6 : no = 6
  · exact refLay_6 hi lo id par rv name start stop bad A l n cap base no tx fn fs w hf hfs hl hnb hbase ho h6
  by_cases h7 : no = 7
  · exact refLay_7 hi lo id par rv name start stop bad A l n cap base no tx fn fs w hf hfs hl hnb hbase ho h7
  by_cases h8 : no = 8
  · exact refLay_8 hi lo id par rv name start stop bad A l n cap base no tx fn fs w hf hfs hl hnb hbase ho h8
  by_cases h9 : no = 9
  · exact refLay_9 hi lo id par rv name start stop bad A l n cap base no tx fn fs w hf hfs hl hnb hbase ho h9
  by_cases h10 : no = 10
  · by_cases h : (getText fs.data.toList 0 60).2.2 = 0
    · exact refLay_ten_yes hi lo id par rv name start stop bad A l n cap base no tx fn fs w hf hfs hl hnb hbase ho ⟨h10, h⟩
    · exact refLay_ten_no hi lo id par rv name start stop bad A l n cap base no tx fn fs w hf hfs hl hnb hbase ho ⟨h10, h⟩
  · exact refLay_other hi lo id par rv name start stop bad A l n cap base no tx fn fs w hf hfs hl hnb hbase ho (by omega)

def DecTold (cs : List UInt8) (w : World) (e : Ending) (w' : World) : Prop :=
  Below w.heap.size w w' ∧ (decOf cs = none ∧ e = .returned (.tuple #[.agg itZ, .int .i64 40]) ∨
    ∃ (k : Nat) (S : Sp) (G : Lg) (A : Option Addr) (n c : Nat), decOf cs = some (k, S, G) ∧ S.attrs.length = n ∧ n ≤ cs.length ∧ e = .returned (.tuple #[.agg (itC k S A n c G), .int .i64 0]) ∧ HoldsA w'.heap.size w' A S.attrs)
theorem state_zero (k : Nat) (l : List Fld) : stateOf k (l.take 0) = (noSp, noLg) := by
  unfold stateOf
  split <;> rfl
theorem dec_none {c : UInt8} {r : List UInt8} (h : fieldsOf r = none) : decOf (c :: r) = none := by
  simp only [decOf, h]
theorem dec_other {c : UInt8} {r : List UInt8} {l : List Fld} {k : Nat} {S : Sp} {G : Lg} (h : fieldsOf r = some l) (hk : c.toNat = k) (hs : stateOf k l = (S, G)) (he : encItem k S G ≠ some (c :: r)) : decOf (c :: r) = none := by
  simp only [decOf, h]; rw [hk, hs, if_neg he]
theorem dec_some {c : UInt8} {r : List UInt8} {l : List Fld} {k : Nat} {S : Sp} {G : Lg} (h : fieldsOf r = some l) (hk : c.toNat = k) (hs : stateOf k l = (S, G)) (he : encItem k S G = some (c :: r)) : decOf (c :: r) = some (k, S, G) := by
  simp only [decOf, h]; rw [hk, hs, if_pos he]

set_option linter.unusedSimpArgs false in
set_option linter.unusedVariables false in
set_option maxRecDepth 100000 in
set_option maxHeartbeats 4000000 in
theorem refDecode_nil (A : Option Addr) (cap : Nat) (w : World) : Calls Try.prog 32 #[.slice A 0 cap] w (DecTold [] w) := by
  go_enter Try.func32, Try.ntmps32
  go_wp2_with fail
  exact bodyPost_ret (v := .tuple #[.agg itZ, .int .i64 40]) (by simp [results, Try.results32, go_sem, itZ]) rfl ⟨box_below _, .inl ⟨rfl, rfl⟩⟩


set_option linter.unusedSimpArgs false in
set_option linter.unusedVariables false in
set_option maxRecDepth 100000 in
set_option maxHeartbeats 8000000 in
theorem refDecode_some (A : Option Addr) (c : UInt8) (r : List UInt8) (len cap : Nat) (w : World) (hlen : (c :: r).length = len) (hl : len ≤ cap) (hcap : cap ≤ 9223372036854775807) (hbd : len ≤ 100000) (hr : Holds8 w.heap.size w A (c :: r)) :
    Calls Try.prog 32 #[.slice A len cap] w (DecTold (c :: r) w) := by
  have hpos : 0 < len := by rw [← hlen]; simp
  obtain ⟨A1, hsl0, hA1⟩ := cut_run A len cap 1 (by omega) hl
  have hsl : ∀ W : World, (Instr.slice 22 (.slice A len cap) (some (.int .i64 1)) none none).run Try.prog W = .ok (.slice A1 (len - 1) (cap - 1)) W := hsl0
  have HR := Lib.hid hr
  obtain ⟨b, off, rfl, hbl, hcell⟩ := hr (by simp)
  have x0 := hcell 0 (by simp)
  unfold Go.Proofs.Ytklgggolkclebaa.b8 at x0
  rw [Nat.add_zero] at x0
  obtain ⟨k, hk, hk8⟩ : ∃ k, c.toNat = k ∧ k < 256 := ⟨_, rfl, c.toNat_lt⟩
  have hx : ((c :: r).getD 0 0).toNat = k := hk
  rw [hx] at x0
  have d0 : ((len : Int) == 0) = false := by rw [beq_eq_false_iff_ne]; omega
  have d1 : decide ((0 : Int) < (len : Int)) = true := by simp; omega
  have d1n : decide (0 < len) = true := by simp; omega
  have hdl : r.length = len - 1 := by rw [← hlen]; simp
  have hH : Holds8 w.heap.size w A1 r := fun hp => by
    refine ⟨b, off + 1, hA1 (by omega) b off rfl, hbl, fun j hj => ?_⟩
    have h := hcell (1 + j) (by simp; omega)
    rw [← Nat.add_assoc] at h
    rw [h]
    simp [List.getD_eq_getElem?_getD, Nat.add_comm 1 j]
  have hG := fun (W : World) (h : Below w.heap.size w W) => refFields_any A1 r (len - 1) (cap - 1) W hdl (by omega) (by omega) (by omega) (hH.later h)
  obtain ⟨len1, hlen1⟩ : ∃ m, len - 1 = m := ⟨_, rfl⟩
  obtain ⟨cap1, hcap1⟩ : ∃ m, cap - 1 = m := ⟨_, rfl⟩
  rw [hlen1, hcap1] at hsl hG
  have hrl : r.length ≤ 100000 := by omega
  have HG := Lib.hid hG
  have HBX := Lib.hid (box_below (W := w) (.cells #[.int .u8 0, .int .u64 0, .int .u64 0, .int .u64 0, .int .u64 0, .string ⟨#[]⟩, .int .i64 0, .int .i64 0, .bool false, .slice none 0 0, .int .u64 0, .string ⟨#[]⟩, .int .u64 0, .int .i64 0, .string ⟨#[]⟩] 38))
  have HR0 := Lib.hid (blk_new w #[.int .u8 0, .int .u64 0, .int .u64 0, .int .u64 0, .int .u64 0, .string ⟨#[]⟩, .int .i64 0, .int .i64 0, .bool false, .slice none 0 0, .int .u64 0, .string ⟨#[]⟩, .int .u64 0, .int .i64 0, .string ⟨#[]⟩] 38)
  have HK := Lib.hid hk
  have HLEN := Lib.hid hlen
  clear hG hH hsl0 hA1 hcell hx hr hk hlen1 hcap1 hlen hdl
  go_enter Try.func32, Try.ntmps32
  go_wp2_with fail
  refine (HG.out _ HBX.out).mono ?_
  rintro e w1 ⟨hb1, hF⟩
  have HR1 := Lib.hid (HR0.out.same (hb1.block _ HR0.out.lt))
  have HB1 := Lib.hid (HBX.out.trans (hb1.mono HBX.out.size))
  rcases hF with ⟨hF, rfl⟩ | ⟨l, A2, n2, c2, hF, hn2, hn2r, rfl, hO⟩
  · have HN := Lib.hid (dec_none (c := c) hF)
    clear hF hb1
    go_wp2_with (refine wpList_store_row rfl 38 (.tmp 2) _ rfl w.heap.size #[.int .u8 0, .int .u64 0, .int .u64 0, .int .u64 0, .int .u64 0, .string ⟨#[]⟩, .int .i64 0, .int .i64 0, .bool false, .slice none 0 0, .int .u64 0, .string ⟨#[]⟩, .int .u64 0, .int .i64 0, .string ⟨#[]⟩] rfl rfl 38 #[.int .u8 0, .int .u64 0, .int .u64 0, .int .u64 0, .int .u64 0, .string ⟨#[]⟩, .int .i64 0, .int .i64 0, .bool false, .slice none 0 0, .int .u64 0, .string ⟨#[]⟩, .int .u64 0, .int .i64 0, .string ⟨#[]⟩] HR1.out (by kernel_rfl) rfl (by simp [Value.oneCell']) ?_)
    have hrz : Blk (w1.setRow w.heap.size #[.int .u8 0, .int .u64 0, .int .u64 0, .int .u64 0, .int .u64 0, .string ⟨#[]⟩, .int .i64 0, .int .i64 0, .bool false, .slice none 0 0, .int .u64 0, .string ⟨#[]⟩, .int .u64 0, .int .i64 0, .string ⟨#[]⟩]) w.heap.size #[.int .u8 0, .int .u64 0, .int .u64 0, .int .u64 0, .int .u64 0, .string ⟨#[]⟩, .int .i64 0, .int .i64 0, .bool false, .slice none 0 0, .int .u64 0, .string ⟨#[]⟩, .int .u64 0, .int .i64 0, .string ⟨#[]⟩] 38 := setRow_heap w1 _ _ _ _ _ HR1.out
    have r0 : (w1.setRow w.heap.size #[.int .u8 0, .int .u64 0, .int .u64 0, .int .u64 0, .int .u64 0, .string ⟨#[]⟩, .int .i64 0, .int .i64 0, .bool false, .slice none 0 0, .int .u64 0, .string ⟨#[]⟩, .int .u64 0, .int .i64 0, .string ⟨#[]⟩]).cell? ⟨w.heap.size, 0, none⟩ = some (.int .u8 0) := hrz.cell 0 rfl
    have r1 : (w1.setRow w.heap.size #[.int .u8 0, .int .u64 0, .int .u64 0, .int .u64 0, .int .u64 0, .string ⟨#[]⟩, .int .i64 0, .int .i64 0, .bool false, .slice none 0 0, .int .u64 0, .string ⟨#[]⟩, .int .u64 0, .int .i64 0, .string ⟨#[]⟩]).cell? ⟨w.heap.size, 1, none⟩ = some (.int .u64 0) := hrz.cell 1 rfl
    have r2 : (w1.setRow w.heap.size #[.int .u8 0, .int .u64 0, .int .u64 0, .int .u64 0, .int .u64 0, .string ⟨#[]⟩, .int .i64 0, .int .i64 0, .bool false, .slice none 0 0, .int .u64 0, .string ⟨#[]⟩, .int .u64 0, .int .i64 0, .string ⟨#[]⟩]).cell? ⟨w.heap.size, 2, none⟩ = some (.int .u64 0) := hrz.cell 2 rfl
    have r3 : (w1.setRow w.heap.size #[.int .u8 0, .int .u64 0, .int .u64 0, .int .u64 0, .int .u64 0, .string ⟨#[]⟩, .int .i64 0, .int .i64 0, .bool false, .slice none 0 0, .int .u64 0, .string ⟨#[]⟩, .int .u64 0, .int .i64 0, .string ⟨#[]⟩]).cell? ⟨w.heap.size, 3, none⟩ = some (.int .u64 0) := hrz.cell 3 rfl
    have r4 : (w1.setRow w.heap.size #[.int .u8 0, .int .u64 0, .int .u64 0, .int .u64 0, .int .u64 0, .string ⟨#[]⟩, .int .i64 0, .int .i64 0, .bool false, .slice none 0 0, .int .u64 0, .string ⟨#[]⟩, .int .u64 0, .int .i64 0, .string ⟨#[]⟩]).cell? ⟨w.heap.size, 4, none⟩ = some (.int .u64 0) := hrz.cell 4 rfl
    have r5 : (w1.setRow w.heap.size #[.int .u8 0, .int .u64 0, .int .u64 0, .int .u64 0, .int .u64 0, .string ⟨#[]⟩, .int .i64 0, .int .i64 0, .bool false, .slice none 0 0, .int .u64 0, .string ⟨#[]⟩, .int .u64 0, .int .i64 0, .string ⟨#[]⟩]).cell? ⟨w.heap.size, 5, none⟩ = some (.string ⟨#[]⟩) := hrz.cell 5 rfl
    have r6 : (w1.setRow w.heap.size #[.int .u8 0, .int .u64 0, .int .u64 0, .int .u64 0, .int .u64 0, .string ⟨#[]⟩, .int .i64 0, .int .i64 0, .bool false, .slice none 0 0, .int .u64 0, .string ⟨#[]⟩, .int .u64 0, .int .i64 0, .string ⟨#[]⟩]).cell? ⟨w.heap.size, 6, none⟩ = some (.int .i64 0) := hrz.cell 6 rfl
    have r7 : (w1.setRow w.heap.size #[.int .u8 0, .int .u64 0, .int .u64 0, .int .u64 0, .int .u64 0, .string ⟨#[]⟩, .int .i64 0, .int .i64 0, .bool false, .slice none 0 0, .int .u64 0, .string ⟨#[]⟩, .int .u64 0, .int .i64 0, .string ⟨#[]⟩]).cell? ⟨w.heap.size, 7, none⟩ = some (.int .i64 0) := hrz.cell 7 rfl
    have r8 : (w1.setRow w.heap.size #[.int .u8 0, .int .u64 0, .int .u64 0, .int .u64 0, .int .u64 0, .string ⟨#[]⟩, .int .i64 0, .int .i64 0, .bool false, .slice none 0 0, .int .u64 0, .string ⟨#[]⟩, .int .u64 0, .int .i64 0, .string ⟨#[]⟩]).cell? ⟨w.heap.size, 8, none⟩ = some (.bool false) := hrz.cell 8 rfl
    have r9 : (w1.setRow w.heap.size #[.int .u8 0, .int .u64 0, .int .u64 0, .int .u64 0, .int .u64 0, .string ⟨#[]⟩, .int .i64 0, .int .i64 0, .bool false, .slice none 0 0, .int .u64 0, .string ⟨#[]⟩, .int .u64 0, .int .i64 0, .string ⟨#[]⟩]).cell? ⟨w.heap.size, 9, none⟩ = some (.slice none 0 0) := hrz.cell 9 rfl
    have r10 : (w1.setRow w.heap.size #[.int .u8 0, .int .u64 0, .int .u64 0, .int .u64 0, .int .u64 0, .string ⟨#[]⟩, .int .i64 0, .int .i64 0, .bool false, .slice none 0 0, .int .u64 0, .string ⟨#[]⟩, .int .u64 0, .int .i64 0, .string ⟨#[]⟩]).cell? ⟨w.heap.size, 10, none⟩ = some (.int .u64 0) := hrz.cell 10 rfl
    have r11 : (w1.setRow w.heap.size #[.int .u8 0, .int .u64 0, .int .u64 0, .int .u64 0, .int .u64 0, .string ⟨#[]⟩, .int .i64 0, .int .i64 0, .bool false, .slice none 0 0, .int .u64 0, .string ⟨#[]⟩, .int .u64 0, .int .i64 0, .string ⟨#[]⟩]).cell? ⟨w.heap.size, 11, none⟩ = some (.string ⟨#[]⟩) := hrz.cell 11 rfl
    have r12 : (w1.setRow w.heap.size #[.int .u8 0, .int .u64 0, .int .u64 0, .int .u64 0, .int .u64 0, .string ⟨#[]⟩, .int .i64 0, .int .i64 0, .bool false, .slice none 0 0, .int .u64 0, .string ⟨#[]⟩, .int .u64 0, .int .i64 0, .string ⟨#[]⟩]).cell? ⟨w.heap.size, 12, none⟩ = some (.int .u64 0) := hrz.cell 12 rfl
    have r13 : (w1.setRow w.heap.size #[.int .u8 0, .int .u64 0, .int .u64 0, .int .u64 0, .int .u64 0, .string ⟨#[]⟩, .int .i64 0, .int .i64 0, .bool false, .slice none 0 0, .int .u64 0, .string ⟨#[]⟩, .int .u64 0, .int .i64 0, .string ⟨#[]⟩]).cell? ⟨w.heap.size, 13, none⟩ = some (.int .i64 0) := hrz.cell 13 rfl
    have r14 : (w1.setRow w.heap.size #[.int .u8 0, .int .u64 0, .int .u64 0, .int .u64 0, .int .u64 0, .string ⟨#[]⟩, .int .i64 0, .int .i64 0, .bool false, .slice none 0 0, .int .u64 0, .string ⟨#[]⟩, .int .u64 0, .int .i64 0, .string ⟨#[]⟩]).cell? ⟨w.heap.size, 14, none⟩ = some (.string ⟨#[]⟩) := hrz.cell 14 rfl
    exact bodyPost_ret (v := .tuple #[.agg itZ, .int .i64 40]) (by simp [results, Try.results32, go_sem, r0, r1, r2, r3, r4, r5, r6, r7, r8, r9, r10, r11, r12, r13, r14, itZ]) rfl ⟨below_setRow HB1.out (Nat.le_refl _) _, .inl ⟨HN.out, rfl⟩⟩
  · have HFL := Lib.hid hF
    have HN2 := Lib.hid hn2
    have HHF := Lib.hid (holdsF_of_own hO hn2)
    have HOK := Lib.hid (runF_ok _ _ _ hF)
    have x1 : w1.cell? ⟨b, off, none⟩ = some (.int .u8 (k : Int)) := (HB1.out.cell (p := ⟨b, off, none⟩) hbl).trans x0
    have hw1 := HB1.out.size
    have hgx : w.heap.size < w1.heap.size := HR1.out.lt
    clear hF hn2 hO hb1 HG HBX HR0
    go_wp2_with fail
    go_loopw [7] (fun iv wr => ∃ (i m : Nat) (S : Sp) (G : Lg) (A3 : Option Addr) (c3 : Nat), iv = .int .i64 (i : Int) ∧ i ≤ n2 ∧ m ≤ i ∧ Hid (stateOf k (l.take i) = (S, G)) ∧ Hid (Blk wr w1.heap.size (itC k S A3 m c3 G) 38) ∧ Hid (S.attrs.length = m) ∧ Hid (wr.ownsRow w1.heap.size 36 2 (.slice A3 m c3) m (aCells S.attrs)) ∧ Hid (okS S) ∧ Hid (okG G) ∧ Hid (Below w1.heap.size w1 wr)) (fun iv _ => n2 - (intOf iv).toNat)
    case atStart => exact ⟨0, 0, noSp, noLg, none, 0, rfl, by omega, by omega, Lib.hid (state_zero k l), Lib.hid (blk_new w1 _ _), Lib.hid rfl, Lib.hid (World.ownsRow_nil _ _ _ _), Lib.hid ⟨by decide, by decide, by decide, by decide, by decide, by simp [noSp]⟩, Lib.hid ⟨by decide, by decide⟩, Lib.hid (box_below _)⟩
    case round =>
      obtain ⟨i, m, S, G, A3, c3, rfl, hi, hmi, HST, HKX, HM, HO, HS, HGG, HB⟩ := hrel
      obtain ⟨hi0, lo, id, par, name, start, stop, bad, al, rv⟩ := S
      obtain ⟨key, weight, at_, body⟩ := G
      unfold itC at HKX
      dsimp only at HKX HM HO
      by_cases hlt : i < n2
      · have dl : decide ((i : Int) < (n2 : Int)) = true := by simp; omega
        have dl' : decide (i < n2) = true := by simp; omega
        obtain ⟨f, hf⟩ : ∃ f, l[i]? = some f := ⟨_, List.getElem?_eq_getElem (by rw [HN2.out]; exact hlt)⟩
        obtain ⟨hf1, hf2⟩ := HOK.out f (List.mem_of_getElem? hf)
        obtain ⟨b2, off2, hA2, hb2l, hc2⟩ := HHF.out (by rw [HN2.out]; omega)
        obtain ⟨q0, q1, q2, q3⟩ := hc2 i f hf
        have y0 := (HB.out.cell (p := ⟨b2, off2 + i * 4, none⟩) hb2l).trans q0
        have y1 := (HB.out.cell (p := ⟨b2, off2 + i * 4 + 1, none⟩) hb2l).trans q1
        have y2 := (HB.out.cell (p := ⟨b2, off2 + i * 4 + 2, none⟩) hb2l).trans q2
        have y3 := (HB.out.cell (p := ⟨b2, off2 + i * 4 + 3, none⟩) hb2l).trans q3
        obtain ⟨no, tx, fn, fs⟩ := f
        dsimp only at hf1 hf2 y0 y1 y2 y3
        subst hA2
        have hgl := HKX.out.lt
        have hb2s : b2 < wr.heap.size := by omega
        have HFI := Lib.hid hf
        clear hc2 q0 q1 q2 q3 hf
        have hsz := HB.out.size
        by_cases hk1 : k = 1
        · have dk : ((k : Int) == 1) = true := by rw [hk1]; rfl
          have HOA := Lib.hid (HO.out.alloc (.cells #[.int .u64 (no : Int), .int .i64 (tx : Int), .int .u64 (fn : Int), .string fs] 89))
          have HKA := Lib.hid (HKX.out.same (Below.heap_alloc wr (.cells #[.int .u64 (no : Int), .int .i64 (tx : Int), .int .u64 (fn : Int), .string fs] 89) _ hgl))
          have HBA := Lib.hid (HB.out.alloc hsz (.cells #[.int .u64 (no : Int), .int .i64 (tx : Int), .int .u64 (fn : Int), .string fs] 89))
          have HST2 := Lib.hid (state_next1' hk1 HST.out HFI.out)
          have HS2 := Lib.hid (okS_put (f := ⟨no, tx, fn, fs⟩) HS.out ⟨hf1, hf2⟩)
          have hL := refLay_any hi0 lo id par rv name start stop bad A3 al m c3 w1.heap.size no tx fn fs (wr.alloc (.cells #[.int .u64 (no : Int), .int .i64 (tx : Int), .int .u64 (fn : Int), .string fs] 89)) hf1 hf2 HM.out (by omega) (by rw [World.size_alloc]; omega) HOA.out
          have HL := Lib.hid hL
          have z0 : wr.cell? ⟨w1.heap.size, 0, none⟩ = some (.int .u8 (k : Int)) := HKX.out.cell 0 rfl
          have z1 : wr.cell? ⟨w1.heap.size, 1, none⟩ = some (.int .u64 (hi0 : Int)) := HKX.out.cell 1 rfl
          have z2 : wr.cell? ⟨w1.heap.size, 2, none⟩ = some (.int .u64 (lo : Int)) := HKX.out.cell 2 rfl
          have z3 : wr.cell? ⟨w1.heap.size, 3, none⟩ = some (.int .u64 (id : Int)) := HKX.out.cell 3 rfl
          have z4 : wr.cell? ⟨w1.heap.size, 4, none⟩ = some (.int .u64 (par : Int)) := HKX.out.cell 4 rfl
          have z5 : wr.cell? ⟨w1.heap.size, 5, none⟩ = some (.string name) := HKX.out.cell 5 rfl
          have z6 : wr.cell? ⟨w1.heap.size, 6, none⟩ = some (.int .i64 start) := HKX.out.cell 6 rfl
          have z7 : wr.cell? ⟨w1.heap.size, 7, none⟩ = some (.int .i64 stop) := HKX.out.cell 7 rfl
          have z8 : wr.cell? ⟨w1.heap.size, 8, none⟩ = some (.bool bad) := HKX.out.cell 8 rfl
          have z9 : wr.cell? ⟨w1.heap.size, 9, none⟩ = some (.slice A3 m c3) := HKX.out.cell 9 rfl
          have z10 : wr.cell? ⟨w1.heap.size, 10, none⟩ = some (.int .u64 (rv : Int)) := HKX.out.cell 10 rfl
          have z11 : wr.cell? ⟨w1.heap.size, 11, none⟩ = some (.string key) := HKX.out.cell 11 rfl
          have z12 : wr.cell? ⟨w1.heap.size, 12, none⟩ = some (.int .u64 (weight : Int)) := HKX.out.cell 12 rfl
          have z13 : wr.cell? ⟨w1.heap.size, 13, none⟩ = some (.int .i64 at_) := HKX.out.cell 13 rfl
          have z14 : wr.cell? ⟨w1.heap.size, 14, none⟩ = some (.string body) := HKX.out.cell 14 rfl
          clear hL HST HS hk1
          go_wp2_with fail
          refine HL.out.mono ?_
          rintro e w3 ⟨A4, n4, c4, rfl, hl4, hn4, ho4, hk4⟩
          obtain ⟨S', hS'⟩ : ∃ S', putSp ⟨hi0, lo, id, par, name, start, stop, bad, al, rv⟩ ⟨no, tx, fn, fs⟩ = S' := ⟨_, rfl⟩
          rw [hS'] at hl4 ho4
          have HST3 := HST2.out
          have HS3 := HS2.out
          rw [hS'] at HST3 HS3 ⊢
          have HST4 := Lib.hid HST3
          have HS4 := Lib.hid HS3
          have HK3 := Lib.hid (hk4.blk HKA.out (own_apartN HOA.out HKA.out (by decide)))
          have HB3 := Lib.hid (HBA.out.trans (hk4.low (by rw [World.size_alloc]; omega) (fun b hb h => absurd (own_base HOA.out b h) (by omega))))
          have HO4 := Lib.hid ho4
          have HL4 := Lib.hid hl4
          clear HST2 HS2 HST3 HS3 ho4 hl4 hk4 z0 z1 z2 z3 z4 z5 z6 z7 z8 z9 z10 z11 z12 z13 z14 hS'
          have HKN : Hid (Blk (w3.setCells w1.heap.size 1 (spC S' A4 n4 c4).toList) w1.heap.size (itC k S' A4 n4 c4 ⟨key, weight, at_, body⟩) 38) := Lib.hid (by
            have h := blk_setCells (spC S' A4 n4 c4).toList 1 w3 _ HK3.out
            rw [set_span] at h
            exact h)
          have HON := Lib.hid (own_setCells HO4.out HK3.out (by decide) 1 (spC S' A4 n4 c4).toList)
          have HBN := Lib.hid (below_setCells (Nat.le_refl _) (spC S' A4 n4 c4).toList 1 _ HB3.out)
          have HK3c := HK3.out
          have z1 : w3.cell? ⟨w1.heap.size, 1, none⟩ = some (.int .u64 (hi0 : Int)) := HK3c.cell 1 rfl
          have f1 := HK3c.free 1
          have z2 : w3.cell? ⟨w1.heap.size, 2, none⟩ = some (.int .u64 (lo : Int)) := HK3c.cell 2 rfl
          have f2 := HK3c.free 2
          have z3 : w3.cell? ⟨w1.heap.size, 3, none⟩ = some (.int .u64 (id : Int)) := HK3c.cell 3 rfl
          have f3 := HK3c.free 3
          have z4 : w3.cell? ⟨w1.heap.size, 4, none⟩ = some (.int .u64 (par : Int)) := HK3c.cell 4 rfl
          have f4 := HK3c.free 4
          have z5 : w3.cell? ⟨w1.heap.size, 5, none⟩ = some (.string name) := HK3c.cell 5 rfl
          have f5 := HK3c.free 5
          have z6 : w3.cell? ⟨w1.heap.size, 6, none⟩ = some (.int .i64 start) := HK3c.cell 6 rfl
          have f6 := HK3c.free 6
          have z7 : w3.cell? ⟨w1.heap.size, 7, none⟩ = some (.int .i64 stop) := HK3c.cell 7 rfl
          have f7 := HK3c.free 7
          have z8 : w3.cell? ⟨w1.heap.size, 8, none⟩ = some (.bool bad) := HK3c.cell 8 rfl
          have f8 := HK3c.free 8
          have z9 : w3.cell? ⟨w1.heap.size, 9, none⟩ = some (.slice A3 m c3) := HK3c.cell 9 rfl
          have f9 := HK3c.free 9
          have z10 : w3.cell? ⟨w1.heap.size, 10, none⟩ = some (.int .u64 (rv : Int)) := HK3c.cell 10 rfl
          have f10 := HK3c.free 10
          obtain ⟨h1', h2', h3', h4', h5', h6', h7', h8', h9', h10'⟩ := S'
          clear HK3c HL HB3 HO4 HK3
          unfold spC
          go_wp2_with fail
          go_roundw
          case rel => exact ⟨i + 1, n4, ⟨h1', h2', h3', h4', h5', h6', h7', h8', h9', h10'⟩, ⟨key, weight, at_, body⟩, A4, c4, by go_num, by omega, by omega, HST4, HKN, HL4, HON, HS4, HGG, HBN⟩
          case measure => simp [intOf]; omega
        · have dk : ((k : Int) == 1) = false := by rw [beq_eq_false_iff_ne]; omega
          have HST2 := Lib.hid (state_next2 hk1 HST.out HFI.out)
          have HG2 := Lib.hid (okG_put (f := ⟨no, tx, fn, fs⟩) HGG.out ⟨hf1, hf2⟩)
          have HOA := Lib.hid (HO.out.alloc (.cells #[.int .u64 (no : Int), .int .i64 (tx : Int), .int .u64 (fn : Int), .string fs] 89))
          have HKA := Lib.hid (HKX.out.same (Below.heap_alloc wr (.cells #[.int .u64 (no : Int), .int .i64 (tx : Int), .int .u64 (fn : Int), .string fs] 89) _ hgl))
          have HBA := Lib.hid (HB.out.alloc hsz (.cells #[.int .u64 (no : Int), .int .i64 (tx : Int), .int .u64 (fn : Int), .string fs] 89))
          have z0 : wr.cell? ⟨w1.heap.size, 0, none⟩ = some (.int .u8 (k : Int)) := HKX.out.cell 0 rfl
          have z1 : wr.cell? ⟨w1.heap.size, 1, none⟩ = some (.int .u64 (hi0 : Int)) := HKX.out.cell 1 rfl
          have z2 : wr.cell? ⟨w1.heap.size, 2, none⟩ = some (.int .u64 (lo : Int)) := HKX.out.cell 2 rfl
          have z3 : wr.cell? ⟨w1.heap.size, 3, none⟩ = some (.int .u64 (id : Int)) := HKX.out.cell 3 rfl
          have z4 : wr.cell? ⟨w1.heap.size, 4, none⟩ = some (.int .u64 (par : Int)) := HKX.out.cell 4 rfl
          have z5 : wr.cell? ⟨w1.heap.size, 5, none⟩ = some (.string name) := HKX.out.cell 5 rfl
          have z6 : wr.cell? ⟨w1.heap.size, 6, none⟩ = some (.int .i64 start) := HKX.out.cell 6 rfl
          have z7 : wr.cell? ⟨w1.heap.size, 7, none⟩ = some (.int .i64 stop) := HKX.out.cell 7 rfl
          have z8 : wr.cell? ⟨w1.heap.size, 8, none⟩ = some (.bool bad) := HKX.out.cell 8 rfl
          have z9 : wr.cell? ⟨w1.heap.size, 9, none⟩ = some (.slice A3 m c3) := HKX.out.cell 9 rfl
          have z10 : wr.cell? ⟨w1.heap.size, 10, none⟩ = some (.int .u64 (rv : Int)) := HKX.out.cell 10 rfl
          have z11 : wr.cell? ⟨w1.heap.size, 11, none⟩ = some (.string key) := HKX.out.cell 11 rfl
          have z12 : wr.cell? ⟨w1.heap.size, 12, none⟩ = some (.int .u64 (weight : Int)) := HKX.out.cell 12 rfl
          have z13 : wr.cell? ⟨w1.heap.size, 13, none⟩ = some (.int .i64 at_) := HKX.out.cell 13 rfl
          have z14 : wr.cell? ⟨w1.heap.size, 14, none⟩ = some (.string body) := HKX.out.cell 14 rfl
          have y11 := HKA.out.free 11
          have y12 := HKA.out.free 12
          have y13 := HKA.out.free 13
          have y14 := HKA.out.free 14
          clear HST HGG
          by_cases h1 : no = 1
          · have e1 : ((no : Int) == 1) = true := by rw [h1]; rfl
            have e : putLg ⟨key, weight, at_, body⟩ ⟨no, tx, fn, fs⟩ = ⟨fs, weight, at_, body⟩ := by
              unfold putLg
              dsimp only
              rw [if_pos h1]
            have HST3 := HST2.out
            have HG3 := HG2.out
            rw [e] at HST3 HG3
            have HST4 := Lib.hid HST3
            have HG4 := Lib.hid HG3
            have HS5 := Lib.hid (HKX.out.set 11 (.string fs))
            have HK5 := Lib.hid (HS5.out.same (Below.heap_alloc (wr.setCell ⟨w1.heap.size, 11, none⟩ (.string fs)) (.cells #[.int .u64 (no : Int), .int .i64 (tx : Int), .int .u64 (fn : Int), .string fs] 89) _ (by rw [World.size_setCell]; exact hgl)))
            have HO5 : Hid (((wr.setCell ⟨w1.heap.size, 11, none⟩ (.string fs)).alloc (.cells #[.int .u64 (no : Int), .int .i64 (tx : Int), .int .u64 (fn : Int), .string fs] 89)).ownsRow w1.heap.size 36 2 (.slice A3 m c3) m (aCells al)) := Lib.hid ((ownsRow_setCell_other HO.out (own_apartN HO.out HKX.out (by decide)) _).alloc _)
            have HB5 := Lib.hid ((HB.out.setCell (p := ⟨w1.heap.size, 11, none⟩) (Nat.le_refl _) (.string fs)).alloc (by rw [World.size_setCell]; exact hsz) (.cells #[.int .u64 (no : Int), .int .i64 (tx : Int), .int .u64 (fn : Int), .string fs] 89))
            clear HST2 HG2 HST3 HG3 e h1 hk1
            go_wp2_with fail
            go_roundw
            case rel => exact ⟨i + 1, m, ⟨hi0, lo, id, par, name, start, stop, bad, al, rv⟩, ⟨fs, weight, at_, body⟩, A3, c3, by go_num, by omega, by omega, HST4, HK5, HM, HO5, HS, HG4, HB5⟩
            case measure => simp [intOf]; omega
          by_cases h2 : no = 2
          · have e2 : ((no : Int) == 2) = true := by rw [h2]; rfl
            have e1 : ((no : Int) == 1) = false := by rw [beq_eq_false_iff_ne]; omega
            have e : putLg ⟨key, weight, at_, body⟩ ⟨no, tx, fn, fs⟩ = ⟨key, fn, at_, body⟩ := by
              unfold putLg
              dsimp only
              rw [if_neg h1, if_pos h2]
            have HST3 := HST2.out
            have HG3 := HG2.out
            rw [e] at HST3 HG3
            have HST4 := Lib.hid HST3
            have HG4 := Lib.hid HG3
            have HS5 := Lib.hid (HKX.out.set 12 (.int .u64 (fn : Int)))
            have HK5 := Lib.hid (HS5.out.same (Below.heap_alloc (wr.setCell ⟨w1.heap.size, 12, none⟩ (.int .u64 (fn : Int))) (.cells #[.int .u64 (no : Int), .int .i64 (tx : Int), .int .u64 (fn : Int), .string fs] 89) _ (by rw [World.size_setCell]; exact hgl)))
            have HO5 : Hid (((wr.setCell ⟨w1.heap.size, 12, none⟩ (.int .u64 (fn : Int))).alloc (.cells #[.int .u64 (no : Int), .int .i64 (tx : Int), .int .u64 (fn : Int), .string fs] 89)).ownsRow w1.heap.size 36 2 (.slice A3 m c3) m (aCells al)) := Lib.hid ((ownsRow_setCell_other HO.out (own_apartN HO.out HKX.out (by decide)) _).alloc _)
            have HB5 := Lib.hid ((HB.out.setCell (p := ⟨w1.heap.size, 12, none⟩) (Nat.le_refl _) (.int .u64 (fn : Int))).alloc (by rw [World.size_setCell]; exact hsz) (.cells #[.int .u64 (no : Int), .int .i64 (tx : Int), .int .u64 (fn : Int), .string fs] 89))
            clear HST2 HG2 HST3 HG3 e h1 h2 hk1
            go_wp2_with fail
            go_roundw
            case rel => exact ⟨i + 1, m, ⟨hi0, lo, id, par, name, start, stop, bad, al, rv⟩, ⟨key, fn, at_, body⟩, A3, c3, by go_num, by omega, by omega, HST4, HK5, HM, HO5, HS, HG4, HB5⟩
            case measure => simp [intOf]; omega
          by_cases h3 : no = 3
          · have e3 : ((no : Int) == 3) = true := by rw [h3]; rfl
            have e1 : ((no : Int) == 1) = false := by rw [beq_eq_false_iff_ne]; omega
            have e2 : ((no : Int) == 2) = false := by rw [beq_eq_false_iff_ne]; omega
            obtain ⟨t, ht⟩ : ∃ t, i64 fn = t := ⟨_, rfl⟩
            have hw : IntKind.i64.wrap (fn : Int) = t := by rw [i64_wrap hf1, ht]
            have e : putLg ⟨key, weight, at_, body⟩ ⟨no, tx, fn, fs⟩ = ⟨key, weight, t, body⟩ := by
              unfold putLg
              dsimp only
              rw [if_neg h1, if_neg h2, if_pos h3, ht]
            have HST3 := HST2.out
            have HG3 := HG2.out
            rw [e] at HST3 HG3
            have HST4 := Lib.hid HST3
            have HG4 := Lib.hid HG3
            have HS5 := Lib.hid (HKX.out.set 13 (.int .i64 t))
            have HK5 := Lib.hid (HS5.out.same (Below.heap_alloc (wr.setCell ⟨w1.heap.size, 13, none⟩ (.int .i64 t)) (.cells #[.int .u64 (no : Int), .int .i64 (tx : Int), .int .u64 (fn : Int), .string fs] 89) _ (by rw [World.size_setCell]; exact hgl)))
            have HO5 : Hid (((wr.setCell ⟨w1.heap.size, 13, none⟩ (.int .i64 t)).alloc (.cells #[.int .u64 (no : Int), .int .i64 (tx : Int), .int .u64 (fn : Int), .string fs] 89)).ownsRow w1.heap.size 36 2 (.slice A3 m c3) m (aCells al)) := Lib.hid ((ownsRow_setCell_other HO.out (own_apartN HO.out HKX.out (by decide)) _).alloc _)
            have HB5 := Lib.hid ((HB.out.setCell (p := ⟨w1.heap.size, 13, none⟩) (Nat.le_refl _) (.int .i64 t)).alloc (by rw [World.size_setCell]; exact hsz) (.cells #[.int .u64 (no : Int), .int .i64 (tx : Int), .int .u64 (fn : Int), .string fs] 89))
            clear HST2 HG2 HST3 HG3 e h1 h2 h3 hk1 ht
            go_wp2_with fail
            go_roundw
            case rel => exact ⟨i + 1, m, ⟨hi0, lo, id, par, name, start, stop, bad, al, rv⟩, ⟨key, weight, t, body⟩, A3, c3, by go_num, by omega, by omega, HST4, HK5, HM, HO5, HS, HG4, HB5⟩
            case measure => simp [intOf]; omega
          by_cases h4 : no = 4
          · have e4 : ((no : Int) == 4) = true := by rw [h4]; rfl
            have e1 : ((no : Int) == 1) = false := by rw [beq_eq_false_iff_ne]; omega
            have e2 : ((no : Int) == 2) = false := by rw [beq_eq_false_iff_ne]; omega
            have e3 : ((no : Int) == 3) = false := by rw [beq_eq_false_iff_ne]; omega
            have e : putLg ⟨key, weight, at_, body⟩ ⟨no, tx, fn, fs⟩ = ⟨key, weight, at_, fs⟩ := by
              unfold putLg
              dsimp only
              rw [if_neg h1, if_neg h2, if_neg h3, if_pos h4]
            have HST3 := HST2.out
            have HG3 := HG2.out
            rw [e] at HST3 HG3
            have HST4 := Lib.hid HST3
            have HG4 := Lib.hid HG3
            have HS5 := Lib.hid (HKX.out.set 14 (.string fs))
            have HK5 := Lib.hid (HS5.out.same (Below.heap_alloc (wr.setCell ⟨w1.heap.size, 14, none⟩ (.string fs)) (.cells #[.int .u64 (no : Int), .int .i64 (tx : Int), .int .u64 (fn : Int), .string fs] 89) _ (by rw [World.size_setCell]; exact hgl)))
            have HO5 : Hid (((wr.setCell ⟨w1.heap.size, 14, none⟩ (.string fs)).alloc (.cells #[.int .u64 (no : Int), .int .i64 (tx : Int), .int .u64 (fn : Int), .string fs] 89)).ownsRow w1.heap.size 36 2 (.slice A3 m c3) m (aCells al)) := Lib.hid ((ownsRow_setCell_other HO.out (own_apartN HO.out HKX.out (by decide)) _).alloc _)
            have HB5 := Lib.hid ((HB.out.setCell (p := ⟨w1.heap.size, 14, none⟩) (Nat.le_refl _) (.string fs)).alloc (by rw [World.size_setCell]; exact hsz) (.cells #[.int .u64 (no : Int), .int .i64 (tx : Int), .int .u64 (fn : Int), .string fs] 89))
            clear HST2 HG2 HST3 HG3 e h1 h2 h3 h4 hk1
            go_wp2_with fail
            go_roundw
            case rel => exact ⟨i + 1, m, ⟨hi0, lo, id, par, name, start, stop, bad, al, rv⟩, ⟨key, weight, at_, fs⟩, A3, c3, by go_num, by omega, by omega, HST4, HK5, HM, HO5, HS, HG4, HB5⟩
            case measure => simp [intOf]; omega
          have e1 : ((no : Int) == 1) = false := by rw [beq_eq_false_iff_ne]; omega
          have e2 : ((no : Int) == 2) = false := by rw [beq_eq_false_iff_ne]; omega
          have e3 : ((no : Int) == 3) = false := by rw [beq_eq_false_iff_ne]; omega
          have e4 : ((no : Int) == 4) = false := by rw [beq_eq_false_iff_ne]; omega
          have e : putLg ⟨key, weight, at_, body⟩ ⟨no, tx, fn, fs⟩ = ⟨key, weight, at_, body⟩ := by
            unfold putLg
            dsimp only
            rw [if_neg h1, if_neg h2, if_neg h3, if_neg h4]
          have HST3 := HST2.out
          have HG3 := HG2.out
          rw [e] at HST3 HG3
          have HST4 := Lib.hid HST3
          have HG4 := Lib.hid HG3
          clear HST2 HG2 HST3 HG3 e h1 h2 h3 h4 hk1
          go_wp2_with fail
          go_roundw
          case rel => exact ⟨i + 1, m, ⟨hi0, lo, id, par, name, start, stop, bad, al, rv⟩, ⟨key, weight, at_, body⟩, A3, c3, by go_num, by omega, by omega, HST4, HKA, HM, HOA, HS, HG4, HBA⟩
          case measure => simp [intOf]; omega
      · have dl : decide ((i : Int) < (n2 : Int)) = false := by simp; omega
        have dl' : decide (i < n2) = false := by simp; omega
        obtain rfl : i = n2 := by omega
        have hst := HST.out
        rw [List.take_of_length_le (by rw [HN2.out]; omega)] at hst
        have HST2 := Lib.hid hst
        obtain ⟨s1, s2, s3, s4, s5, s6⟩ := HS.out
        obtain ⟨g1, g2⟩ := HGG.out
        dsimp only at s1 s2 s3 s4 s5 s6 g1 g2
        have hHA := holdsA_own4 HO.out HM.out.symm s6
        have HHA := Lib.hid hHA
        have hgl := HKX.out.lt
        have HBW := Lib.hid (HB1.out.trans (HB.out.mono hw1))
        have HRW := Lib.hid (HR1.out.same (HB.out.block _ (by omega)))
        obtain ⟨o, ho⟩ : ∃ o, encItem k ⟨hi0, lo, id, par, name, start, stop, bad, al, rv⟩ ⟨key, weight, at_, body⟩ = o := ⟨_, rfl⟩
        obtain ⟨zz, hzz⟩ : ∃ z, o.getD [] = z := ⟨_, rfl⟩
        obtain ⟨zm, hzm⟩ : ∃ m, zz.length = m := ⟨_, rfl⟩
        obtain ⟨E, hE⟩ : ∃ E, errItem o = E := ⟨_, rfl⟩
        have hEn := refEncode_all k hi0 lo id par rv name start stop bad A3 al m c3 key body weight at_ wr hk8 s1 s2 s3 s4 HM.out (by omega) (by omega) (by omega) (by omega) hHA o ho zz zm hzz hzm E hE
        have HEN := Lib.hid hEn
        have HEO := Lib.hid ho
        have z0 : wr.cell? ⟨w1.heap.size, 0, none⟩ = some (.int .u8 (k : Int)) := HKX.out.cell 0 rfl
        have z1 : wr.cell? ⟨w1.heap.size, 1, none⟩ = some (.int .u64 (hi0 : Int)) := HKX.out.cell 1 rfl
        have z2 : wr.cell? ⟨w1.heap.size, 2, none⟩ = some (.int .u64 (lo : Int)) := HKX.out.cell 2 rfl
        have z3 : wr.cell? ⟨w1.heap.size, 3, none⟩ = some (.int .u64 (id : Int)) := HKX.out.cell 3 rfl
        have z4 : wr.cell? ⟨w1.heap.size, 4, none⟩ = some (.int .u64 (par : Int)) := HKX.out.cell 4 rfl
        have z5 : wr.cell? ⟨w1.heap.size, 5, none⟩ = some (.string name) := HKX.out.cell 5 rfl
        have z6 : wr.cell? ⟨w1.heap.size, 6, none⟩ = some (.int .i64 start) := HKX.out.cell 6 rfl
        have z7 : wr.cell? ⟨w1.heap.size, 7, none⟩ = some (.int .i64 stop) := HKX.out.cell 7 rfl
        have z8 : wr.cell? ⟨w1.heap.size, 8, none⟩ = some (.bool bad) := HKX.out.cell 8 rfl
        have z9 : wr.cell? ⟨w1.heap.size, 9, none⟩ = some (.slice A3 m c3) := HKX.out.cell 9 rfl
        have z10 : wr.cell? ⟨w1.heap.size, 10, none⟩ = some (.int .u64 (rv : Int)) := HKX.out.cell 10 rfl
        have z11 : wr.cell? ⟨w1.heap.size, 11, none⟩ = some (.string key) := HKX.out.cell 11 rfl
        have z12 : wr.cell? ⟨w1.heap.size, 12, none⟩ = some (.int .u64 (weight : Int)) := HKX.out.cell 12 rfl
        have z13 : wr.cell? ⟨w1.heap.size, 13, none⟩ = some (.int .i64 at_) := HKX.out.cell 13 rfl
        have z14 : wr.cell? ⟨w1.heap.size, 14, none⟩ = some (.string body) := HKX.out.cell 14 rfl
        clear hst hHA hEn ho HST s6
        by_cases hoz : ∃ z, o = some z
        · obtain ⟨zs, rfl⟩ := hoz
          have hE0 : E = 0 := hE.symm
          have hz : zs = zz := hzz
          subst hE0 hz
          clear hE hzz
          go_wp2_with fail
          refine HEN.out.mono ?_
          rintro e w3 ⟨A5, c5, rfl, o5, hb5⟩
          have HB5 := Lib.hid (HBW.out.trans (hb5.mono HBW.out.size))
          have HK5 := Lib.hid (HKX.out.same (hb5.block _ hgl))
          have HR5 := Lib.hid (HRW.out.same (hb5.block _ HRW.out.lt))
          have HO5 := Lib.hid (own_laterN HO.out hb5)
          obtain ⟨_, _, hq5⟩ := own_facts (k := zm) (by rw [← hzm] at o5 ⊢; exact o5)
          have tr1 := text_run A5 zs zm c5 w3 _ hzm hq5
          have tr2 := text_run (some ⟨b, off, none⟩) (c :: r) len cap w3 _ HLEN.out (HR.out.later HB5.out)
          obtain ⟨t1, ht1⟩ : ∃ t : ByteArray, ⟨zs.toArray⟩ = t := ⟨_, rfl⟩
          obtain ⟨t2, ht2⟩ : ∃ t : ByteArray, ⟨(c :: r).toArray⟩ = t := ⟨_, rfl⟩
          rw [ht1] at tr1
          rw [ht2] at tr2
          have z0 : w3.cell? ⟨w1.heap.size, 0, none⟩ = some (.int .u8 (k : Int)) := HK5.out.cell 0 rfl
          have z1 : w3.cell? ⟨w1.heap.size, 1, none⟩ = some (.int .u64 (hi0 : Int)) := HK5.out.cell 1 rfl
          have z2 : w3.cell? ⟨w1.heap.size, 2, none⟩ = some (.int .u64 (lo : Int)) := HK5.out.cell 2 rfl
          have z3 : w3.cell? ⟨w1.heap.size, 3, none⟩ = some (.int .u64 (id : Int)) := HK5.out.cell 3 rfl
          have z4 : w3.cell? ⟨w1.heap.size, 4, none⟩ = some (.int .u64 (par : Int)) := HK5.out.cell 4 rfl
          have z5 : w3.cell? ⟨w1.heap.size, 5, none⟩ = some (.string name) := HK5.out.cell 5 rfl
          have z6 : w3.cell? ⟨w1.heap.size, 6, none⟩ = some (.int .i64 start) := HK5.out.cell 6 rfl
          have z7 : w3.cell? ⟨w1.heap.size, 7, none⟩ = some (.int .i64 stop) := HK5.out.cell 7 rfl
          have z8 : w3.cell? ⟨w1.heap.size, 8, none⟩ = some (.bool bad) := HK5.out.cell 8 rfl
          have z9 : w3.cell? ⟨w1.heap.size, 9, none⟩ = some (.slice A3 m c3) := HK5.out.cell 9 rfl
          have z10 : w3.cell? ⟨w1.heap.size, 10, none⟩ = some (.int .u64 (rv : Int)) := HK5.out.cell 10 rfl
          have z11 : w3.cell? ⟨w1.heap.size, 11, none⟩ = some (.string key) := HK5.out.cell 11 rfl
          have z12 : w3.cell? ⟨w1.heap.size, 12, none⟩ = some (.int .u64 (weight : Int)) := HK5.out.cell 12 rfl
          have z13 : w3.cell? ⟨w1.heap.size, 13, none⟩ = some (.int .i64 at_) := HK5.out.cell 13 rfl
          have z14 : w3.cell? ⟨w1.heap.size, 14, none⟩ = some (.string body) := HK5.out.cell 14 rfl
          clear o5 hb5 hq5
          by_cases hzc : zs = c :: r
          · have htt : t1 = t2 := by rw [← ht1, ← ht2, hzc]
            have HDS := Lib.hid (dec_some HFL.out HK.out HST2.out (by rw [HEO.out, hzc]))
            subst htt
            clear ht1 ht2
            go_wp2_with (refine wpList_store_row rfl 38 (.tmp 2) (.tmp 95) rfl w.heap.size #[.int .u8 (k : Int), .int .u64 (hi0 : Int), .int .u64 (lo : Int), .int .u64 (id : Int), .int .u64 (par : Int), .string name, .int .i64 start, .int .i64 stop, .bool bad, .slice A3 m c3, .int .u64 (rv : Int), .string key, .int .u64 (weight : Int), .int .i64 at_, .string body] rfl rfl 38 #[.int .u8 0, .int .u64 0, .int .u64 0, .int .u64 0, .int .u64 0, .string ⟨#[]⟩, .int .i64 0, .int .i64 0, .bool false, .slice none 0 0, .int .u64 0, .string ⟨#[]⟩, .int .u64 0, .int .i64 0, .string ⟨#[]⟩] HR5.out (by kernel_rfl) rfl (by simp [Value.oneCell']) ?_)
            have hrz : Blk (w3.setRow w.heap.size #[.int .u8 (k : Int), .int .u64 (hi0 : Int), .int .u64 (lo : Int), .int .u64 (id : Int), .int .u64 (par : Int), .string name, .int .i64 start, .int .i64 stop, .bool bad, .slice A3 m c3, .int .u64 (rv : Int), .string key, .int .u64 (weight : Int), .int .i64 at_, .string body]) w.heap.size #[.int .u8 (k : Int), .int .u64 (hi0 : Int), .int .u64 (lo : Int), .int .u64 (id : Int), .int .u64 (par : Int), .string name, .int .i64 start, .int .i64 stop, .bool bad, .slice A3 m c3, .int .u64 (rv : Int), .string key, .int .u64 (weight : Int), .int .i64 at_, .string body] 38 := setRow_heap w3 _ _ _ _ _ HR5.out
            have r0 : (w3.setRow w.heap.size #[.int .u8 (k : Int), .int .u64 (hi0 : Int), .int .u64 (lo : Int), .int .u64 (id : Int), .int .u64 (par : Int), .string name, .int .i64 start, .int .i64 stop, .bool bad, .slice A3 m c3, .int .u64 (rv : Int), .string key, .int .u64 (weight : Int), .int .i64 at_, .string body]).cell? ⟨w.heap.size, 0, none⟩ = some (.int .u8 (k : Int)) := hrz.cell 0 rfl
            have r1 : (w3.setRow w.heap.size #[.int .u8 (k : Int), .int .u64 (hi0 : Int), .int .u64 (lo : Int), .int .u64 (id : Int), .int .u64 (par : Int), .string name, .int .i64 start, .int .i64 stop, .bool bad, .slice A3 m c3, .int .u64 (rv : Int), .string key, .int .u64 (weight : Int), .int .i64 at_, .string body]).cell? ⟨w.heap.size, 1, none⟩ = some (.int .u64 (hi0 : Int)) := hrz.cell 1 rfl
            have r2 : (w3.setRow w.heap.size #[.int .u8 (k : Int), .int .u64 (hi0 : Int), .int .u64 (lo : Int), .int .u64 (id : Int), .int .u64 (par : Int), .string name, .int .i64 start, .int .i64 stop, .bool bad, .slice A3 m c3, .int .u64 (rv : Int), .string key, .int .u64 (weight : Int), .int .i64 at_, .string body]).cell? ⟨w.heap.size, 2, none⟩ = some (.int .u64 (lo : Int)) := hrz.cell 2 rfl
            have r3 : (w3.setRow w.heap.size #[.int .u8 (k : Int), .int .u64 (hi0 : Int), .int .u64 (lo : Int), .int .u64 (id : Int), .int .u64 (par : Int), .string name, .int .i64 start, .int .i64 stop, .bool bad, .slice A3 m c3, .int .u64 (rv : Int), .string key, .int .u64 (weight : Int), .int .i64 at_, .string body]).cell? ⟨w.heap.size, 3, none⟩ = some (.int .u64 (id : Int)) := hrz.cell 3 rfl
            have r4 : (w3.setRow w.heap.size #[.int .u8 (k : Int), .int .u64 (hi0 : Int), .int .u64 (lo : Int), .int .u64 (id : Int), .int .u64 (par : Int), .string name, .int .i64 start, .int .i64 stop, .bool bad, .slice A3 m c3, .int .u64 (rv : Int), .string key, .int .u64 (weight : Int), .int .i64 at_, .string body]).cell? ⟨w.heap.size, 4, none⟩ = some (.int .u64 (par : Int)) := hrz.cell 4 rfl
            have r5 : (w3.setRow w.heap.size #[.int .u8 (k : Int), .int .u64 (hi0 : Int), .int .u64 (lo : Int), .int .u64 (id : Int), .int .u64 (par : Int), .string name, .int .i64 start, .int .i64 stop, .bool bad, .slice A3 m c3, .int .u64 (rv : Int), .string key, .int .u64 (weight : Int), .int .i64 at_, .string body]).cell? ⟨w.heap.size, 5, none⟩ = some (.string name) := hrz.cell 5 rfl
            have r6 : (w3.setRow w.heap.size #[.int .u8 (k : Int), .int .u64 (hi0 : Int), .int .u64 (lo : Int), .int .u64 (id : Int), .int .u64 (par : Int), .string name, .int .i64 start, .int .i64 stop, .bool bad, .slice A3 m c3, .int .u64 (rv : Int), .string key, .int .u64 (weight : Int), .int .i64 at_, .string body]).cell? ⟨w.heap.size, 6, none⟩ = some (.int .i64 start) := hrz.cell 6 rfl
            have r7 : (w3.setRow w.heap.size #[.int .u8 (k : Int), .int .u64 (hi0 : Int), .int .u64 (lo : Int), .int .u64 (id : Int), .int .u64 (par : Int), .string name, .int .i64 start, .int .i64 stop, .bool bad, .slice A3 m c3, .int .u64 (rv : Int), .string key, .int .u64 (weight : Int), .int .i64 at_, .string body]).cell? ⟨w.heap.size, 7, none⟩ = some (.int .i64 stop) := hrz.cell 7 rfl
            have r8 : (w3.setRow w.heap.size #[.int .u8 (k : Int), .int .u64 (hi0 : Int), .int .u64 (lo : Int), .int .u64 (id : Int), .int .u64 (par : Int), .string name, .int .i64 start, .int .i64 stop, .bool bad, .slice A3 m c3, .int .u64 (rv : Int), .string key, .int .u64 (weight : Int), .int .i64 at_, .string body]).cell? ⟨w.heap.size, 8, none⟩ = some (.bool bad) := hrz.cell 8 rfl
            have r9 : (w3.setRow w.heap.size #[.int .u8 (k : Int), .int .u64 (hi0 : Int), .int .u64 (lo : Int), .int .u64 (id : Int), .int .u64 (par : Int), .string name, .int .i64 start, .int .i64 stop, .bool bad, .slice A3 m c3, .int .u64 (rv : Int), .string key, .int .u64 (weight : Int), .int .i64 at_, .string body]).cell? ⟨w.heap.size, 9, none⟩ = some (.slice A3 m c3) := hrz.cell 9 rfl
            have r10 : (w3.setRow w.heap.size #[.int .u8 (k : Int), .int .u64 (hi0 : Int), .int .u64 (lo : Int), .int .u64 (id : Int), .int .u64 (par : Int), .string name, .int .i64 start, .int .i64 stop, .bool bad, .slice A3 m c3, .int .u64 (rv : Int), .string key, .int .u64 (weight : Int), .int .i64 at_, .string body]).cell? ⟨w.heap.size, 10, none⟩ = some (.int .u64 (rv : Int)) := hrz.cell 10 rfl
            have r11 : (w3.setRow w.heap.size #[.int .u8 (k : Int), .int .u64 (hi0 : Int), .int .u64 (lo : Int), .int .u64 (id : Int), .int .u64 (par : Int), .string name, .int .i64 start, .int .i64 stop, .bool bad, .slice A3 m c3, .int .u64 (rv : Int), .string key, .int .u64 (weight : Int), .int .i64 at_, .string body]).cell? ⟨w.heap.size, 11, none⟩ = some (.string key) := hrz.cell 11 rfl
            have r12 : (w3.setRow w.heap.size #[.int .u8 (k : Int), .int .u64 (hi0 : Int), .int .u64 (lo : Int), .int .u64 (id : Int), .int .u64 (par : Int), .string name, .int .i64 start, .int .i64 stop, .bool bad, .slice A3 m c3, .int .u64 (rv : Int), .string key, .int .u64 (weight : Int), .int .i64 at_, .string body]).cell? ⟨w.heap.size, 12, none⟩ = some (.int .u64 (weight : Int)) := hrz.cell 12 rfl
            have r13 : (w3.setRow w.heap.size #[.int .u8 (k : Int), .int .u64 (hi0 : Int), .int .u64 (lo : Int), .int .u64 (id : Int), .int .u64 (par : Int), .string name, .int .i64 start, .int .i64 stop, .bool bad, .slice A3 m c3, .int .u64 (rv : Int), .string key, .int .u64 (weight : Int), .int .i64 at_, .string body]).cell? ⟨w.heap.size, 13, none⟩ = some (.int .i64 at_) := hrz.cell 13 rfl
            have r14 : (w3.setRow w.heap.size #[.int .u8 (k : Int), .int .u64 (hi0 : Int), .int .u64 (lo : Int), .int .u64 (id : Int), .int .u64 (par : Int), .string name, .int .i64 start, .int .i64 stop, .bool bad, .slice A3 m c3, .int .u64 (rv : Int), .string key, .int .u64 (weight : Int), .int .i64 at_, .string body]).cell? ⟨w.heap.size, 14, none⟩ = some (.string body) := hrz.cell 14 rfl
            exact bodyPost_ret (v := .tuple #[.agg (itC k ⟨hi0, lo, id, par, name, start, stop, bad, al, rv⟩ A3 m c3 ⟨key, weight, at_, body⟩), .int .i64 0]) (by simp [results, Try.results32, go_sem, r0, r1, r2, r3, r4, r5, r6, r7, r8, r9, r10, r11, r12, r13, r14, itC]) rfl ⟨below_setRow HB5.out (Nat.le_refl _) _, .inr ⟨k, ⟨hi0, lo, id, par, name, start, stop, bad, al, rv⟩, ⟨key, weight, at_, body⟩, A3, m, c3, HDS.out, HM.out, by rw [List.length_cons]; omega, rfl, holdsA_own4 (own_setRow HO5.out HR5.out (by decide) _) HM.out.symm HS.out.2.2.2.2.2⟩⟩
          · have dtt : (t1.toList == t2.toList) = false := by
              rw [beq_eq_false_iff_ne, ← ht1, ← ht2, list_data, list_data]
              exact hzc
            have HDN := Lib.hid (dec_other HFL.out HK.out HST2.out (by rw [HEO.out]; intro h; injection h with h; exact hzc h))
            clear ht1 ht2
            go_wp2_with (refine wpList_store_row rfl 38 (.tmp 2) _ rfl w.heap.size #[.int .u8 0, .int .u64 0, .int .u64 0, .int .u64 0, .int .u64 0, .string ⟨#[]⟩, .int .i64 0, .int .i64 0, .bool false, .slice none 0 0, .int .u64 0, .string ⟨#[]⟩, .int .u64 0, .int .i64 0, .string ⟨#[]⟩] rfl rfl 38 #[.int .u8 0, .int .u64 0, .int .u64 0, .int .u64 0, .int .u64 0, .string ⟨#[]⟩, .int .i64 0, .int .i64 0, .bool false, .slice none 0 0, .int .u64 0, .string ⟨#[]⟩, .int .u64 0, .int .i64 0, .string ⟨#[]⟩] HR5.out (by kernel_rfl) rfl (by simp [Value.oneCell']) ?_)
            have hrz : Blk (w3.setRow w.heap.size #[.int .u8 0, .int .u64 0, .int .u64 0, .int .u64 0, .int .u64 0, .string ⟨#[]⟩, .int .i64 0, .int .i64 0, .bool false, .slice none 0 0, .int .u64 0, .string ⟨#[]⟩, .int .u64 0, .int .i64 0, .string ⟨#[]⟩]) w.heap.size #[.int .u8 0, .int .u64 0, .int .u64 0, .int .u64 0, .int .u64 0, .string ⟨#[]⟩, .int .i64 0, .int .i64 0, .bool false, .slice none 0 0, .int .u64 0, .string ⟨#[]⟩, .int .u64 0, .int .i64 0, .string ⟨#[]⟩] 38 := setRow_heap w3 _ _ _ _ _ HR5.out
            have r0 : (w3.setRow w.heap.size #[.int .u8 0, .int .u64 0, .int .u64 0, .int .u64 0, .int .u64 0, .string ⟨#[]⟩, .int .i64 0, .int .i64 0, .bool false, .slice none 0 0, .int .u64 0, .string ⟨#[]⟩, .int .u64 0, .int .i64 0, .string ⟨#[]⟩]).cell? ⟨w.heap.size, 0, none⟩ = some (.int .u8 0) := hrz.cell 0 rfl
            have r1 : (w3.setRow w.heap.size #[.int .u8 0, .int .u64 0, .int .u64 0, .int .u64 0, .int .u64 0, .string ⟨#[]⟩, .int .i64 0, .int .i64 0, .bool false, .slice none 0 0, .int .u64 0, .string ⟨#[]⟩, .int .u64 0, .int .i64 0, .string ⟨#[]⟩]).cell? ⟨w.heap.size, 1, none⟩ = some (.int .u64 0) := hrz.cell 1 rfl
            have r2 : (w3.setRow w.heap.size #[.int .u8 0, .int .u64 0, .int .u64 0, .int .u64 0, .int .u64 0, .string ⟨#[]⟩, .int .i64 0, .int .i64 0, .bool false, .slice none 0 0, .int .u64 0, .string ⟨#[]⟩, .int .u64 0, .int .i64 0, .string ⟨#[]⟩]).cell? ⟨w.heap.size, 2, none⟩ = some (.int .u64 0) := hrz.cell 2 rfl
            have r3 : (w3.setRow w.heap.size #[.int .u8 0, .int .u64 0, .int .u64 0, .int .u64 0, .int .u64 0, .string ⟨#[]⟩, .int .i64 0, .int .i64 0, .bool false, .slice none 0 0, .int .u64 0, .string ⟨#[]⟩, .int .u64 0, .int .i64 0, .string ⟨#[]⟩]).cell? ⟨w.heap.size, 3, none⟩ = some (.int .u64 0) := hrz.cell 3 rfl
            have r4 : (w3.setRow w.heap.size #[.int .u8 0, .int .u64 0, .int .u64 0, .int .u64 0, .int .u64 0, .string ⟨#[]⟩, .int .i64 0, .int .i64 0, .bool false, .slice none 0 0, .int .u64 0, .string ⟨#[]⟩, .int .u64 0, .int .i64 0, .string ⟨#[]⟩]).cell? ⟨w.heap.size, 4, none⟩ = some (.int .u64 0) := hrz.cell 4 rfl
            have r5 : (w3.setRow w.heap.size #[.int .u8 0, .int .u64 0, .int .u64 0, .int .u64 0, .int .u64 0, .string ⟨#[]⟩, .int .i64 0, .int .i64 0, .bool false, .slice none 0 0, .int .u64 0, .string ⟨#[]⟩, .int .u64 0, .int .i64 0, .string ⟨#[]⟩]).cell? ⟨w.heap.size, 5, none⟩ = some (.string ⟨#[]⟩) := hrz.cell 5 rfl
            have r6 : (w3.setRow w.heap.size #[.int .u8 0, .int .u64 0, .int .u64 0, .int .u64 0, .int .u64 0, .string ⟨#[]⟩, .int .i64 0, .int .i64 0, .bool false, .slice none 0 0, .int .u64 0, .string ⟨#[]⟩, .int .u64 0, .int .i64 0, .string ⟨#[]⟩]).cell? ⟨w.heap.size, 6, none⟩ = some (.int .i64 0) := hrz.cell 6 rfl
            have r7 : (w3.setRow w.heap.size #[.int .u8 0, .int .u64 0, .int .u64 0, .int .u64 0, .int .u64 0, .string ⟨#[]⟩, .int .i64 0, .int .i64 0, .bool false, .slice none 0 0, .int .u64 0, .string ⟨#[]⟩, .int .u64 0, .int .i64 0, .string ⟨#[]⟩]).cell? ⟨w.heap.size, 7, none⟩ = some (.int .i64 0) := hrz.cell 7 rfl
            have r8 : (w3.setRow w.heap.size #[.int .u8 0, .int .u64 0, .int .u64 0, .int .u64 0, .int .u64 0, .string ⟨#[]⟩, .int .i64 0, .int .i64 0, .bool false, .slice none 0 0, .int .u64 0, .string ⟨#[]⟩, .int .u64 0, .int .i64 0, .string ⟨#[]⟩]).cell? ⟨w.heap.size, 8, none⟩ = some (.bool false) := hrz.cell 8 rfl
            have r9 : (w3.setRow w.heap.size #[.int .u8 0, .int .u64 0, .int .u64 0, .int .u64 0, .int .u64 0, .string ⟨#[]⟩, .int .i64 0, .int .i64 0, .bool false, .slice none 0 0, .int .u64 0, .string ⟨#[]⟩, .int .u64 0, .int .i64 0, .string ⟨#[]⟩]).cell? ⟨w.heap.size, 9, none⟩ = some (.slice none 0 0) := hrz.cell 9 rfl
            have r10 : (w3.setRow w.heap.size #[.int .u8 0, .int .u64 0, .int .u64 0, .int .u64 0, .int .u64 0, .string ⟨#[]⟩, .int .i64 0, .int .i64 0, .bool false, .slice none 0 0, .int .u64 0, .string ⟨#[]⟩, .int .u64 0, .int .i64 0, .string ⟨#[]⟩]).cell? ⟨w.heap.size, 10, none⟩ = some (.int .u64 0) := hrz.cell 10 rfl
            have r11 : (w3.setRow w.heap.size #[.int .u8 0, .int .u64 0, .int .u64 0, .int .u64 0, .int .u64 0, .string ⟨#[]⟩, .int .i64 0, .int .i64 0, .bool false, .slice none 0 0, .int .u64 0, .string ⟨#[]⟩, .int .u64 0, .int .i64 0, .string ⟨#[]⟩]).cell? ⟨w.heap.size, 11, none⟩ = some (.string ⟨#[]⟩) := hrz.cell 11 rfl
            have r12 : (w3.setRow w.heap.size #[.int .u8 0, .int .u64 0, .int .u64 0, .int .u64 0, .int .u64 0, .string ⟨#[]⟩, .int .i64 0, .int .i64 0, .bool false, .slice none 0 0, .int .u64 0, .string ⟨#[]⟩, .int .u64 0, .int .i64 0, .string ⟨#[]⟩]).cell? ⟨w.heap.size, 12, none⟩ = some (.int .u64 0) := hrz.cell 12 rfl
            have r13 : (w3.setRow w.heap.size #[.int .u8 0, .int .u64 0, .int .u64 0, .int .u64 0, .int .u64 0, .string ⟨#[]⟩, .int .i64 0, .int .i64 0, .bool false, .slice none 0 0, .int .u64 0, .string ⟨#[]⟩, .int .u64 0, .int .i64 0, .string ⟨#[]⟩]).cell? ⟨w.heap.size, 13, none⟩ = some (.int .i64 0) := hrz.cell 13 rfl
            have r14 : (w3.setRow w.heap.size #[.int .u8 0, .int .u64 0, .int .u64 0, .int .u64 0, .int .u64 0, .string ⟨#[]⟩, .int .i64 0, .int .i64 0, .bool false, .slice none 0 0, .int .u64 0, .string ⟨#[]⟩, .int .u64 0, .int .i64 0, .string ⟨#[]⟩]).cell? ⟨w.heap.size, 14, none⟩ = some (.string ⟨#[]⟩) := hrz.cell 14 rfl
            exact bodyPost_ret (v := .tuple #[.agg itZ, .int .i64 40]) (by simp [results, Try.results32, go_sem, r0, r1, r2, r3, r4, r5, r6, r7, r8, r9, r10, r11, r12, r13, r14, itZ]) rfl ⟨below_setRow HB5.out (Nat.le_refl _) _, .inl ⟨HDN.out, rfl⟩⟩
        · have hno : o = none := by
            cases o with
            | none => rfl
            | some z => exact absurd ⟨z, rfl⟩ hoz
          subst hno
          have hE0 : E = 40 := hE.symm
          subst hE0
          have HDN := Lib.hid (dec_other HFL.out HK.out HST2.out (by rw [HEO.out]; intro h; cases h))
          clear hE hzz hoz
          go_wp2_with fail
          refine HEN.out.mono ?_
          rintro e w3 ⟨A5, c5, rfl, o5, hb5⟩
          have HB5 := Lib.hid (HBW.out.trans (hb5.mono HBW.out.size))
          have HR5 := Lib.hid (HRW.out.same (hb5.block _ HRW.out.lt))
          clear o5 hb5
          go_wp2_with (refine wpList_store_row rfl 38 (.tmp 2) _ rfl w.heap.size #[.int .u8 0, .int .u64 0, .int .u64 0, .int .u64 0, .int .u64 0, .string ⟨#[]⟩, .int .i64 0, .int .i64 0, .bool false, .slice none 0 0, .int .u64 0, .string ⟨#[]⟩, .int .u64 0, .int .i64 0, .string ⟨#[]⟩] rfl rfl 38 #[.int .u8 0, .int .u64 0, .int .u64 0, .int .u64 0, .int .u64 0, .string ⟨#[]⟩, .int .i64 0, .int .i64 0, .bool false, .slice none 0 0, .int .u64 0, .string ⟨#[]⟩, .int .u64 0, .int .i64 0, .string ⟨#[]⟩] HR5.out (by kernel_rfl) rfl (by simp [Value.oneCell']) ?_)
          have hrz : Blk (w3.setRow w.heap.size #[.int .u8 0, .int .u64 0, .int .u64 0, .int .u64 0, .int .u64 0, .string ⟨#[]⟩, .int .i64 0, .int .i64 0, .bool false, .slice none 0 0, .int .u64 0, .string ⟨#[]⟩, .int .u64 0, .int .i64 0, .string ⟨#[]⟩]) w.heap.size #[.int .u8 0, .int .u64 0, .int .u64 0, .int .u64 0, .int .u64 0, .string ⟨#[]⟩, .int .i64 0, .int .i64 0, .bool false, .slice none 0 0, .int .u64 0, .string ⟨#[]⟩, .int .u64 0, .int .i64 0, .string ⟨#[]⟩] 38 := setRow_heap w3 _ _ _ _ _ HR5.out
          have r0 : (w3.setRow w.heap.size #[.int .u8 0, .int .u64 0, .int .u64 0, .int .u64 0, .int .u64 0, .string ⟨#[]⟩, .int .i64 0, .int .i64 0, .bool false, .slice none 0 0, .int .u64 0, .string ⟨#[]⟩, .int .u64 0, .int .i64 0, .string ⟨#[]⟩]).cell? ⟨w.heap.size, 0, none⟩ = some (.int .u8 0) := hrz.cell 0 rfl
          have r1 : (w3.setRow w.heap.size #[.int .u8 0, .int .u64 0, .int .u64 0, .int .u64 0, .int .u64 0, .string ⟨#[]⟩, .int .i64 0, .int .i64 0, .bool false, .slice none 0 0, .int .u64 0, .string ⟨#[]⟩, .int .u64 0, .int .i64 0, .string ⟨#[]⟩]).cell? ⟨w.heap.size, 1, none⟩ = some (.int .u64 0) := hrz.cell 1 rfl
          have r2 : (w3.setRow w.heap.size #[.int .u8 0, .int .u64 0, .int .u64 0, .int .u64 0, .int .u64 0, .string ⟨#[]⟩, .int .i64 0, .int .i64 0, .bool false, .slice none 0 0, .int .u64 0, .string ⟨#[]⟩, .int .u64 0, .int .i64 0, .string ⟨#[]⟩]).cell? ⟨w.heap.size, 2, none⟩ = some (.int .u64 0) := hrz.cell 2 rfl
          have r3 : (w3.setRow w.heap.size #[.int .u8 0, .int .u64 0, .int .u64 0, .int .u64 0, .int .u64 0, .string ⟨#[]⟩, .int .i64 0, .int .i64 0, .bool false, .slice none 0 0, .int .u64 0, .string ⟨#[]⟩, .int .u64 0, .int .i64 0, .string ⟨#[]⟩]).cell? ⟨w.heap.size, 3, none⟩ = some (.int .u64 0) := hrz.cell 3 rfl
          have r4 : (w3.setRow w.heap.size #[.int .u8 0, .int .u64 0, .int .u64 0, .int .u64 0, .int .u64 0, .string ⟨#[]⟩, .int .i64 0, .int .i64 0, .bool false, .slice none 0 0, .int .u64 0, .string ⟨#[]⟩, .int .u64 0, .int .i64 0, .string ⟨#[]⟩]).cell? ⟨w.heap.size, 4, none⟩ = some (.int .u64 0) := hrz.cell 4 rfl
          have r5 : (w3.setRow w.heap.size #[.int .u8 0, .int .u64 0, .int .u64 0, .int .u64 0, .int .u64 0, .string ⟨#[]⟩, .int .i64 0, .int .i64 0, .bool false, .slice none 0 0, .int .u64 0, .string ⟨#[]⟩, .int .u64 0, .int .i64 0, .string ⟨#[]⟩]).cell? ⟨w.heap.size, 5, none⟩ = some (.string ⟨#[]⟩) := hrz.cell 5 rfl
          have r6 : (w3.setRow w.heap.size #[.int .u8 0, .int .u64 0, .int .u64 0, .int .u64 0, .int .u64 0, .string ⟨#[]⟩, .int .i64 0, .int .i64 0, .bool false, .slice none 0 0, .int .u64 0, .string ⟨#[]⟩, .int .u64 0, .int .i64 0, .string ⟨#[]⟩]).cell? ⟨w.heap.size, 6, none⟩ = some (.int .i64 0) := hrz.cell 6 rfl
          have r7 : (w3.setRow w.heap.size #[.int .u8 0, .int .u64 0, .int .u64 0, .int .u64 0, .int .u64 0, .string ⟨#[]⟩, .int .i64 0, .int .i64 0, .bool false, .slice none 0 0, .int .u64 0, .string ⟨#[]⟩, .int .u64 0, .int .i64 0, .string ⟨#[]⟩]).cell? ⟨w.heap.size, 7, none⟩ = some (.int .i64 0) := hrz.cell 7 rfl
          have r8 : (w3.setRow w.heap.size #[.int .u8 0, .int .u64 0, .int .u64 0, .int .u64 0, .int .u64 0, .string ⟨#[]⟩, .int .i64 0, .int .i64 0, .bool false, .slice none 0 0, .int .u64 0, .string ⟨#[]⟩, .int .u64 0, .int .i64 0, .string ⟨#[]⟩]).cell? ⟨w.heap.size, 8, none⟩ = some (.bool false) := hrz.cell 8 rfl
          have r9 : (w3.setRow w.heap.size #[.int .u8 0, .int .u64 0, .int .u64 0, .int .u64 0, .int .u64 0, .string ⟨#[]⟩, .int .i64 0, .int .i64 0, .bool false, .slice none 0 0, .int .u64 0, .string ⟨#[]⟩, .int .u64 0, .int .i64 0, .string ⟨#[]⟩]).cell? ⟨w.heap.size, 9, none⟩ = some (.slice none 0 0) := hrz.cell 9 rfl
          have r10 : (w3.setRow w.heap.size #[.int .u8 0, .int .u64 0, .int .u64 0, .int .u64 0, .int .u64 0, .string ⟨#[]⟩, .int .i64 0, .int .i64 0, .bool false, .slice none 0 0, .int .u64 0, .string ⟨#[]⟩, .int .u64 0, .int .i64 0, .string ⟨#[]⟩]).cell? ⟨w.heap.size, 10, none⟩ = some (.int .u64 0) := hrz.cell 10 rfl
          have r11 : (w3.setRow w.heap.size #[.int .u8 0, .int .u64 0, .int .u64 0, .int .u64 0, .int .u64 0, .string ⟨#[]⟩, .int .i64 0, .int .i64 0, .bool false, .slice none 0 0, .int .u64 0, .string ⟨#[]⟩, .int .u64 0, .int .i64 0, .string ⟨#[]⟩]).cell? ⟨w.heap.size, 11, none⟩ = some (.string ⟨#[]⟩) := hrz.cell 11 rfl
          have r12 : (w3.setRow w.heap.size #[.int .u8 0, .int .u64 0, .int .u64 0, .int .u64 0, .int .u64 0, .string ⟨#[]⟩, .int .i64 0, .int .i64 0, .bool false, .slice none 0 0, .int .u64 0, .string ⟨#[]⟩, .int .u64 0, .int .i64 0, .string ⟨#[]⟩]).cell? ⟨w.heap.size, 12, none⟩ = some (.int .u64 0) := hrz.cell 12 rfl
          have r13 : (w3.setRow w.heap.size #[.int .u8 0, .int .u64 0, .int .u64 0, .int .u64 0, .int .u64 0, .string ⟨#[]⟩, .int .i64 0, .int .i64 0, .bool false, .slice none 0 0, .int .u64 0, .string ⟨#[]⟩, .int .u64 0, .int .i64 0, .string ⟨#[]⟩]).cell? ⟨w.heap.size, 13, none⟩ = some (.int .i64 0) := hrz.cell 13 rfl
          have r14 : (w3.setRow w.heap.size #[.int .u8 0, .int .u64 0, .int .u64 0, .int .u64 0, .int .u64 0, .string ⟨#[]⟩, .int .i64 0, .int .i64 0, .bool false, .slice none 0 0, .int .u64 0, .string ⟨#[]⟩, .int .u64 0, .int .i64 0, .string ⟨#[]⟩]).cell? ⟨w.heap.size, 14, none⟩ = some (.string ⟨#[]⟩) := hrz.cell 14 rfl
          exact bodyPost_ret (v := .tuple #[.agg itZ, .int .i64 40]) (by simp [results, Try.results32, go_sem, r0, r1, r2, r3, r4, r5, r6, r7, r8, r9, r10, r11, r12, r13, r14, itZ]) rfl ⟨below_setRow HB5.out (Nat.le_refl _) _, .inl ⟨HDN.out, rfl⟩⟩

end Go.Proofs.Ytklgggolkclebaa
