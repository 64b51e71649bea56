/-
  Proved: TailKnows returns true for every number and deeds: the newest decisions are known, the oldest are not. No condition.
-/
import Derived.Test.YtbmhhidlmdhacaaTlDecM
import Derived.Test.YtbmhhidlmdhacaaTlArgs
import Derived.Test.YtbmhhidlmdhacaaBytes0
namespace Go.Proofs.Ytbmhhidlmdhacaa
open Go.ChangeShapes Go.WideShapes Go.ChangeAt Go.RowKit Go.Maps Go.Proofs.HeapMath Go.Proofs.TailMath

def kpOf (d : De) : Bool := d.more % 2 == 0
def kn (d : De) : Kn := ⟨ofHi d, ofLo d, ayOf (kpOf d)⟩
def same (d x : De) : Bool := ofHi x == ofHi d && ofLo x == ofLo d
def nxt (ds : List De) (d : De) : List De := (ds.filter fun x => !same d x) ++ [d]
theorem nxt_kn (ds : List De) (d : De) : (nxt ds d).map kn = oth (ofHi d) (ofLo d) (ds.map kn) ++ [⟨ofHi d, ofLo d, ayOf (kpOf d)⟩] := by
  unfold nxt oth
  rw [List.map_append, List.filter_map]
  rfl
structure KnI (n : Nat) (ds : List De) (b : St) : Prop where
  most : b.most = n
  K : b.K = last n (ds.map kn)
  pw : (ds.map kn).Pairwise Kn.ne
theorem KnI.next {n : Nat} {ds : List De} {b : St} (h : KnI n ds b) (d : De) : KnI n (nxt ds d) (decided b (ofHi d) (ofLo d) (ayOf (kpOf d))) :=
  ⟨h.most, by show dec b.most _ _ _ b.K = _; rw [h.most, h.K, dec_last h.pw, nxt_kn], by rw [nxt_kn]; exact oth_pw h.pw⟩
/-- A row of deeds of the law's own. -/
structure KnW (B : Nat) (W : World) (A : Option Addr) (m cap : Nat) (ds : List De) (bs : List Nat) : Prop where
  row : W.ownsRow B 54 4 (.slice A m cap) m (ds.flatMap deL)
  len : ds.length = m
  ok : ∀ d ∈ ds, d.ok
  far : ∀ g, (Value.slice A m cap).ownBlock = some g → g ∉ bs
theorem KnW.mut {B : Nat} {W W' : World} {m cap : Nat} {A : Option Addr} {ds : List De} {bs bs' cs : List Nat} (h : KnW B W A m cap ds bs) (hm : Mut cs W W') (hc : ∀ g, (Value.slice A m cap).ownBlock = some g → g ∉ cs) (hx : Ext W bs bs') : KnW B W' A m cap ds bs' :=
  ⟨row_same h.row fun g hg => hm.block g (h.row.lt g hg).2 (hc g hg), h.len, h.ok, fun g hg => hx.not (h.far g hg) (h.row.lt g hg).2⟩
theorem KnW.later {B : Nat} {W W' : World} {m cap : Nat} {A : Option Addr} {ds : List De} {bs : List Nat} (h : KnW B W A m cap ds bs) (hb : Below W.heap.size W W') : KnW B W' A m cap ds bs := h.mut (cs := []) (Mut.of_below hb) (by simp) (Ext.refl _ _)
theorem deC_at {ds : List De} : ∀ {i : Nat} (h : i < ds.length) {j : Nat} (_ : j < 4), (ds.flatMap deL)[i * 4 + j]? = (deL ds[i])[j]? := by
  induction ds with
  | nil => intro i hi; simp at hi
  | cons d ds ih =>
    intro i hi j hj
    have hl : (deL d).length = 4 := rfl
    rw [List.flatMap_cons]
    match i, hi with
    | 0, _ =>
      rw [List.getElem?_append_left (by omega), Nat.zero_mul, Nat.zero_add]
      rfl
    | i + 1, hi =>
      have := ih (i := i) (by simpa using hi) (j := j) hj
      rw [List.getElem?_append_right (by omega), hl, show (i + 1) * 4 + j - 4 = i * 4 + j by omega]
      simpa using this
theorem KnW.cells {B : Nat} {W : World} {m cap : Nat} {A : Option Addr} {ds : List De} {bs : List Nat} (h : KnW B W A m cap ds bs) {i : Nat} (hi : i < m) : ∃ g, A = some ⟨g, 0, none⟩ ∧ ∃ d, ds[i]? = some d ∧ d.ok ∧ W.cell? ⟨g, i * 4, none⟩ = some (.int .u8 (d.what : Int)) ∧ W.cell? ⟨g, i * 4 + 1, none⟩ = some (.int .u8 (d.after : Int)) ∧ W.cell? ⟨g, i * 4 + 2, none⟩ = some (.int .u8 (d.trace : Int)) ∧ W.cell? ⟨g, i * 4 + 3, none⟩ = some (.int .u8 (d.more : Int)) := by
  have hr := h.row
  obtain ⟨g, cap', e, _, _⟩ := hr.form (by omega)
  injection e with e1 _ e2
  subst e1
  have hi2 : i < ds.length := by rw [h.len]; exact hi
  refine ⟨g, rfl, ds[i], List.getElem?_eq_getElem hi2, h.ok _ (List.getElem_mem hi2), ?_, ?_, ?_, ?_⟩
  · rw [hr.cellAt _ (by omega), ← Nat.add_zero (i * 4)]; exact deC_at hi2 (by omega)
  · rw [hr.cellAt _ (by omega)]; exact deC_at hi2 (by omega)
  · rw [hr.cellAt _ (by omega)]; exact deC_at hi2 (by omega)
  · rw [hr.cellAt _ (by omega)]; exact deC_at hi2 (by omega)
theorem KnW.nil (B : Nat) (W : World) (bs : List Nat) : KnW B W none 0 0 [] bs := ⟨World.ownsRow_nil _ _ _ _, rfl, by simp, fun g hg => by simp [Value.ownBlock] at hg⟩
theorem deL_one (d : De) : ∀ u ∈ deL d, u.oneCell' = true := fun u hu => by
  simp [deL] at hu
  rcases hu with h | h | h | h <;> subst h <;> rfl
theorem info_de : (Try.prog.info? 54).map (fun i => (i.zero, i.size, i.bytes)) = some (some (.agg #[.int .u8 0, .int .u8 0, .int .u8 0, .int .u8 0]), 4, 4) := by kernel_rfl
/-- One more deed behind all. -/
theorem KnW.push {B : Nat} {W W2 : World} {m cap g cap' : Nat} {A : Option Addr} {ds : List De} {bs : List Nat} {d : De} {o : Obj} (h : KnW B W A m cap ds bs) (hd : d.ok) (hlt : ∀ k ∈ bs, k < W.heap.size) (hown : W2.ownsRow B 54 4 (.slice (some ⟨g, 0, none⟩) (m + 1) cap') (m + 1) (ds.flatMap deL ++ deL d)) (hor : (Value.slice A m cap).ownBlock = some g ∨ (W.alloc o).heap.size ≤ g) : KnW B W2 (some ⟨g, 0, none⟩) (m + 1) cap' (ds ++ [d]) bs := by
  have hs : (W.alloc o).heap.size = W.heap.size + 1 := World.size_alloc _ _
  refine ⟨by simpa using hown, by simp [h.len], fun x hx => ?_, fun g' hg' => ?_⟩
  · rcases List.mem_append.1 hx with e | e
    · exact h.ok x e
    · rw [List.mem_singleton.1 e]; exact hd
  · simp [Value.ownBlock] at hg'
    subst hg'
    rcases hor with e | e
    · exact h.far g e
    · intro hm
      have := hlt g hm
      omega
theorem kept_last {n i m : Nat} {ds : List De} {b : St} {d : De} (h : KnI n ds b) (hm : ds.length = m) (hd : ds[i]? = some d) : (askK (ofHi d) (ofLo d) b.K).isSome = decide (m - n ≤ i) ∧ (m - n ≤ i → (((askK (ofHi d) (ofLo d) b.K).map (·.ay)).getD 0 == 4) = kpOf d) := by
  obtain ⟨hi, e⟩ := List.getElem?_eq_some_iff.1 hd
  have hi2 : i < (ds.map kn).length := by simpa using hi
  have ha := ask_last (n := n) h.pw hi2
  have e2 : (ds.map kn)[i] = kn d := by simp [e]
  rw [e2] at ha
  simp only [List.length_map, hm] at ha
  rw [h.K]
  have ha2 : askK (ofHi d) (ofLo d) (last n (ds.map kn)) = if m - n ≤ i then some (kn d) else none := ha
  rw [ha2]
  by_cases hc : m - n ≤ i
  · rw [if_pos hc]
    refine ⟨by simp [hc], fun _ => ?_⟩
    show (ayOf (kpOf d) == 4) = kpOf d
    cases kpOf d <;> rfl
  · rw [if_neg hc]
    exact ⟨by simp [hc], fun h => absurd h hc⟩
theorem take_filter_yes {ds : List De} {d e : De} {k : Nat} (he : ds[k]? = some e) (h : same d e = false) : (ds.take (k + 1)).filter (fun x => !same d x) = (ds.take k).filter (fun x => !same d x) ++ [e] := by
  rw [List.take_add_one, he, List.filter_append]
  simp [h]
theorem take_filter_no {ds : List De} {d e : De} {k : Nat} (he : ds[k]? = some e) (h : same d e = true) : (ds.take (k + 1)).filter (fun x => !same d x) = (ds.take k).filter (fun x => !same d x) := by
  rw [List.take_add_one, he, List.filter_append]
  simp [h]
def ofC (d : De) : Array Value := #[.int .u64 (ofHi d : Int), .int .u64 (ofLo d : Int), .int .u64 ((d.more : Int) + 1), .int .u64 0, .string ⟨#[110]⟩, .int .i64 0, .int .i64 (d.more : Int), .bool false, .slice none 0 0, .int .u64 0]
theorem of_lit (d : De) (w : World) (hd : d.ok) : Calls Try.prog 21 #[.agg #[.int .u8 (d.what : Int), .int .u8 (d.after : Int), .int .u8 (d.trace : Int), .int .u8 (d.more : Int)]] w fun e w' => e = .returned (.agg (ofC d)) ∧ Below w.heap.size w w' := of_any d w hd

set_option linter.unusedSimpArgs false in
set_option maxRecDepth 100000 in
set_option maxHeartbeats 4000000 in
theorem tailKnows_walk (cn : UInt8) (A0 : Option Addr) (ls : List De) (cap : Nat) (w : World) (hH : Dds w.heap.size w A0 ls) (hcap : ls.length ≤ cap) :
    Calls Try.prog 8 #[.int .u8 (cn.toNat : Int), .slice A0 ls.length cap] w fun e w' => e = .returned (.bool true) ∧ Below w.heap.size w w' := by
  obtain ⟨N, hN⟩ : ∃ N, ls.length = N := ⟨_, rfl⟩
  rw [hN] at hcap ⊢
  obtain ⟨n, hm, hm1, hm2⟩ : ∃ m : Nat, (1 : Int) + (cn.toNat : Int) % 5 = (m : Int) ∧ 1 ≤ m ∧ m ≤ 5 := ⟨1 + cn.toNat % 5, by omega, by omega, by omega⟩
  have HNEW := Lib.hid (own_new 10 5 n w (by omega) (by omega) (by omega))
  have hDec : ∀ S bs W b ds d A m cap, Ob w W S b bs → KnI n ds b → KnW w.heap.size W A m cap ds bs → Calls Try.prog 14 #[.pointer (some ⟨S, 0, none⟩), .int .u64 (ofHi d : Int), .int .u64 (ofLo d : Int), .bool (kpOf d)] W fun e w' => e = .returned (.tuple #[]) ∧ ∃ bs' b', Hid (Ob w w' S b' bs' ∧ KnI n (nxt ds d) b' ∧ KnW w.heap.size w' A m cap ds bs' ∧ Mut bs W w' ∧ Ext W bs bs') := fun S bs W b ds d A m cap h hI hW =>
    (h.decide (ofHi d) (ofLo d) (kpOf d) (ofU d).1 (ofU d).2 _ rfl).mono fun e w' ⟨a, bs', y, z⟩ => ⟨a, bs', _, Lib.hid ⟨y.out, hI.next d, hW.mut z.out.1 hW.far z.out.2, z.out.1, z.out.2⟩⟩
  have HDEC := Lib.hid hDec
  have hOf := of_lit
  unfold ofC at hOf
  have HOF := Lib.hid hOf
  clear hOf
  have HH := Lib.hid hH
  have HN := Lib.hid hN
  clear hDec hH hN
  go_enter Try.func8, Try.ntmps8
  go_wp2_with fail
  refine HNEW.out.mono ?_
  rintro e w1 ⟨S, bs, rfl, HO⟩
  by_cases hlong : 60 < N
  · have t1 : decide ((60 : Int) < (N : Int)) = true := by simp; omega
    have HK := Lib.hid (own_known HO.out)
    go_wp2_with fail
    refine HK.out.mono ?_
    rintro e w2 ⟨rfl, HO2, _⟩
    have HE := Lib.hid HO2.out.2.1
    go_wp2_with fail
    go_ret
    exact ⟨rfl, HE.out⟩
  · have t1 : decide ((60 : Int) < (N : Int)) = false := by simp; omega
    have hN60 : N ≤ 60 := by omega
    clear hlong HNEW
    go_wp2_with fail
    go_loopw [8, 7] (fun iv lv wr => ∃ (i : Nat) (A : Option Addr) (m cap2 : Nat) (ds : List De) (bs : List Nat) (b : St), iv = .int .i64 (i : Int) ∧ lv = .slice A m cap2 ∧ i ≤ N ∧ m ≤ i ∧ Hid (Ob w wr S b bs ∧ KnI n ds b ∧ KnW w.heap.size wr A m cap2 ds bs)) (fun iv _ _ => N - (intOf iv).toNat)
    case atStart => exact ⟨0, none, 0, 0, [], bs, _, rfl, rfl, by omega, by omega, Lib.hid ⟨HO.out, ⟨rfl, by show [] = last n []; simp [last], List.Pairwise.nil⟩, KnW.nil _ _ _⟩⟩
    case round =>
      clear HO t1
      obtain ⟨i, A, m, cap2, ds, bs1, b1, rfl, rfl, hi, hmi, HB⟩ := hrel
      by_cases hin : i < N
      · have di : decide ((i : Int) < (N : Int)) = true := by simp; omega
        obtain ⟨b0, o0, rfl, hb0, hc0⟩ := HH.out (by rw [HN.out]; omega)
        obtain ⟨d, hd⟩ : ∃ d, ls.getD i de0 = d := ⟨_, rfl⟩
        have hcl := hc0 i (by rw [HN.out]; exact hin)
        rw [hd] at hcl
        obtain ⟨l0, l1, l2, l3, hok⟩ := hcl
        have HL := Lib.hid (show ∀ W, Below w.heap.size w W → W.cell? ⟨b0, o0 + i * 4, none⟩ = some (.int .u8 (d.what : Int)) ∧ W.cell? ⟨b0, o0 + i * 4 + 1, none⟩ = some (.int .u8 (d.after : Int)) ∧ W.cell? ⟨b0, o0 + i * 4 + 2, none⟩ = some (.int .u8 (d.trace : Int)) ∧ W.cell? ⟨b0, o0 + i * 4 + 3, none⟩ = some (.int .u8 (d.more : Int)) from fun W hW =>
          ⟨(hW.cell (p := ⟨b0, _, none⟩) hb0).trans l0, (hW.cell (p := ⟨b0, _, none⟩) hb0).trans l1, (hW.cell (p := ⟨b0, _, none⟩) hb0).trans l2, (hW.cell (p := ⟨b0, _, none⟩) hb0).trans l3⟩)
        have HOK := Lib.hid hok
        clear l0 l1 l2 l3 hc0 hd hok
        obtain ⟨q0, q1, q2, q3⟩ := HL.out wr HB.out.1.2.1
        go_wp2_with fail
        refine (HOF.out d wr HOK.out).mono ?_
        rintro e w2 ⟨rfl, hb2⟩
        clear q0 q1 q2 q3
        go_wp2_with fail
        have hbel : Below wr.heap.size wr (w2.alloc (.cells #[.int .u64 (ofHi d : Int), .int .u64 (ofLo d : Int), .int .u64 ((d.more : Int) + 1), .int .u64 0, .string ⟨#[110]⟩, .int .i64 0, .int .i64 (d.more : Int), .bool false, .slice none 0 0, .int .u64 0] 35)) := hb2.trans ((box_below _).mono hb2.size)
        have hbx := blk_new w2 #[.int .u64 (ofHi d : Int), .int .u64 (ofLo d : Int), .int .u64 ((d.more : Int) + 1), .int .u64 0, .string ⟨#[110]⟩, .int .i64 0, .int .i64 (d.more : Int), .bool false, .slice none 0 0, .int .u64 0] 35
        obtain ⟨p9, hp9⟩ : ∃ p, w2.heap.size = p := ⟨_, rfl⟩
        rw [hp9] at hbx ⊢
        generalize w2.alloc (.cells #[.int .u64 (ofHi d : Int), .int .u64 (ofLo d : Int), .int .u64 ((d.more : Int) + 1), .int .u64 0, .string ⟨#[110]⟩, .int .i64 0, .int .i64 (d.more : Int), .bool false, .slice none 0 0, .int .u64 0] 35) = w3 at hbel hbx ⊢
        have hp9l : wr.heap.size ≤ p9 := hp9 ▸ hb2.size
        have H3 := Lib.hid (show Ob w w3 S b1 bs1 ∧ KnI n ds b1 ∧ KnW w.heap.size w3 A m cap2 ds bs1 ∧ Blk w3 p9 (ofC d) 35 ∧ p9 ∉ bs1 ∧ w.heap.size ≤ p9 ∧ ∀ g, (Value.slice A m cap2).ownBlock = some g → g ≠ p9 from
          ⟨HB.out.1.later hbel, HB.out.2.1, HB.out.2.2.later hbel, hbx, fun e => by have := HB.out.1.1.lt p9 e; omega, Nat.le_trans HB.out.1.2.1.size hp9l, fun g hg => by have := (HB.out.2.2.row.lt g hg).2; omega⟩)
        have hkp : ((d.more : Int) % 2 == 0) = kpOf d := by
          unfold kpOf
          by_cases e : d.more % 2 = 0
          · rw [show (d.more % 2 == 0) = true by simpa using e]; simp; omega
          · rw [show (d.more % 2 == 0) = false by simpa using e]; simp; omega
        have HKP := Lib.hid hkp
        clear hkp hbel hbx hb2 hp9l HB hp9
        have u0 : w3.cell? ⟨p9, 0, none⟩ = some (.int .u64 (ofHi d : Int)) := H3.out.2.2.2.1.cell 0 rfl
        have u1 : w3.cell? ⟨p9, 1, none⟩ = some (.int .u64 (ofLo d : Int)) := H3.out.2.2.2.1.cell 1 rfl
        have u2 := (HL.out w3 H3.out.1.2.1).2.2.2
        go_still_tail 12, (by kernel_rfl)
        change wpList _ _ _ _ _ w3.drew
        have hC := HDEC.out S bs1 w3.drew b1 ds d A m cap2 (H3.out.1.beside (cs := []) ((Mut.refl [] w3).drew) (by simp)) H3.out.2.1 (H3.out.2.2.1.mut (cs := []) ((Mut.refl [] w3).drew) (by simp) (Ext.refl _ _))
        rw [← HKP.out] at hC
        have HC := Lib.hid hC
        clear hC
        clear u0 u1 u2
        go_wp2_with fail
        refine HC.out.mono ?_
        rintro e w4 ⟨rfl, bs4, b4, HB4⟩
        have hbx4 : Blk w4 p9 (ofC d) 35 := Blk.mut (W := w3.drew) H3.out.2.2.2.1 HB4.out.2.2.2.1 H3.out.2.2.2.2.1
        have hp4 : p9 ∉ bs4 := HB4.out.2.2.2.2.not H3.out.2.2.2.2.1 (show p9 < w3.heap.size from H3.out.2.2.2.1.lt)
        have H4 := Lib.hid (show Ob w w4 S b4 bs4 ∧ KnI n (nxt ds d) b4 ∧ KnW w.heap.size w4 A m cap2 ds bs4 ∧ Blk w4 p9 (ofC d) 35 ∧ p9 ∉ bs4 ∧ w.heap.size ≤ p9 ∧ ∀ g, (Value.slice A m cap2).ownBlock = some g → g ≠ p9 from ⟨HB4.out.1, HB4.out.2.1, HB4.out.2.2.1, hbx4, hp4, H3.out.2.2.2.2.2.1, H3.out.2.2.2.2.2.2⟩)
        clear hbx4 hp4 HB4 H3 HC
        go_wp2_with fail
        go_loopw [11, 10] (fun kv nv wr => ∃ (k : Nat) (A2 : Option Addr) (n2 cap3 : Nat) (es : List De), kv = .int .i64 (k : Int) ∧ nv = .slice A2 n2 cap3 ∧ k ≤ m ∧ n2 ≤ k ∧ Hid (es = (ds.take k).filter (fun x => !same d x)) ∧ Hid (Ob w wr S b4 bs4 ∧ KnI n (nxt ds d) b4 ∧ KnW w.heap.size wr A m cap2 ds bs4 ∧ Blk wr p9 (ofC d) 35 ∧ KnW w.heap.size wr A2 n2 cap3 es (bs4 ++ p9 :: (Value.slice A m cap2).ownBlock.toList))) (fun kv _ _ => m - (intOf kv).toNat)
        case atStart => exact ⟨0, none, 0, 0, [], rfl, rfl, by omega, by omega, Lib.hid (by simp), Lib.hid ⟨H4.out.1, H4.out.2.1, H4.out.2.2.1, H4.out.2.2.2.1, KnW.nil _ _ _⟩⟩
        case round =>
          obtain ⟨k, A2, n2, cap3, es, rfl, rfl, hk, hn2, HES, HR⟩ := hrel
          by_cases hkm : k < m
          · obtain ⟨gl, rfl, e, he, heok0, c0, c1, c2, c3⟩ := HR.out.2.2.1.cells hkm
            have heok := Lib.hid heok0
            have HE1 := Lib.hid he
            have dk : decide ((k : Int) < (m : Int)) = true := by simp; omega
            clear he heok0
            go_wp2_with fail
            refine (HOF.out e wr heok.out).mono ?_
            rintro e0 w5 ⟨rfl, hb5⟩
            have hbel : Below wr.heap.size wr (w5.alloc (.cells #[.int .u64 (ofHi e : Int), .int .u64 (ofLo e : Int), .int .u64 ((e.more : Int) + 1), .int .u64 0, .string ⟨#[110]⟩, .int .i64 0, .int .i64 (e.more : Int), .bool false, .slice none 0 0, .int .u64 0] 35)) := hb5.trans ((box_below _).mono hb5.size)
            have hbx := blk_new w5 #[.int .u64 (ofHi e : Int), .int .u64 (ofLo e : Int), .int .u64 ((e.more : Int) + 1), .int .u64 0, .string ⟨#[110]⟩, .int .i64 0, .int .i64 (e.more : Int), .bool false, .slice none 0 0, .int .u64 0] 35
            have H6 := Lib.hid (show Ob w (w5.alloc (.cells #[.int .u64 (ofHi e : Int), .int .u64 (ofLo e : Int), .int .u64 ((e.more : Int) + 1), .int .u64 0, .string ⟨#[110]⟩, .int .i64 0, .int .i64 (e.more : Int), .bool false, .slice none 0 0, .int .u64 0] 35)) S b4 bs4 ∧ KnI n (nxt ds d) b4 ∧ KnW w.heap.size (w5.alloc (.cells #[.int .u64 (ofHi e : Int), .int .u64 (ofLo e : Int), .int .u64 ((e.more : Int) + 1), .int .u64 0, .string ⟨#[110]⟩, .int .i64 0, .int .i64 (e.more : Int), .bool false, .slice none 0 0, .int .u64 0] 35)) (some ⟨gl, 0, none⟩) m cap2 ds bs4 ∧ Blk (w5.alloc (.cells #[.int .u64 (ofHi e : Int), .int .u64 (ofLo e : Int), .int .u64 ((e.more : Int) + 1), .int .u64 0, .string ⟨#[110]⟩, .int .i64 0, .int .i64 (e.more : Int), .bool false, .slice none 0 0, .int .u64 0] 35)) p9 (ofC d) 35 ∧ KnW w.heap.size (w5.alloc (.cells #[.int .u64 (ofHi e : Int), .int .u64 (ofLo e : Int), .int .u64 ((e.more : Int) + 1), .int .u64 0, .string ⟨#[110]⟩, .int .i64 0, .int .i64 (e.more : Int), .bool false, .slice none 0 0, .int .u64 0] 35)) A2 n2 cap3 es (bs4 ++ p9 :: (Value.slice (some ⟨gl, 0, none⟩) m cap2).ownBlock.toList) from
              ⟨HR.out.1.later hbel, HR.out.2.1, HR.out.2.2.1.later hbel, HR.out.2.2.2.1.later hbel, HR.out.2.2.2.2.later hbel⟩)
            have v0 : (w5.alloc (.cells #[.int .u64 (ofHi e : Int), .int .u64 (ofLo e : Int), .int .u64 ((e.more : Int) + 1), .int .u64 0, .string ⟨#[110]⟩, .int .i64 0, .int .i64 (e.more : Int), .bool false, .slice none 0 0, .int .u64 0] 35)).cell? ⟨w5.heap.size, 0, none⟩ = some (.int .u64 (ofHi e : Int)) := hbx.cell 0 rfl
            have v1 : (w5.alloc (.cells #[.int .u64 (ofHi e : Int), .int .u64 (ofLo e : Int), .int .u64 ((e.more : Int) + 1), .int .u64 0, .string ⟨#[110]⟩, .int .i64 0, .int .i64 (e.more : Int), .bool false, .slice none 0 0, .int .u64 0] 35)).cell? ⟨w5.heap.size, 1, none⟩ = some (.int .u64 (ofLo e : Int)) := hbx.cell 1 rfl
            have v2 : (w5.alloc (.cells #[.int .u64 (ofHi e : Int), .int .u64 (ofLo e : Int), .int .u64 ((e.more : Int) + 1), .int .u64 0, .string ⟨#[110]⟩, .int .i64 0, .int .i64 (e.more : Int), .bool false, .slice none 0 0, .int .u64 0] 35)).cell? ⟨p9, 0, none⟩ = some (.int .u64 (ofHi d : Int)) := H6.out.2.2.2.1.cell 0 rfl
            have v3 : (w5.alloc (.cells #[.int .u64 (ofHi e : Int), .int .u64 (ofLo e : Int), .int .u64 ((e.more : Int) + 1), .int .u64 0, .string ⟨#[110]⟩, .int .i64 0, .int .i64 (e.more : Int), .bool false, .slice none 0 0, .int .u64 0] 35)).cell? ⟨p9, 1, none⟩ = some (.int .u64 (ofLo d : Int)) := H6.out.2.2.2.1.cell 1 rfl
            have hgl : gl < wr.heap.size := (HR.out.2.2.1.row.lt gl rfl).2
            replace c0 := (hbel.cell (p := ⟨gl, k * 4, none⟩) hgl).trans c0
            replace c1 := (hbel.cell (p := ⟨gl, k * 4 + 1, none⟩) hgl).trans c1
            replace c2 := (hbel.cell (p := ⟨gl, k * 4 + 2, none⟩) hgl).trans c2
            replace c3 := (hbel.cell (p := ⟨gl, k * 4 + 3, none⟩) hgl).trans c3
            clear hbel hbx hb5 hgl HR
            obtain ⟨a, ha⟩ : ∃ a, ofHi e = a := ⟨_, rfl⟩
            obtain ⟨c, hc⟩ : ∃ a, ofLo e = a := ⟨_, rfl⟩
            simp only [ha, hc] at H6 v0 v1 c0 c1 c2 c3 v2 v3 ⊢
            have HS := Lib.hid (show ofHi e = a ∧ ofLo e = c from ⟨ha, hc⟩)
            clear ha hc
            by_cases e1 : a = ofHi d
            · subst e1
              by_cases e2 : c = ofLo d
              · subst e2
                have hsame : same d e = true := by simp [same, HS.out]
                go_wp2_with fail
                go_roundw
                case rel => exact ⟨k + 1, A2, n2, cap3, es, by simp, rfl, by omega, by omega, Lib.hid (by rw [HES.out, take_filter_no HE1.out hsame]), H6⟩
                case measure => simp [intOf]; omega
              · have t2 : ¬ (c : Int) = (ofLo d : Int) := by omega
                have hsame : same d e = false := by simp [same, HS.out, e2]
                clear e2

                obtain ⟨i0, hi0, hz0, hz1, hz2⟩ := info_parts info_de
                have hb6 := blk_new (w5.alloc (.cells #[.int .u64 (ofHi d : Int), .int .u64 (c : Int), .int .u64 ((e.more : Int) + 1), .int .u64 0, .string ⟨#[110]⟩, .int .i64 0, .int .i64 (e.more : Int), .bool false, .slice none 0 0, .int .u64 0] 35)) #[.int .u8 (e.what : Int), .int .u8 (e.after : Int), .int .u8 (e.trace : Int), .int .u8 (e.more : Int)] 54
                rw [World.size_alloc] at hb6
                have HB6 := Lib.hid (show ∀ j u, (deL e)[j]? = some u → ((w5.alloc (.cells #[.int .u64 (ofHi d : Int), .int .u64 (c : Int), .int .u64 ((e.more : Int) + 1), .int .u64 0, .string ⟨#[110]⟩, .int .i64 0, .int .i64 (e.more : Int), .bool false, .slice none 0 0, .int .u64 0] 35)).alloc (.cells #[.int .u8 (e.what : Int), .int .u8 (e.after : Int), .int .u8 (e.trace : Int), .int .u8 (e.more : Int)] 54)).cell? ⟨w5.heap.size + 1, j, none⟩ = some u from fun j u hj => hb6.cell j (by simpa [deL] using hj))
                have hrow6 := (H6.out.2.2.2.2.row.alloc (.cells #[.int .u8 (e.what : Int), .int .u8 (e.after : Int), .int .u8 (e.trace : Int), .int .u8 (e.more : Int)] 54))
                have hsz6 : w.heap.size ≤ ((w5.alloc (.cells #[.int .u64 (ofHi d : Int), .int .u64 (c : Int), .int .u64 ((e.more : Int) + 1), .int .u64 0, .string ⟨#[110]⟩, .int .i64 0, .int .i64 (e.more : Int), .bool false, .slice none 0 0, .int .u64 0] 35)).alloc (.cells #[.int .u8 (e.what : Int), .int .u8 (e.after : Int), .int .u8 (e.trace : Int), .int .u8 (e.more : Int)] 54)).heap.size := by rw [World.size_alloc]; exact Nat.le_succ_of_le H6.out.1.2.1.size
                clear hb6
                go_wp2_with (refine app_one Try.underlying46 hi0 hz0 hz1 hz2 rfl (by decide) rfl (.tmp 83) (.tmp 88) rfl w.heap.size A2 n2 cap3 (es.flatMap deL) (deL e) (w5.heap.size + 1) 1 rfl hrow6 rfl rfl HB6.out (deL_one e) (by omega) (by omega) hsz6 ?_)
                intro g cap5 W2 hown hgr hor
                have hpush := H6.out.2.2.2.2.push (o := .cells #[.int .u8 (e.what : Int), .int .u8 (e.after : Int), .int .u8 (e.trace : Int), .int .u8 (e.more : Int)] 54) heok.out (fun q hq => by
                  rcases List.mem_append.1 hq with h | h
                  · exact H6.out.1.1.lt q h
                  · rcases List.mem_cons.1 h with h | h
                    · rw [h]; exact H6.out.2.2.2.1.lt
                    · exact (H6.out.2.2.1.row.lt q (by simpa using h)).2) hown (by rw [World.size_alloc, World.size_alloc]; exact hor)
                have hmW : Mut (Value.slice A2 n2 cap3).ownBlock.toList (w5.alloc (.cells #[.int .u64 (ofHi d : Int), .int .u64 (c : Int), .int .u64 ((e.more : Int) + 1), .int .u64 0, .string ⟨#[110]⟩, .int .i64 0, .int .i64 (e.more : Int), .bool false, .slice none 0 0, .int .u64 0] 35)) W2 := (Mut.of_below (box_below (.cells #[.int .u8 (e.what : Int), .int .u8 (e.after : Int), .int .u8 (e.trace : Int), .int .u8 (e.more : Int)] 54))).trans (mut_grown hgr hrow6)
                have hfar := H6.out.2.2.2.2.far
                have hO2 := H6.out.1.beside hmW (fun q hq => by
                  have e2 : (Value.slice A2 n2 cap3).ownBlock = some q := by simpa using hq
                  exact ⟨fun h => hfar q e2 (List.mem_append_left _ h), (H6.out.2.2.2.2.row.lt q e2).1⟩)
                have hW2 := H6.out.2.2.1.mut hmW (fun q hq h => hfar q (by simpa using h) (List.mem_append_right _ (List.mem_cons_of_mem _ (by simpa using hq)))) (Ext.refl _ _)
                have hb2 : Blk W2 p9 (ofC d) 35 := H6.out.2.2.2.1.mut hmW fun h => hfar p9 (by simpa using h) (List.mem_append_right _ (by simp))
                have H7 := Lib.hid (show Ob w W2 S b4 bs4 ∧ KnI n (nxt ds d) b4 ∧ KnW w.heap.size W2 (some ⟨gl, 0, none⟩) m cap2 ds bs4 ∧ Blk W2 p9 (ofC d) 35 ∧ KnW w.heap.size W2 (some ⟨g, 0, none⟩) (n2 + 1) cap5 (es ++ [e]) (bs4 ++ p9 :: (Value.slice (some ⟨gl, 0, none⟩) m cap2).ownBlock.toList) from ⟨hO2, H6.out.2.1, hW2, hb2, hpush⟩)
                clear hO2 hW2 hb2 hpush hmW hfar hown hgr hor hrow6 hsz6
                try dsimp only [Act.put]
                go_wp2_with fail
                go_roundw
                case rel => exact ⟨k + 1, _, n2 + 1, cap5, es ++ [e], by simp, rfl, by omega, by omega, Lib.hid (by rw [HES.out, take_filter_yes HE1.out hsame]), H7⟩
                case measure => simp [intOf]; omega

            · have t1 : ¬ (a : Int) = (ofHi d : Int) := by omega
              have hsame : same d e = false := by simp [same, HS.out, e1]
              clear e1

              obtain ⟨i0, hi0, hz0, hz1, hz2⟩ := info_parts info_de
              have hb6 := blk_new (w5.alloc (.cells #[.int .u64 (a : Int), .int .u64 (c : Int), .int .u64 ((e.more : Int) + 1), .int .u64 0, .string ⟨#[110]⟩, .int .i64 0, .int .i64 (e.more : Int), .bool false, .slice none 0 0, .int .u64 0] 35)) #[.int .u8 (e.what : Int), .int .u8 (e.after : Int), .int .u8 (e.trace : Int), .int .u8 (e.more : Int)] 54
              rw [World.size_alloc] at hb6
              have HB6 := Lib.hid (show ∀ j u, (deL e)[j]? = some u → ((w5.alloc (.cells #[.int .u64 (a : Int), .int .u64 (c : Int), .int .u64 ((e.more : Int) + 1), .int .u64 0, .string ⟨#[110]⟩, .int .i64 0, .int .i64 (e.more : Int), .bool false, .slice none 0 0, .int .u64 0] 35)).alloc (.cells #[.int .u8 (e.what : Int), .int .u8 (e.after : Int), .int .u8 (e.trace : Int), .int .u8 (e.more : Int)] 54)).cell? ⟨w5.heap.size + 1, j, none⟩ = some u from fun j u hj => hb6.cell j (by simpa [deL] using hj))
              have hrow6 := (H6.out.2.2.2.2.row.alloc (.cells #[.int .u8 (e.what : Int), .int .u8 (e.after : Int), .int .u8 (e.trace : Int), .int .u8 (e.more : Int)] 54))
              have hsz6 : w.heap.size ≤ ((w5.alloc (.cells #[.int .u64 (a : Int), .int .u64 (c : Int), .int .u64 ((e.more : Int) + 1), .int .u64 0, .string ⟨#[110]⟩, .int .i64 0, .int .i64 (e.more : Int), .bool false, .slice none 0 0, .int .u64 0] 35)).alloc (.cells #[.int .u8 (e.what : Int), .int .u8 (e.after : Int), .int .u8 (e.trace : Int), .int .u8 (e.more : Int)] 54)).heap.size := by rw [World.size_alloc]; exact Nat.le_succ_of_le H6.out.1.2.1.size
              clear hb6
              go_wp2_with (refine app_one Try.underlying46 hi0 hz0 hz1 hz2 rfl (by decide) rfl (.tmp 83) (.tmp 88) rfl w.heap.size A2 n2 cap3 (es.flatMap deL) (deL e) (w5.heap.size + 1) 1 rfl hrow6 rfl rfl HB6.out (deL_one e) (by omega) (by omega) hsz6 ?_)
              intro g cap5 W2 hown hgr hor
              have hpush := H6.out.2.2.2.2.push (o := .cells #[.int .u8 (e.what : Int), .int .u8 (e.after : Int), .int .u8 (e.trace : Int), .int .u8 (e.more : Int)] 54) heok.out (fun q hq => by
                rcases List.mem_append.1 hq with h | h
                · exact H6.out.1.1.lt q h
                · rcases List.mem_cons.1 h with h | h
                  · rw [h]; exact H6.out.2.2.2.1.lt
                  · exact (H6.out.2.2.1.row.lt q (by simpa using h)).2) hown (by rw [World.size_alloc, World.size_alloc]; exact hor)
              have hmW : Mut (Value.slice A2 n2 cap3).ownBlock.toList (w5.alloc (.cells #[.int .u64 (a : Int), .int .u64 (c : Int), .int .u64 ((e.more : Int) + 1), .int .u64 0, .string ⟨#[110]⟩, .int .i64 0, .int .i64 (e.more : Int), .bool false, .slice none 0 0, .int .u64 0] 35)) W2 := (Mut.of_below (box_below (.cells #[.int .u8 (e.what : Int), .int .u8 (e.after : Int), .int .u8 (e.trace : Int), .int .u8 (e.more : Int)] 54))).trans (mut_grown hgr hrow6)
              have hfar := H6.out.2.2.2.2.far
              have hO2 := H6.out.1.beside hmW (fun q hq => by
                have e2 : (Value.slice A2 n2 cap3).ownBlock = some q := by simpa using hq
                exact ⟨fun h => hfar q e2 (List.mem_append_left _ h), (H6.out.2.2.2.2.row.lt q e2).1⟩)
              have hW2 := H6.out.2.2.1.mut hmW (fun q hq h => hfar q (by simpa using h) (List.mem_append_right _ (List.mem_cons_of_mem _ (by simpa using hq)))) (Ext.refl _ _)
              have hb2 : Blk W2 p9 (ofC d) 35 := H6.out.2.2.2.1.mut hmW fun h => hfar p9 (by simpa using h) (List.mem_append_right _ (by simp))
              have H7 := Lib.hid (show Ob w W2 S b4 bs4 ∧ KnI n (nxt ds d) b4 ∧ KnW w.heap.size W2 (some ⟨gl, 0, none⟩) m cap2 ds bs4 ∧ Blk W2 p9 (ofC d) 35 ∧ KnW w.heap.size W2 (some ⟨g, 0, none⟩) (n2 + 1) cap5 (es ++ [e]) (bs4 ++ p9 :: (Value.slice (some ⟨gl, 0, none⟩) m cap2).ownBlock.toList) from ⟨hO2, H6.out.2.1, hW2, hb2, hpush⟩)
              clear hO2 hW2 hb2 hpush hmW hfar hown hgr hor hrow6 hsz6
              try dsimp only [Act.put]
              go_wp2_with fail
              refine ⟨?_, ?measure⟩
              (repeat apply Exists.intro)
              refine ⟨?rel, rfl⟩
              case rel => exact ⟨k + 1, _, n2 + 1, cap5, es ++ [e], by simp, rfl, by omega, by omega, Lib.hid (by rw [HES.out, take_filter_yes HE1.out hsame]), H7⟩
              case measure => simp [intOf]; omega

          · obtain rfl : k = m := by omega
            have dk : decide ((k : Int) < (k : Int)) = false := by simp
            obtain ⟨q0, q1, q2, q3⟩ := HL.out wr HR.out.1.2.1
            have hes : es ++ [d] = nxt ds d := by
              rw [HES.out, List.take_of_length_le (by rw [HR.out.2.2.1.len]; exact Nat.le_refl _)]
              rfl
            obtain ⟨i0, hi0, hz0, hz1, hz2⟩ := info_parts info_de
            have hb6 := blk_new wr #[.int .u8 (d.what : Int), .int .u8 (d.after : Int), .int .u8 (d.trace : Int), .int .u8 (d.more : Int)] 54
            have HB6 := Lib.hid (show ∀ j u, (deL d)[j]? = some u → (wr.alloc (.cells #[.int .u8 (d.what : Int), .int .u8 (d.after : Int), .int .u8 (d.trace : Int), .int .u8 (d.more : Int)] 54)).cell? ⟨wr.heap.size, j, none⟩ = some u from fun j u hj => hb6.cell j (by simpa [deL] using hj))
            have hrow6 := (HR.out.2.2.2.2.row.alloc (.cells #[.int .u8 (d.what : Int), .int .u8 (d.after : Int), .int .u8 (d.trace : Int), .int .u8 (d.more : Int)] 54))
            have hsz6 : w.heap.size ≤ (wr.alloc (.cells #[.int .u8 (d.what : Int), .int .u8 (d.after : Int), .int .u8 (d.trace : Int), .int .u8 (d.more : Int)] 54)).heap.size := by rw [World.size_alloc]; exact Nat.le_succ_of_le HR.out.1.2.1.size
            have HES2 := Lib.hid hes
            clear hb6 hes
            go_wp2_with (refine app_one Try.underlying46 hi0 hz0 hz1 hz2 rfl (by decide) rfl (.tmp 90) (.tmp 95) rfl w.heap.size A2 n2 cap3 (es.flatMap deL) (deL d) wr.heap.size 1 rfl hrow6 rfl rfl HB6.out (deL_one d) (by omega) (by omega) hsz6 ?_)
            intro g cap5 W2 hown hgr hor
            have hpush := HR.out.2.2.2.2.push (o := .cells #[.int .u8 (d.what : Int), .int .u8 (d.after : Int), .int .u8 (d.trace : Int), .int .u8 (d.more : Int)] 54) HOK.out (fun q hq => by
              rcases List.mem_append.1 hq with h | h
              · exact HR.out.1.1.lt q h
              · rcases List.mem_cons.1 h with h | h
                · rw [h]; exact HR.out.2.2.2.1.lt
                · exact (HR.out.2.2.1.row.lt q (by simpa using h)).2) hown (by rw [World.size_alloc]; exact hor)
            have hmW : Mut (Value.slice A2 n2 cap3).ownBlock.toList wr W2 := (Mut.of_below (box_below (.cells #[.int .u8 (d.what : Int), .int .u8 (d.after : Int), .int .u8 (d.trace : Int), .int .u8 (d.more : Int)] 54))).trans (mut_grown hgr hrow6)
            have hfar := HR.out.2.2.2.2.far
            have hO2 := HR.out.1.beside hmW (fun q hq => by
              have e2 : (Value.slice A2 n2 cap3).ownBlock = some q := by simpa using hq
              exact ⟨fun h => hfar q e2 (List.mem_append_left _ h), (HR.out.2.2.2.2.row.lt q e2).1⟩)
            rw [HES2.out] at hpush
            have H7 := Lib.hid (show Ob w W2 S b4 bs4 ∧ KnI n (nxt ds d) b4 ∧ KnW w.heap.size W2 (some ⟨g, 0, none⟩) (n2 + 1) cap5 (nxt ds d) bs4 from ⟨hO2, HR.out.2.1, hpush.row, hpush.len, hpush.ok, fun g hg h => hpush.far g hg (List.mem_append_left _ h)⟩)
            clear hO2 hpush hmW hfar hown hgr hor hrow6 hsz6 q0 q1 q2 q3
            try dsimp only [Act.put]
            go_wp2_with fail
            go_roundw
            case rel => exact ⟨i + 1, _, n2 + 1, cap5, nxt ds d, bs4, b4, by simp, rfl, by omega, by omega, H7⟩
            case measure => simp [intOf]; omega
      · obtain rfl : i = N := by omega
        have di : decide ((i : Int) < (i : Int)) = false := by simp
        have hKN : ∀ W j e, Ob w W S b1 bs1 → ds[j]? = some e → Calls Try.prog 23 #[.pointer (some ⟨S, 0, none⟩), .int .u64 (ofHi e : Int), .int .u64 (ofLo e : Int)] W fun e' w' => ∃ kb, e' = .returned (.tuple #[.bool kb, .bool (decide (m - n ≤ j))]) ∧ W = w' ∧ (m - n ≤ j → kb = ((e.more : Int) % 2 == 0)) := fun W j e h he => by
          obtain ⟨k1, k2⟩ := kept_last HB.out.2.1 HB.out.2.2.len he
          have hk := kept_any (ofHi e) (ofLo e) W h.1 (ofU e).1 (ofU e).2
          rw [k1] at hk
          refine hk.mono fun e' w' ⟨x, y⟩ => ⟨_, x, y, fun hc => ?_⟩
          rw [k2 hc]
          unfold kpOf
          by_cases e0 : e.more % 2 = 0
          · rw [show (e.more % 2 == 0) = true by simpa using e0]; simp; omega
          · rw [show (e.more % 2 == 0) = false by simpa using e0]; simp; omega
        have HKN := Lib.hid hKN
        clear hKN
        go_wp2_with fail
        go_loopw [13] (fun jv wx => ∃ j : Nat, jv = .int .i64 (j : Int) ∧ j ≤ m ∧ Hid (Ob w wx S b1 bs1 ∧ KnW w.heap.size wx A m cap2 ds bs1)) (fun jv _ => m - (intOf jv).toNat)
        case atStart => exact ⟨0, rfl, by omega, Lib.hid ⟨HB.out.1, HB.out.2.2⟩⟩
        case round =>
          clear HB
          obtain ⟨j, rfl, hj, HB⟩ := hrel
          by_cases hjm : j < m
          · have dj : decide ((j : Int) < (m : Int)) = true := by simp; omega
            obtain ⟨gl, rfl, e, he, heok0, c0, c1, c2, c3⟩ := HB.out.2.cells hjm
            have heok := Lib.hid heok0
            clear heok0
            go_wp2_with fail
            refine (HOF.out e wr heok.out).mono ?_
            rintro e0 w5 ⟨rfl, hb5⟩
            have hbel : Below wr.heap.size wr (w5.alloc (.cells #[.int .u64 (ofHi e : Int), .int .u64 (ofLo e : Int), .int .u64 ((e.more : Int) + 1), .int .u64 0, .string ⟨#[110]⟩, .int .i64 0, .int .i64 (e.more : Int), .bool false, .slice none 0 0, .int .u64 0] 35)) := hb5.trans ((box_below _).mono hb5.size)
            have hbx := blk_new w5 #[.int .u64 (ofHi e : Int), .int .u64 (ofLo e : Int), .int .u64 ((e.more : Int) + 1), .int .u64 0, .string ⟨#[110]⟩, .int .i64 0, .int .i64 (e.more : Int), .bool false, .slice none 0 0, .int .u64 0] 35
            have v0 : (w5.alloc (.cells #[.int .u64 (ofHi e : Int), .int .u64 (ofLo e : Int), .int .u64 ((e.more : Int) + 1), .int .u64 0, .string ⟨#[110]⟩, .int .i64 0, .int .i64 (e.more : Int), .bool false, .slice none 0 0, .int .u64 0] 35)).cell? ⟨w5.heap.size, 0, none⟩ = some (.int .u64 (ofHi e : Int)) := hbx.cell 0 rfl
            have v1 : (w5.alloc (.cells #[.int .u64 (ofHi e : Int), .int .u64 (ofLo e : Int), .int .u64 ((e.more : Int) + 1), .int .u64 0, .string ⟨#[110]⟩, .int .i64 0, .int .i64 (e.more : Int), .bool false, .slice none 0 0, .int .u64 0] 35)).cell? ⟨w5.heap.size, 1, none⟩ = some (.int .u64 (ofLo e : Int)) := hbx.cell 1 rfl
            have hgl : gl < wr.heap.size := (HB.out.2.row.lt gl rfl).2
            have c3' : (w5.alloc (.cells #[.int .u64 (ofHi e : Int), .int .u64 (ofLo e : Int), .int .u64 ((e.more : Int) + 1), .int .u64 0, .string ⟨#[110]⟩, .int .i64 0, .int .i64 (e.more : Int), .bool false, .slice none 0 0, .int .u64 0] 35)).cell? ⟨gl, j * 4 + 3, none⟩ = some (.int .u8 (e.more : Int)) := (hbel.cell (p := ⟨gl, j * 4 + 3, none⟩) hgl).trans c3
            have H6 := Lib.hid (show Ob w (w5.alloc (.cells #[.int .u64 (ofHi e : Int), .int .u64 (ofLo e : Int), .int .u64 ((e.more : Int) + 1), .int .u64 0, .string ⟨#[110]⟩, .int .i64 0, .int .i64 (e.more : Int), .bool false, .slice none 0 0, .int .u64 0] 35)) S b1 bs1 ∧ KnW w.heap.size (w5.alloc (.cells #[.int .u64 (ofHi e : Int), .int .u64 (ofLo e : Int), .int .u64 ((e.more : Int) + 1), .int .u64 0, .string ⟨#[110]⟩, .int .i64 0, .int .i64 (e.more : Int), .bool false, .slice none 0 0, .int .u64 0] 35)) (some ⟨gl, 0, none⟩) m cap2 ds bs1 from ⟨HB.out.1.later hbel, HB.out.2.later hbel⟩)
            have HC := Lib.hid (HKN.out _ j e H6.out.1 he)
            clear hbel hbx hb5 hgl c0 c1 c2 c3 HB he
            go_wp2_with fail
            refine HC.out.mono ?_
            rintro e1 w6 ⟨kb, rfl, rfl, hkb⟩
            obtain ⟨z, hz⟩ : ∃ z : Int, (m : Int) - (n : Int) = z := ⟨_, rfl⟩
            by_cases hc : m - n ≤ j
            · have t1 : decide (m - n ≤ j) = true := by simpa using hc
              have t2 : decide (z ≤ (j : Int)) = true := by simp; omega
              have hkb2 := hkb hc
              subst hkb2
              clear hkb
              go_wp2_with fail
              go_roundw
              case rel => exact ⟨j + 1, by simp, by omega, H6⟩
              case measure => simp [intOf]; omega
            · have t1 : decide (m - n ≤ j) = false := by simpa using hc
              have t2 : decide (z ≤ (j : Int)) = false := by simp; omega
              clear hkb
              go_wp2_with fail
              go_roundw
              case rel => exact ⟨j + 1, by simp, by omega, H6⟩
              case measure => simp [intOf]; omega
          · obtain rfl : j = m := by omega
            have dj : decide ((j : Int) < (j : Int)) = false := by simp
            have HK := Lib.hid (own_known HB.out.1)
            go_wp2_with fail
            refine HK.out.mono ?_
            rintro e w2 ⟨rfl, HO2, _⟩
            have HE := Lib.hid HO2.out.2.1
            go_wp2_with fail
            go_ret
            exact ⟨rfl, HE.out⟩
namespace TailKnows
set_option linter.unusedSimpArgs false in
set_option maxRecDepth 100000 in
theorem lifted (os : Os) (started : os.Started) (H : Type) (enc : TypeId × Value → H) :
    ReturnsInHanded {} Try.checked os 8 .any (Rows.tailKnowsSpec.pre6 enc Try.prog Try.f8 Rows.tailKnowsRow.domain false) (Rows.tailKnowsSpec.post enc Try.prog Try.f8 false true false false) := by
  refine returnsInHanded_of_change (C := Try.checked) own started (by kernel_rfl) Try.func8
    (ChangeSpec.witness6 (enc := enc) (C := Try.checked) false ⟨#[], #[.int .u8 0, .slice none 0 0], []⟩ 8 (by kernel_rfl) (by kernel_rfl) (by kernel_rfl) (by kernel_rfl)) ?_
  intro W base args ds gs before hval0 hW _ _
  have hval : ∀ (j : Nat) t v, Try.f8.params[j]? = some t → args[j]? = some v → Value.okWide Try.prog W .any base t v := hval0
  have hW' := hW
  obtain ⟨p, q, hA0, hV, rfl, _, _⟩ := hW
  have hA : DataW.TrodAll enc Try.prog W 0 (fun _ => true) true Try.f8.params.toList args.toList ds p := hA0
  rw [Try.params8] at hA hval
  obtain ⟨v0, vs0, d0, ds0, p0, q0, hargs, rfl, rfl, h0, r0⟩ := trodAll_cons hA
  obtain ⟨v1, vs1, d1, ds1, p1, q1, rfl, rfl, rfl, h1, r1⟩ := trodAll_cons r0
  obtain ⟨rfl, rfl, rfl⟩ := trodAll_nil r1
  obtain rfl : args = #[v0, v1] := by cases args; simp_all
  obtain ⟨rfl, rfl⟩ := trodVars_none hV
  obtain ⟨a0, rfl, rfl, rfl, w0⟩ := open_int Try.underlying5 (hval 0 5 v0 rfl rfl) h0
  have k0 := wf_u8 w0
  obtain ⟨n0, rfl⟩ : ∃ u : UInt8, a0 = (u.toNat : Int) := ⟨UInt8.ofNat a0.toNat, by simp; omega⟩
  obtain ⟨A1, cs1, cap1, rfl, l1, m1, b1⟩ := arg_deeds (hval 1 46 v1 rfl rfl) h1
  clear hA0 hval0
  simp only [List.append_nil] at hW'
  refine (tailKnows_walk n0 A1 cs1 cap1 W b1 l1).mono fun e W' ⟨he, hg⟩ => ?_
  subst he
  exact ⟨_, rfl, true_last hW' rfl (by kernel_rfl) Try.underlying4 rfl rfl rfl (of_decide_eq_true (by kernel_rfl)) hg⟩

/-- **TailKnows, at every input.** -/
theorem proved : Rows.TailKnowsSaid :=
  OpenClaim.holds_of_wide 8 Try.f8 rfl rfl rfl rfl rfl rfl rfl ⟨rfl, rfl, rfl, rfl, rfl⟩ rfl rfl rfl rfl rfl (by kernel_rfl) Try.func8 (by kernel_rfl)
    (of_decide_eq_true (by kernel_rfl)) (by unfold Func.isWrapper; first | (rw [if_pos (by decide +kernel)]; kernel_rfl) | (rw [if_neg (by decide +kernel)]; exact ⟨rfl, rfl⟩))
    (fun os started H enc _ => lifted os started H enc)
end TailKnows

end Go.Proofs.Ytbmhhidlmdhacaa
