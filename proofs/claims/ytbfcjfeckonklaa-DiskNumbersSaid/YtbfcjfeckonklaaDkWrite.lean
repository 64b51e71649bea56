/-
  What a disk's Write does.
-/
import Derived.Test.YtbfcjfeckonklaaDkRead
namespace Go.Proofs.Ytbfcjfeckonklaa
open Go.RowKit Go.Maps Go.Proofs.DiskMath

/-- Bytes that are appended to a file. -/
theorem Dk.app {w w1 : World} {S M : Nat} {A B : List Fe} {x : Fe} {s : List Fi} (hk : Dk w S M (A ++ x :: B) s) (ys : List UInt8) {A' : Option Addr} {k c' : Nat} (ho : w1.ownsRow 0 5 1 (.slice A' k c') (x.f.bs ++ ys).length ((x.f.bs ++ ys).map b8)) (hg : w.grownBy w1 x.v.ownBlock)
    (hor : (Value.slice A' k c').ownBlock = x.v.ownBlock ∨ (Value.slice A' k c').ownBlock = some w.heap.size) :
    w1.cell? ⟨x.p, 0, none⟩ = some x.v ∧ w1.frozen? ⟨x.p, 0, none⟩ = false ∧ DdTo w (core S M (A ++ x :: B)) S (A.map (·.f) ++ ⟨x.f.no, x.f.bs ++ ys, x.f.sure⟩ :: B.map (·.f)) (w1.setCell ⟨x.p, 0, none⟩ (.slice A' k c')) := by
  have hx := hk.each x (by simp)
  have hap := hx.apart
  have hpl := hx.blk.lt
  have hm1 : Mut x.v.ownBlock.toList w w1 := ⟨hg.os, hg.tape, hg.output, hg.size, fun k hk hn => hg.block k hk fun e => hn (by rw [← e]; simp)⟩
  have hb1 : Blk w1 x.p #[x.v, .int .i64 (x.f.sure : Int)] 65 := hx.blk.mut hm1 fun e => hap _ (by simpa using e) rfl
  have hne : ∀ g, (Value.slice A' k c').ownBlock = some g → g ≠ x.p := fun g hg2 e => by
    rcases hor with h | h
    · exact hap g (by rw [← h]; exact hg2) e
    · rw [h] at hg2
      injection hg2 with hg2
      omega
  have hm2 : Mut x.own w (w1.setCell ⟨x.p, 0, none⟩ (.slice A' k c')) := (hm1.wider (fun k hk => by simp only [Fe.own, List.mem_cons]; exact .inr hk)).setCell (by simp [Fe.own]) _
  have hf : Fok (w1.setCell ⟨x.p, 0, none⟩ (.slice A' k c')) ⟨⟨x.f.no, x.f.bs ++ ys, x.f.sure⟩, x.p, .slice A' k c'⟩ := by
    refine ⟨hb1.set 0 _, row_same ho fun g hg2 => ?_⟩
    exact Below.heap_setCell _ _ _ _ (hne g hg2)
  have hv : ∀ g, (Value.slice A' k c').ownBlock = some g → (Value.slice A' k c').ownBlock = x.v.ownBlock ∨ w.heap.size ≤ g := fun g hg2 => hor.imp id fun h => by
    rw [h] at hg2
    injection hg2 with hg2
    omega
  have hs : x.f.sure ≤ (x.f.bs ++ ys).length := by
    have := (hk.iv.ok x.f (by rw [← hk.fl]; simp)).2
    simp; omega
  have hk2 := hk.upd hm2 ⟨⟨x.f.no, x.f.bs ++ ys, x.f.sure⟩, x.p, .slice A' k c'⟩ rfl rfl hf hv hs
  exact ⟨hb1.cell 0 rfl, hb1.free 0, _, ⟨M, _, hk2, rfl⟩, hm2.wider core_in, core_mid rfl hv⟩
theorem DdTo.trans {a b c : World} {bs cs : List Nat} {S : Nat} {t : List Fi} (h1 : Mut bs a b) (h2 : Ext a bs cs) (h3 : DdTo b cs S t c) : DdTo a bs S t c := by
  obtain ⟨ds, k1, k2, k3⟩ := h3
  exact ⟨ds, k1, h1.onto k2 h2, h2.trans k3 h1.size⟩

set_option maxRecDepth 100000 in
set_option maxHeartbeats 1000000 in
theorem write_no {S : Nat} (no : Int) (v : Value) (w : World) (h1 : no < 0 ∨ 1099511627776 < no) :
    Calls Try.prog 11 #[.pointer (some ⟨S, 0, none⟩), .int .i64 no, v] w fun e w' => e = .returned (.int .u16 1) ∧ w = w' := by
  by_cases h2 : no < 0
  · have t1 : decide (no < 0) = true := by simpa using h2
    clear h1 h2
    go_enter Try.func11, Try.ntmps11
    go_wp2_with fail
    go_ret
    exact ⟨rfl, rfl⟩
  · have t1 : decide (no < 0) = false := by simpa using h2
    have t2 : decide ((1099511627776 : Int) < no) = true := by simp; omega
    clear h1 h2
    go_enter Try.func11, Try.ntmps11
    go_wp2_with fail
    go_ret
    exact ⟨rfl, rfl⟩

set_option linter.unusedSimpArgs false in
set_option maxRecDepth 100000 in
set_option maxHeartbeats 1000000 in
theorem write_any {bs : List Nat} {S : Nat} {s : List Fi} (no : Nat) (A1 : Option Addr) (m c1 : Nat) (ys : List UInt8) (w : World) (h : Dd w bs S s) (h2 : no ≤ 1099511627776) (hm : ys.length = m) (hH : Holds8 w.heap.size w A1 ys) (hA : A1 = none → c1 = 0) (hd : 0 < ys.length → ∀ g, A1.map (·.block) = some g → g ∉ bs)
    (N : Nat) (hN : Bd N s) (hN2 : N + m ≤ 100000) :
    Calls Try.prog 11 #[.pointer (some ⟨S, 0, none⟩), .int .i64 (no : Int), .slice A1 m c1] w fun e w' => e = .returned (.int .u16 0) ∧ DdTo w bs S (write s no ys) w' := by
  obtain ⟨M, F, hk, hbs⟩ := h
  have c0 : w.cell? ⟨S, 0, none⟩ = some (.map (some M)) := hk.blk.cell 0 rfl
  have t1 : decide ((no : Int) < 0) = false := by simp
  have t2 : decide ((1099511627776 : Int) < (no : Int)) = false := by simp; omega
  have t2n : decide (1099511627776 < no) = false := by simp; omega
  rcases hk.find (no := (no : Int)) (by omega) (by omega) with ⟨e, hl⟩ | ⟨A, x, B, rfl, e1, e, hl⟩
  · have l0 := hl 0
    change Sem.run _ _ w = .ok _ w at l0
    obtain ⟨n0, hn0⟩ : ∃ n0, w.heap.size = n0 := ⟨_, rfl⟩
    have hB : Below w.heap.size w (w.alloc (.cells #[.slice none 0 0, .int .i64 0] 65)) := box_below _
    have hbk := blk_new w #[.slice none 0 0, .int .i64 0] 65
    have c2 : (w.alloc (.cells #[.slice none 0 0, .int .i64 0] 65)).cell? ⟨S, 0, none⟩ = some (.map (some M)) := (hk.blk.later hB).cell 0 rfl
    have HM := Lib.hid (hk.map.same (hB.block M hk.map.lt))
    have HK := Lib.hid (key_int (a := (no : Int)) (by omega) (by omega))
    have HNE := Lib.hid (show (∀ p ∈ fE F, p.1 ≠ kl (no : Int)) ∧ (fE F).length ≤ 100000 from by
      refine ⟨fun p hp he => ?_, ?_⟩
      · obtain ⟨x, hx, rfl⟩ := List.mem_map.1 hp
        refine seek_none e x.f (by rw [← hk.fl]; exact List.mem_map.2 ⟨x, hx, rfl⟩) ?_
        by_cases e2 : (x.f.no : Int) = (no : Int)
        · exact e2
        · exact absurd he (kl_ne e2)
      · have h5 := hN.1
        rw [← hk.fl] at h5
        simp [fE] at h5 ⊢
        omega)
    have HX := Lib.hid (show ∀ w2, Am w2 3 ptrElem M (fE F ++ [(kl (no : Int), .pointer (some ⟨n0, 0, none⟩))]) → (w.alloc (.cells #[.slice none 0 0, .int .i64 0] 65)).grownBy w2 (some M) →
        w2.cell? ⟨n0, 0, none⟩ = some (.slice none 0 0) ∧ Holds8 w2.heap.size w2 A1 ys ∧ ∀ A' k c' w3, w3.ownsRow 0 5 1 (.slice A' k c') ([] ++ ys).length (([] ++ ys).map b8) → w2.grownBy w3 (Value.slice none 0 0).ownBlock → ((Value.slice A' k c').ownBlock = (Value.slice none 0 0).ownBlock ∨ (Value.slice A' k c').ownBlock = some w2.heap.size) →
          w3.cell? ⟨n0, 0, none⟩ = some (.slice none 0 0) ∧ w3.frozen? ⟨n0, 0, none⟩ = false ∧ DdTo w bs S (write s no ys) (w3.setCell ⟨n0, 0, none⟩ (.slice A' k c')) from fun w2 ha hg => by
      have hm1 : Mut [M] w w2 := (Mut.of_below hB).grown hg (by simp)
      have hMlt := hk.map.lt
      have hblk2 : Blk w2 n0 #[.slice none 0 0, .int .i64 0] 65 := by
        rw [← hn0]
        refine hbk.same (hg.block _ (by simp) fun e => ?_)
        injection e with e
        omega
      have hx : Fok w2 ⟨⟨no, [], 0⟩, n0, .slice none 0 0⟩ := ⟨hblk2, ⟨rfl, .inl ⟨rfl, rfl⟩⟩⟩
      obtain ⟨A, B, rfl, hk2⟩ := hk.add hm1 ⟨⟨no, [], 0⟩, n0, .slice none 0 0⟩ (by simp [hn0]) (by simp [Value.ownBlock]) hx ha e h2 (Nat.le_refl _)
      have hlt1 : n0 < w2.heap.size := hblk2.lt
      refine ⟨hblk2.cell 0 rfl, fun h0 => ?_, fun A' k c' w3 k1 k2 k3 => ?_⟩
      · obtain ⟨b, off, e3, hb, hc⟩ := hH h0
        refine ⟨b, off, e3, by have := hm1.size; omega, fun j hj => ?_⟩
        rw [← hc j hj]
        refine World.cell?_of_block (hm1.block b hb ?_)
        have := hd h0 b (by rw [e3]; rfl)
        rw [hbs] at this
        simp [core] at this ⊢
        exact this.2.1
      · obtain ⟨d1, d2, d3⟩ := hk2.app ys k1 k2 k3
        refine ⟨d1, d2, DdTo.trans (cs := core S M (A ++ ⟨⟨no, [], 0⟩, n0, .slice none 0 0⟩ :: B)) (hm1.wider (by simp [hbs, core])) ?_ ?_⟩
        · subst hbs
          intro k hk
          simp only [core, List.mem_cons, List.flatMap_append, List.flatMap_cons, List.mem_append] at hk ⊢
          rcases hk with e | e | e | e | e
          · exact .inl (.inl e)
          · exact .inl (.inr (.inl e))
          · exact .inl (.inr (.inr (.inl e)))
          · simp [Fe.own, Value.ownBlock] at e
            exact .inr (by omega)
          · exact .inl (.inr (.inr (.inr e)))
        · have e4 : write s no ys = A.map (·.f) ++ ⟨no, [] ++ ys, 0⟩ :: B.map (·.f) := by
            have hfl2 := hk2.fl
            have hi2 := hk2.iv
            rw [write_new e]
            obtain ⟨a, b, q1, q2, q3, q4⟩ := ins_new ⟨no, ys, 0⟩ hk.iv (fun g hg h2 => seek_none e g hg (by simp at h2; omega))
            rw [q2]
            obtain ⟨a', b', r1, r2, r3, r4⟩ := ins_new ⟨no, [], 0⟩ hk.iv (fun g hg h2 => seek_none e g hg (by simp at h2; omega))
            have hi3 : Iv (A.map (·.f) ++ (⟨no, [], 0⟩ : Fi) :: B.map (·.f)) := by
              rw [← hfl2] at hi2
              simpa using hi2
            have hAB : s = A.map (·.f) ++ B.map (·.f) := by rw [← hk.fl]; simp
            have h6 := ins_mid hi3 (show (⟨no, ys, 0⟩ : Fi).no = (⟨no, [], 0⟩ : Fi).no from rfl)
            have h7 : ins ⟨no, ys, 0⟩ s = A.map (·.f) ++ ⟨no, ys, 0⟩ :: B.map (·.f) := by
              rw [hAB]
              have hp := hi3.parts
              exact ins_between (fun g hg => hp.1 g hg) (fun g hg => hp.2 g hg)
            rw [← q2, h7]
            simp
          rw [e4]
          exact d3)
    rw [hn0] at hbk
    have HN := Lib.hid (show ys.length = m ∧ m ≤ 2000000 from ⟨hm, by omega⟩)
    clear hk hl e hbs hH hd hN hN2 hB h2 hbk hm
    go_enter Try.func11, Try.ntmps11
    go_wp2_with (refine wpList_am_new rfl _ _ _ rfl law_int Try.underlying59 rfl HM.out HNE.out.1 HNE.out.2 rfl rfl HK.out (kl_key _) rfl ?_)
    intro w2 ha hg
    obtain ⟨q1, q2, q3⟩ := HX.out w2 ha hg
    have HQ := Lib.hid (And.intro q2 q3)
    clear ha hg HX HM q2 q3
    go_wp2_with (refine app_u8s rfl _ _ rfl (.slice none 0 0) [] ys m (by simpa using HN.out.1) rfl ⟨rfl, .inl ⟨rfl, rfl⟩⟩ A1 m c1 rfl HN.out.1 HQ.out.1 hA HN.out.2 ?_)
    intro A' c' w3 k1 k2 k3
    obtain ⟨r1, r2, r3⟩ := HQ.out.2 A' m c' w3 k1 k2 k3
    have HR := Lib.hid r3
    clear k1 k2 k3 HQ r3 q1
    go_wp2_with fail
    go_ret
    exact ⟨rfl, HR.out⟩
  · have l0 := hl 0
    change Sem.run _ _ w = .ok _ w at l0
    have hx := hk.each x (by simp)
    obtain ⟨A2, cap, hv, _, _, _⟩ := hx.len
    have hlen : x.f.bs.length ≤ N := hN.2 x.f (by rw [← hk.fl]; simp)
    have c2 : w.cell? ⟨x.p, 0, none⟩ = some x.v := hx.blk.cell 0 rfl
    rw [hv] at c2
    have HW := Lib.hid (hv ▸ hx.row)
    have HN := Lib.hid (show ys.length = m ∧ x.f.bs.length + m ≤ 2000000 from ⟨hm, by omega⟩)
    have HX := Lib.hid (show ∀ A' k c' w3, w3.ownsRow 0 5 1 (.slice A' k c') (x.f.bs ++ ys).length ((x.f.bs ++ ys).map b8) → w.grownBy w3 (Value.slice A2 x.f.bs.length cap).ownBlock → ((Value.slice A' k c').ownBlock = (Value.slice A2 x.f.bs.length cap).ownBlock ∨ (Value.slice A' k c').ownBlock = some w.heap.size) →
          w3.cell? ⟨x.p, 0, none⟩ = some (.slice A2 x.f.bs.length cap) ∧ w3.frozen? ⟨x.p, 0, none⟩ = false ∧ DdTo w bs S (write s no ys) (w3.setCell ⟨x.p, 0, none⟩ (.slice A' k c')) from fun A' k c' w3 k1 k2 k3 => by
      rw [← hv] at k2 k3 ⊢
      obtain ⟨d1, d2, d3⟩ := hk.app ys k1 k2 k3
      have hiv := hk.iv
      rw [← hk.fl] at hiv
      simp only [List.map_append, List.map_cons] at hiv
      have e4 : write s no ys = A.map (·.f) ++ ⟨x.f.no, x.f.bs ++ ys, x.f.sure⟩ :: B.map (·.f) := by
        obtain rfl : x.f.no = no := by omega
        rw [← hk.fl]
        simp only [List.map_append, List.map_cons]
        exact write_old hiv ys
      rw [e4, hbs]
      exact ⟨d1, d2, d3⟩)
    have HH := Lib.hid hH
    obtain ⟨⟨fno, fbs, fsure⟩, p, v⟩ := x
    dsimp only at *
    obtain ⟨n, hn⟩ : ∃ n, fbs.length = n := ⟨_, rfl⟩
    have HFN := Lib.hid hn
    rw [hn] at c2 HN HX hlen
    clear hk hl e e1 hbs hx hv hH hd hN hN2 h2 hm hn hlen
    go_enter Try.func11, Try.ntmps11
    go_wp2_with (refine app_u8s rfl _ _ rfl (.slice A2 n cap) fbs ys (n + m) (by rw [HFN.out, HN.out.1]) rfl (HFN.out ▸ HW.out) A1 m c1 rfl HN.out.1 HH.out hA HN.out.2 ?_)
    intro A' c' w3 k1 k2 k3
    obtain ⟨r1, r2, r3⟩ := HX.out A' (n + m) c' w3 (by simpa using k1) k2 k3
    have HR := Lib.hid r3
    clear k1 k2 k3 HX r3
    go_wp2_with fail
    go_ret
    exact ⟨rfl, HR.out⟩
end Go.Proofs.Ytbfcjfeckonklaa
