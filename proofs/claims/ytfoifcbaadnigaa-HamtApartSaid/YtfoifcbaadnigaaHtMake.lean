/-
  Contract: a new node of a maker (making.Make).
-/
import Derived.Test.YtfoifcbaadnigaaHtMaker
set_option linter.unusedVariables false
set_option linter.unusedSimpArgs false
namespace Go.Proofs.Ytfoifcbaadnigaa
open Go.RowKit

/-- Behind a Make: no node is free, and nothing is made, or the node is there. -/
def NewOut (b : Nat) (ns : List Nd) (fs : List Int) (err : Int) (x : Nd) (w : World) (e : Ending) (w' : World) : Prop :=
  ∃ ns' fs' err' z, e = .returned (.int .u64 z) ∧ Mk w' b ns' fs' err' ∧ Only b w w' ∧ Gr ns fs ns' fs' 1 ∧ RefMay z ∧ U z ∧ (err' = 0 → err = 0 ∧ ∃ p g, Got ns' z p (x.gen g)) ∧ (err' = 2 → err = 2 ∨ fs.length < 1) ∧ (z = 0 ∨ ∃ p y, Got ns' z p y) ∧ FarTo b w w'

set_option maxHeartbeats 6400000 in
set_option maxRecDepth 100000 in
theorem htMake_is (b : Nat) (ns : List Nd) (fs : List Int) (err : Int) (x : Nd) (w : World) (h : Mk w b ns fs err) (hx : x.Makes) (hxo : x.Ok) :
    Calls Try.prog 25 #[.pointer (some ⟨b, 0, none⟩), .agg x.arr] w (NewOut b ns fs err x w) := by
  obtain ⟨A, n, c, B, m, d, hb, ha, hA, hB⟩ := h.box
  have hl := h.len
  have hln := ha.len
  have hlf := ha.lenF
  obtain ⟨w1, hw1⟩ : ∃ w1, w1 = w.alloc (.cells x.arr 68) := ⟨_, rfl⟩
  obtain ⟨B1, hx1, hs1⟩ := box_made hw1
  have c0 : w1.cell? ⟨b, 0, none⟩ = some (.slice A n c) := (hb.to hx1).cell 0
  have c1 : w1.cell? ⟨b, 1, none⟩ = some (.slice B m d) := (hb.to hx1).cell 1
  have HN1 := Lib.hid B1
  have HMay := Lib.hid h.may
  have HErr := Lib.hid h.err
  have hmk := Lib.hid hx
  have hok := Lib.hid hxo
  have HA := Lib.hid ha
  have HB := Lib.hid hb
  have hn1 : n ≤ 1000 := by omega
  have hAB := Lib.hid (And.intro hA hB)
  have HLT := Lib.hid hb.lt
  have HLF := Lib.hid hlf
  have HLN := Lib.hid hln
  have X1 := Lib.hid hx1
  have H1 := Lib.hid hw1
  have k0 : w1.cell? ⟨w.heap.size, 0, none⟩ = some (.int .i64 x.k) := B1.cell 0
  have k1 : w1.cell? ⟨w.heap.size, 1, none⟩ = some (.int .i64 x.g) := B1.cell 1
  have k2 : w1.cell? ⟨w.heap.size, 2, none⟩ = some (.int .i64 x.n) := B1.cell 2
  have k3 : w1.cell? ⟨w.heap.size, 3, none⟩ = some (.int .i64 x.v) := B1.cell 3
  have k4 : w1.cell? ⟨w.heap.size, 4, none⟩ = some (.int .i64 x.s) := B1.cell 4
  have k5 : w1.cell? ⟨w.heap.size, 5, none⟩ = some (.int .u64 x.r0) := B1.cell 5
  have k6 : w1.cell? ⟨w.heap.size, 6, none⟩ = some (.int .u64 x.r1) := B1.cell 6
  have k7 : w1.cell? ⟨w.heap.size, 7, none⟩ = some (.int .u64 x.r2) := B1.cell 7
  have k8 : w1.cell? ⟨w.heap.size, 8, none⟩ = some (.int .u64 x.r3) := B1.cell 8
  have k9 : w1.cell? ⟨w.heap.size, 9, none⟩ = some (.int .u64 x.r4) := B1.cell 9
  have k10 : w1.cell? ⟨w.heap.size, 10, none⟩ = some (.int .u64 x.r5) := B1.cell 10
  have k11 : w1.cell? ⟨w.heap.size, 11, none⟩ = some (.int .u64 x.r6) := B1.cell 11
  have k12 : w1.cell? ⟨w.heap.size, 12, none⟩ = some (.int .u64 x.r7) := B1.cell 12
  have k13 : w1.cell? ⟨w.heap.size, 13, none⟩ = some (.int .u64 x.r8) := B1.cell 13
  have k14 : w1.cell? ⟨w.heap.size, 14, none⟩ = some (.int .i64 x.pre) := B1.cell 14
  have k15 : w1.cell? ⟨w.heap.size, 15, none⟩ = some (.int .i64 x.suf) := B1.cell 15
  cases m with
  | zero =>
    have hfs : fs = [] := List.eq_nil_of_length_eq_zero hlf
    subst hfs
    have HM := Lib.hid (fun W (hW : Ext w1 W) => make_full A B n c d ns x W (ha.to (hx1.step hW)) hn1 hok.out HMay.out hmk.out)
    have HS := Lib.hid (fun W (hW : Ext w1 W) => show W.cell? ⟨b, 0, none⟩ = some (.slice A n c) ∧ W.cell? ⟨b, 1, none⟩ = some (.slice B (0 : Nat) d) ∧ W.cell? ⟨w.heap.size, 0, none⟩ = some (.int .i64 x.k) ∧ W.cell? ⟨w.heap.size, 1, none⟩ = some (.int .i64 x.g) ∧ W.cell? ⟨w.heap.size, 2, none⟩ = some (.int .i64 x.n) ∧ W.cell? ⟨w.heap.size, 3, none⟩ = some (.int .i64 x.v) ∧ W.cell? ⟨w.heap.size, 4, none⟩ = some (.int .i64 x.s) ∧ W.cell? ⟨w.heap.size, 5, none⟩ = some (.int .u64 x.r0) ∧ W.cell? ⟨w.heap.size, 6, none⟩ = some (.int .u64 x.r1) ∧ W.cell? ⟨w.heap.size, 7, none⟩ = some (.int .u64 x.r2) ∧ W.cell? ⟨w.heap.size, 8, none⟩ = some (.int .u64 x.r3) ∧ W.cell? ⟨w.heap.size, 9, none⟩ = some (.int .u64 x.r4) ∧ W.cell? ⟨w.heap.size, 10, none⟩ = some (.int .u64 x.r5) ∧ W.cell? ⟨w.heap.size, 11, none⟩ = some (.int .u64 x.r6) ∧ W.cell? ⟨w.heap.size, 12, none⟩ = some (.int .u64 x.r7) ∧ W.cell? ⟨w.heap.size, 13, none⟩ = some (.int .u64 x.r8) ∧ W.cell? ⟨w.heap.size, 14, none⟩ = some (.int .i64 x.pre) ∧ W.cell? ⟨w.heap.size, 15, none⟩ = some (.int .i64 x.suf) from ⟨hW.cellOf c0, hW.cellOf c1, hW.cellOf k0, hW.cellOf k1, hW.cellOf k2, hW.cellOf k3, hW.cellOf k4, hW.cellOf k5, hW.cellOf k6, hW.cellOf k7, hW.cellOf k8, hW.cellOf k9, hW.cellOf k10, hW.cellOf k11, hW.cellOf k12, hW.cellOf k13, hW.cellOf k14, hW.cellOf k15⟩)
    clear hb ha hA hB h hl hln hlf hw1 B1 hx1 hs1 hx hxo
    go_enter Try.func25, Try.ntmps25
    go_wp2_with fail
    rw [← H1.out]
    go_region_held3 (fun W => W.cell? ⟨b, 0, none⟩ = some (.slice A n c) ∧ W.cell? ⟨b, 1, none⟩ = some (.slice B (0 : Nat) d) ∧ W.cell? ⟨w.heap.size, 0, none⟩ = some (.int .i64 x.k) ∧ W.cell? ⟨w.heap.size, 1, none⟩ = some (.int .i64 x.g) ∧ W.cell? ⟨w.heap.size, 2, none⟩ = some (.int .i64 x.n) ∧ W.cell? ⟨w.heap.size, 3, none⟩ = some (.int .i64 x.v) ∧ W.cell? ⟨w.heap.size, 4, none⟩ = some (.int .i64 x.s) ∧ W.cell? ⟨w.heap.size, 5, none⟩ = some (.int .u64 x.r0) ∧ W.cell? ⟨w.heap.size, 6, none⟩ = some (.int .u64 x.r1) ∧ W.cell? ⟨w.heap.size, 7, none⟩ = some (.int .u64 x.r2) ∧ W.cell? ⟨w.heap.size, 8, none⟩ = some (.int .u64 x.r3) ∧ W.cell? ⟨w.heap.size, 9, none⟩ = some (.int .u64 x.r4) ∧ W.cell? ⟨w.heap.size, 10, none⟩ = some (.int .u64 x.r5) ∧ W.cell? ⟨w.heap.size, 11, none⟩ = some (.int .u64 x.r6) ∧ W.cell? ⟨w.heap.size, 12, none⟩ = some (.int .u64 x.r7) ∧ W.cell? ⟨w.heap.size, 13, none⟩ = some (.int .u64 x.r8) ∧ W.cell? ⟨w.heap.size, 14, none⟩ = some (.int .i64 x.pre) ∧ W.cell? ⟨w.heap.size, 15, none⟩ = some (.int .i64 x.suf)) (exact HS.out _ (by repeat (first | exact Ext.refl _ | assumption | with_reducible refine Ext.drew ?_ | with_reducible refine Ext.new ?_ _ | with_reducible refine Ext.set ?_ _ (by first | omega | simp)))) (first
      | (go_at_call 48; refine (HM.out _ ?_).mono ?_
         · repeat (first | exact Ext.refl _ | assumption | with_reducible refine Ext.drew ?_ | with_reducible refine Ext.new ?_ _)
         rintro e w3 ⟨rfl, hx3⟩
         try (have zb3 : Bx w3 w1.heap.size #[.slice none 0 0, .slice none 0 0] := (Bx.new w1.drew #[.slice none 0 0, .slice none 0 0] 26).to hx3)
         try (have y0 := zb3.cell 0
              have y1 := zb3.cell 1
              have y2 := zb3.free 0
              have y3 := zb3.free 1
              simp only [List.getElem?_toArray, List.getElem?_cons_zero, List.getElem?_cons_succ] at y0 y1)
         have hq3 : Ext w1 w3 := Ext.step (by repeat (first | exact Ext.refl _ | assumption | with_reducible refine Ext.drew ?_ | with_reducible refine Ext.new ?_ _)) hx3
         clear hx3))
    all_goals
      refine gen_world (w := w1) (P := fun W => Exit.then _ _ Exit.normal _ W) ?_ ?_
      · repeat (first | exact Ext.refl _ | assumption | with_reducible refine Ext.drew ?_ | with_reducible refine Ext.new ?_ _ | with_reducible refine Ext.set ?_ _ (by first | omega | simp))
      intro wq hq
      have hbq := HB.out.to (X1.out.step hq)
      have HQ := Lib.hid (X1.out.step hq)
      clear hq k0 k1 k2 k3 k4 k5 k6 k7 k8 k9 k10 k11 k12 k13 k14 k15
      go_wp2_with (first
        | (refine wpList_store_cell (by rfl) 27 (.tmp 23) (.tmp 21) (by rfl) b 2 (by rfl) (.int .i64 2) (by rfl) rfl (by kernel_rfl) _ hbq (by simp) ?_
           intro w9 B9 O9))
      have HF := Lib.hid (show NewOut b ns [] err x w (.returned (.int .u64 0)) w9 from
        ⟨ns, [], 2, 0, rfl, ⟨⟨A, n, c, B, 0, d, B9, (HA.out.to HQ.out).only O9 hAB.out.1 hAB.out.2, hAB.out.1, hAB.out.2⟩, HMay.out, .inr rfl⟩, ((Only.refl b w).ext HQ.out).trans O9, Gr.refl _ _ _, .inl rfl, U.zero, fun h => by omega, fun _ => .inr (by simp), .inl rfl, FarTo.box B9 (fun q hq => .inr fun X hX => hX 0 q n c (by omega) (by rw [← hq]; exact HB.out.cell 0)) (fun q hq => .inr fun X hX => hX 1 q 0 d (by omega) (by rw [← hq]; exact HB.out.cell 1))⟩)
      clear O9 B9
      go_ret
      exact HF.out
  | succ m =>
    obtain ⟨y, hy⟩ : ∃ y, fs[m]? = some y := ⟨_, List.getElem?_eq_getElem (by omega)⟩
    obtain ⟨p, old, rfl, ho, hk, _⟩ := HMay.out.last hy
    obtain ⟨m1, m2, m3, m4⟩ := made_math HMay.out (by omega) hy ho hk hmk.out
    have hnm := make_may HMay.out (by omega) hy ho hmk.out
    have hm : ∀ W, Ext w1 W → Calls Try.prog 48 #[.agg #[.slice A n c, .slice B (m + 1 : Nat) d], .agg x.arr] W (MadeB W n m (ns.set p (x.gen old.g)) (fs.take m) (65536 * old.g + p + 1)) :=
      fun W hW => (make_yes A B n m c d ns fs x p old W (ha.to (hx1.step hW)) hn1 hok.out HMay.out hmk.out hy ho).mono fun e w' ⟨g, c', B', h1, h2, h3, h4⟩ => ⟨g, c', B', h1, h2, h3, h4⟩
    obtain ⟨z, hz⟩ : ∃ z, z = 65536 * old.g + (p : Int) + 1 := ⟨_, rfl⟩
    have m2'' : ∃ q g, Got (ns.set p (x.gen old.g)) z q (x.gen g) := ⟨p, old.g, by rw [hz]; exact m2⟩
    rw [← hz] at hm m3 m4
    obtain ⟨nz, hnz⟩ : ∃ nz, nz = ns.set p (x.gen old.g) := ⟨_, rfl⟩
    obtain ⟨fz, hfz⟩ : ∃ fz, fz = fs.take m := ⟨_, rfl⟩
    rw [← hnz, ← hfz] at hm m1 hnm
    rw [← hnz] at m2''
    have HM := Lib.hid hm
    have HG1 := Lib.hid m1
    have HG2 := Lib.hid m2''
    have HG3 := Lib.hid m3
    have HG4 := Lib.hid m4
    have HNM := Lib.hid hnm
    have HS := Lib.hid (fun W (hW : Ext w1 W) => show W.cell? ⟨b, 0, none⟩ = some (.slice A n c) ∧ W.cell? ⟨b, 1, none⟩ = some (.slice B (m + 1 : Nat) d) ∧ W.cell? ⟨w.heap.size, 0, none⟩ = some (.int .i64 x.k) ∧ W.cell? ⟨w.heap.size, 1, none⟩ = some (.int .i64 x.g) ∧ W.cell? ⟨w.heap.size, 2, none⟩ = some (.int .i64 x.n) ∧ W.cell? ⟨w.heap.size, 3, none⟩ = some (.int .i64 x.v) ∧ W.cell? ⟨w.heap.size, 4, none⟩ = some (.int .i64 x.s) ∧ W.cell? ⟨w.heap.size, 5, none⟩ = some (.int .u64 x.r0) ∧ W.cell? ⟨w.heap.size, 6, none⟩ = some (.int .u64 x.r1) ∧ W.cell? ⟨w.heap.size, 7, none⟩ = some (.int .u64 x.r2) ∧ W.cell? ⟨w.heap.size, 8, none⟩ = some (.int .u64 x.r3) ∧ W.cell? ⟨w.heap.size, 9, none⟩ = some (.int .u64 x.r4) ∧ W.cell? ⟨w.heap.size, 10, none⟩ = some (.int .u64 x.r5) ∧ W.cell? ⟨w.heap.size, 11, none⟩ = some (.int .u64 x.r6) ∧ W.cell? ⟨w.heap.size, 12, none⟩ = some (.int .u64 x.r7) ∧ W.cell? ⟨w.heap.size, 13, none⟩ = some (.int .u64 x.r8) ∧ W.cell? ⟨w.heap.size, 14, none⟩ = some (.int .i64 x.pre) ∧ W.cell? ⟨w.heap.size, 15, none⟩ = some (.int .i64 x.suf) from ⟨hW.cellOf c0, hW.cellOf c1, hW.cellOf k0, hW.cellOf k1, hW.cellOf k2, hW.cellOf k3, hW.cellOf k4, hW.cellOf k5, hW.cellOf k6, hW.cellOf k7, hW.cellOf k8, hW.cellOf k9, hW.cellOf k10, hW.cellOf k11, hW.cellOf k12, hW.cellOf k13, hW.cellOf k14, hW.cellOf k15⟩)
    clear hm m2 m2'' hz hnz hfz hnm hb ha hA hB h hl hln hlf hy ho hk m1 m3 m4 hw1 B1 hx1 hs1 hx hxo
    go_enter Try.func25, Try.ntmps25
    go_wp2_with fail
    rw [← H1.out]
    go_region_held3 (fun W => W.cell? ⟨b, 0, none⟩ = some (.slice A n c) ∧ W.cell? ⟨b, 1, none⟩ = some (.slice B (m + 1 : Nat) d) ∧ W.cell? ⟨w.heap.size, 0, none⟩ = some (.int .i64 x.k) ∧ W.cell? ⟨w.heap.size, 1, none⟩ = some (.int .i64 x.g) ∧ W.cell? ⟨w.heap.size, 2, none⟩ = some (.int .i64 x.n) ∧ W.cell? ⟨w.heap.size, 3, none⟩ = some (.int .i64 x.v) ∧ W.cell? ⟨w.heap.size, 4, none⟩ = some (.int .i64 x.s) ∧ W.cell? ⟨w.heap.size, 5, none⟩ = some (.int .u64 x.r0) ∧ W.cell? ⟨w.heap.size, 6, none⟩ = some (.int .u64 x.r1) ∧ W.cell? ⟨w.heap.size, 7, none⟩ = some (.int .u64 x.r2) ∧ W.cell? ⟨w.heap.size, 8, none⟩ = some (.int .u64 x.r3) ∧ W.cell? ⟨w.heap.size, 9, none⟩ = some (.int .u64 x.r4) ∧ W.cell? ⟨w.heap.size, 10, none⟩ = some (.int .u64 x.r5) ∧ W.cell? ⟨w.heap.size, 11, none⟩ = some (.int .u64 x.r6) ∧ W.cell? ⟨w.heap.size, 12, none⟩ = some (.int .u64 x.r7) ∧ W.cell? ⟨w.heap.size, 13, none⟩ = some (.int .u64 x.r8) ∧ W.cell? ⟨w.heap.size, 14, none⟩ = some (.int .i64 x.pre) ∧ W.cell? ⟨w.heap.size, 15, none⟩ = some (.int .i64 x.suf)) (exact HS.out _ (by repeat (first | exact Ext.refl _ | assumption | with_reducible refine Ext.drew ?_ | with_reducible refine Ext.new ?_ _ | with_reducible refine Ext.set ?_ _ (by first | omega | simp)))) (first
      | (go_at_call 48; refine (HM.out _ ?_).mono ?_
         · repeat (first | exact Ext.refl _ | assumption | with_reducible refine Ext.drew ?_ | with_reducible refine Ext.new ?_ _)
         rintro e w3 ⟨g, c', B', rfl, hA3, hx3, hF3⟩
         try (have zb3 : Bx w3 w1.heap.size #[.slice none 0 0, .slice none 0 0] := (Bx.new w1.drew #[.slice none 0 0, .slice none 0 0] 26).to hx3)
         try (have y0 := zb3.cell 0
              have y1 := zb3.cell 1
              have y2 := zb3.free 0
              have y3 := zb3.free 1
              simp only [List.getElem?_toArray, List.getElem?_cons_zero, List.getElem?_cons_succ] at y0 y1)
         have hq3 : Ext w1 w3 := Ext.step (by repeat (first | exact Ext.refl _ | assumption | with_reducible refine Ext.drew ?_ | with_reducible refine Ext.new ?_ _)) hx3
         have hge3 : w1.heap.size ≤ w3.heap.size := hq3.size
         clear hx3))
    · refine gen_world2 (w := w1) (P := fun W => Exit.then _ _ Exit.normal _ W) (A := some ⟨g, 0, none⟩) (B := B') (n := n) (m := m) (q := w3.heap.size) (cs := #[.slice (some ⟨g, 0, none⟩) n c', .slice B' m m]) ?_ (hA3.to ((Ext.refl w3).new _)) (Bx.new w3 _ _) ?_
      · repeat (first | exact Ext.refl _ | assumption | with_reducible refine Ext.drew ?_ | with_reducible refine Ext.new ?_ _ | with_reducible refine Ext.set ?_ _ (by first | omega | simp))
      intro wq hq haq hbx
      have hbq := HB.out.to (X1.out.step hq)
      have hqb : b ≠ w3.heap.size := by have := HLT.out; have := hq3.size; have := X1.out.size; omega
      have q0 : wq.cell? ⟨w3.heap.size, 0, none⟩ = some (.slice (some ⟨g, 0, none⟩) n c') := hbx.cell 0
      have q1 : wq.cell? ⟨w3.heap.size, 1, none⟩ = some (.slice B' m m) := hbx.cell 1
      have HQ := Lib.hid (X1.out.step hq)
      have HAQ := Lib.hid haq
      have HNB := Lib.hid (show (∀ q, some (⟨g, 0, none⟩ : Addr) = some q → q.block ≠ b) ∧ ∀ q, B' = some q → q.block ≠ b from ⟨fun q hq' => by
        injection hq' with hq'
        subst hq'
        have h0 := HLT.out
        have h1 := hF3.1
        have h2 := X1.out.size
        show g ≠ b
        first | omega | (simp at h1; omega), fun q hq' => by
        have h1 := hF3.2 q hq'
        have h0 := HLT.out
        have h2 := X1.out.size
        first | omega | (simp at h1; omega)⟩)
      have HFR := Lib.hid (show (∀ q, some (⟨g, 0, none⟩ : Addr) = some q → w.heap.size ≤ q.block) ∧ ∀ q, B' = some q → w.heap.size ≤ q.block from ⟨fun q hq' => by
        injection hq' with hq'
        subst hq'
        have h1 := hF3.1
        have h2 := X1.out.size
        show w.heap.size ≤ g
        first | omega | (simp at h1; omega), fun q hq' => by
        have h1 := hF3.2 q hq'
        have h2 := X1.out.size
        first | omega | (simp at h1; omega)⟩)
      clear hq haq hbx hA3 hF3 k0 k1 k2 k3 k4 k5 k6 k7 k8 k9 k10 k11 k12 k13 k14 k15
      go_wp2_with (first
        | (refine wpList_store_ar (by rfl) (.tmp 27) (.tmp 25) (by rfl) b (by rfl) (.slice (some ⟨g, 0, none⟩) n c') (.slice B' m m) (by rfl) rfl rfl _ hbq (by simp) ?_
           intro w9 B9 O9))
      have HF := Lib.hid (show NewOut b ns fs err x w (.returned (.int .u64 z)) w9 from
        ⟨_, _, err, _, rfl, ⟨⟨_, n, c', B', m, m, B9, HAQ.out.only O9 HNB.out.1 HNB.out.2, HNB.out.1, HNB.out.2⟩, HNM.out, HErr.out⟩, ((Only.refl b w).ext HQ.out).trans O9, HG1.out, HG3.out, HG4.out, fun h => ⟨h, HG2.out⟩, fun h => .inl h, .inr (by obtain ⟨a, g', h'⟩ := HG2.out; exact ⟨a, _, h'⟩), FarTo.box B9 (fun q hq => .inl (HFR.out.1 q hq)) (fun q hq => .inl (HFR.out.2 q hq))⟩)
      clear O9 B9
      go_ret
      exact HF.out
    · refine gen_world2 (w := w1) (P := fun W => Exit.then _ _ Exit.normal _ W) (A := some ⟨g, 0, none⟩) (B := B') (n := n) (m := m) (q := w1.heap.size) (cs := #[.slice (some ⟨g, 0, none⟩) n c', .slice B' m m]) ?_ (hA3.only (Only.two w3 _ _ _) (fun q hq' => by injection hq' with hq'; subst hq'; have h1 := hF3.1; simp at h1; show g ≠ _; omega) (fun q hq' => by have h1 := hF3.2 q hq'; simp at h1; omega)) (zb3.two _ _) ?_
      · repeat (first | exact Ext.refl _ | assumption | with_reducible refine Ext.drew ?_ | with_reducible refine Ext.new ?_ _ | with_reducible refine Ext.set ?_ _ (by first | omega | simp))
      intro wq hq haq hbx
      have hbq := HB.out.to (X1.out.step hq)
      have hqb : b ≠ w1.heap.size := by have := HLT.out; have := hq3.size; have := X1.out.size; omega
      have q0 : wq.cell? ⟨w1.heap.size, 0, none⟩ = some (.slice (some ⟨g, 0, none⟩) n c') := hbx.cell 0
      have q1 : wq.cell? ⟨w1.heap.size, 1, none⟩ = some (.slice B' m m) := hbx.cell 1
      have HQ := Lib.hid (X1.out.step hq)
      have HAQ := Lib.hid haq
      have HNB := Lib.hid (show (∀ q, some (⟨g, 0, none⟩ : Addr) = some q → q.block ≠ b) ∧ ∀ q, B' = some q → q.block ≠ b from ⟨fun q hq' => by
        injection hq' with hq'
        subst hq'
        have h0 := HLT.out
        have h1 := hF3.1
        have h2 := X1.out.size
        show g ≠ b
        first | omega | (simp at h1; omega), fun q hq' => by
        have h1 := hF3.2 q hq'
        have h0 := HLT.out
        have h2 := X1.out.size
        first | omega | (simp at h1; omega)⟩)
      have HFR := Lib.hid (show (∀ q, some (⟨g, 0, none⟩ : Addr) = some q → w.heap.size ≤ q.block) ∧ ∀ q, B' = some q → w.heap.size ≤ q.block from ⟨fun q hq' => by
        injection hq' with hq'
        subst hq'
        have h1 := hF3.1
        have h2 := X1.out.size
        show w.heap.size ≤ g
        first | omega | (simp at h1; omega), fun q hq' => by
        have h1 := hF3.2 q hq'
        have h2 := X1.out.size
        first | omega | (simp at h1; omega)⟩)
      clear hq haq hbx hA3 hF3 k0 k1 k2 k3 k4 k5 k6 k7 k8 k9 k10 k11 k12 k13 k14 k15
      go_wp2_with (first
        | (refine wpList_store_ar (by rfl) (.tmp 27) (.tmp 25) (by rfl) b (by rfl) (.slice (some ⟨g, 0, none⟩) n c') (.slice B' m m) (by rfl) rfl rfl _ hbq (by simp) ?_
           intro w9 B9 O9))
      have HF := Lib.hid (show NewOut b ns fs err x w (.returned (.int .u64 z)) w9 from
        ⟨_, _, err, _, rfl, ⟨⟨_, n, c', B', m, m, B9, HAQ.out.only O9 HNB.out.1 HNB.out.2, HNB.out.1, HNB.out.2⟩, HNM.out, HErr.out⟩, ((Only.refl b w).ext HQ.out).trans O9, HG1.out, HG3.out, HG4.out, fun h => ⟨h, HG2.out⟩, fun h => .inl h, .inr (by obtain ⟨a, g', h'⟩ := HG2.out; exact ⟨a, _, h'⟩), FarTo.box B9 (fun q hq => .inl (HFR.out.1 q hq)) (fun q hq => .inl (HFR.out.2 q hq))⟩)
      clear O9 B9
      go_ret
      exact HF.out

end Go.Proofs.Ytfoifcbaadnigaa
