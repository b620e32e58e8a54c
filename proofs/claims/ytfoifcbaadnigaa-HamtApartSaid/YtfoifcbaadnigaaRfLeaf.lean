/-
  Contract: whether a reference is the leaf of an item (leaf of the document's answers on tables).
-/
import Derived.Test.YtfoifcbaadnigaaRfOf
set_option linter.unusedVariables false
set_option linter.unusedSimpArgs false
namespace Go.Proofs.Ytfoifcbaadnigaa
open Go.RowKit

set_option maxHeartbeats 3200000 in
set_option maxRecDepth 100000 in
theorem rfLeaf_is (A B : Option Addr) (n c m d : Nat) (ns : List Nd) (r k v : Int) (w : World) (hU : U r) (h : Rd w 16 A n (flat Nd.cells ns)) (b : Bool) (hb : b = true ↔ LvAt ns r (k, v)) :
    Calls Try.prog 26 #[.agg #[.slice A n c, .slice B m d], .int .u64 r, .agg #[.int .i64 k, .int .i64 v]] w fun e w' => e = .returned (.bool b) ∧ Ext w w' := by
  obtain ⟨w1, hw1⟩ : ∃ w1, w1 = w.alloc (.cells #[.slice A n c, .slice B m d] 26) := ⟨_, rfl⟩
  obtain ⟨B1, hx1, hs1⟩ := box_made hw1
  obtain ⟨w2, hw2⟩ : ∃ w2, w2 = w1.alloc (.cells #[.int .i64 k, .int .i64 v] 43) := ⟨_, rfl⟩
  obtain ⟨B2, hx2, hs2⟩ := box_made hw2
  have H1 := Lib.hid hw1
  have H2 := Lib.hid hw2
  have X2 := Lib.hid (hx1.step hx2)
  have HB1 := Lib.hid (B1.to hx2)
  have HB2 := Lib.hid B2
  have k0 : w2.cell? ⟨w.heap.size, 0, none⟩ = some (.slice A n c) := HB1.out.cell 0
  have k1 : w2.cell? ⟨w.heap.size, 1, none⟩ = some (.slice B m d) := HB1.out.cell 1
  have HS1 := Lib.hid hs1
  have HA := Lib.hid h
  have HBB := Lib.hid hb
  clear hw1 hx1 hs1 B1 hw2 hx2 hs2 B2 h hb
  rcases got_or ns r with ⟨p, x, hg⟩ | hg
  · have HAt := Lib.hid (at_yes A n c m d B ns r p x w2 hU.1 hU.2 (HA.out.to X2.out) hg)
    obtain ⟨ad, rfl, hnd⟩ := NdAt.of (HA.out.to X2.out) hg.at_
    have HND := Lib.hid hnd
    have hl : ns.length = n := by
      have := HA.out.1
      rw [flat_length Nd.cells_length] at this
      omega
    have hpn : p < n := by have := (List.getElem?_eq_some_iff.1 hg.at_).1; omega
    have hnp : ¬ n ≤ p := by omega
    have hp0 : ¬ ((p : Int) < 0) := by omega
    obtain ⟨gg, hgg⟩ : ∃ gg, gg = x.g := ⟨_, rfl⟩
    have HIFF := Lib.hid (show b = true ↔ x = leafNd gg k v by
      rw [HBB.out, hgg]
      constructor
      · rintro ⟨p', g', hg'⟩
        obtain ⟨e1, e2⟩ := got_one hg hg'
        rw [e2]; rfl
      · intro e
        exact ⟨p, x.g, e ▸ hg⟩)
    have HGG := Lib.hid hgg
    clear hnd hl hg hgg
    go_enter Try.func26, Try.ntmps26
    go_wp2_with fail
    rw [← H1.out, ← HS1.out, ← H2.out]
    refine HAt.out.mono ?_; rintro e w3 ⟨rfl, hx3⟩
    have hn3 := HND.out.to hx3
    have k0 : w3.cell? ⟨w.heap.size, 0, none⟩ = some (.slice (some ad) n c) := (HB1.out.to hx3).cell 0
    have k1 : w3.cell? ⟨w.heap.size, 1, none⟩ = some (.slice B m d) := (HB1.out.to hx3).cell 1
    have k2 : w3.cell? ⟨w1.heap.size, 0, none⟩ = some (.int .i64 k) := (HB2.out.to hx3).cell 0
    have k3 : w3.cell? ⟨w1.heap.size, 1, none⟩ = some (.int .i64 v) := (HB2.out.to hx3).cell 1
    have k4 : w3.cell? { block := (ad.add (p * 16)).block, off := (ad.add (p * 16)).off + 1 } = some (.int .i64 gg) := by rw [HGG.out]; exact hn3.gc
    have X3 := Lib.hid (X2.out.step hx3)
    have HB1w3 := Lib.hid (HB1.out.to hx3)
    clear hx3
    go_wp2_with fail
    have e40 : (0 : Int) ≤ (p : Int) := by omega
    have e41 : (p : Int) < (n : Int) := by omega
    go_region_held3 (fun W => W.cell? ⟨w.heap.size, 0, none⟩ = some (.slice (some ad) n c) ∧ W.cell? ⟨w1.heap.size, 0, none⟩ = some (.int .i64 k) ∧ W.cell? ⟨w1.heap.size, 1, none⟩ = some (.int .i64 v) ∧ W.cell? { block := (ad.add (p * 16)).block, off := (ad.add (p * 16)).off + 1 } = some (.int .i64 gg)) (first | exact ⟨k0, k2, k3, k4⟩ | exact ⟨((Ext.refl w3).drew.new _).cellOf k0, ((Ext.refl w3).drew.new _).cellOf k2, ((Ext.refl w3).drew.new _).cellOf k3, ((Ext.refl w3).drew.new _).cellOf k4⟩ | go_keep) (fail)
    obtain ⟨w4, hw4⟩ : ∃ w4, w4 = (w3.alloc (.cells #[.int .i64 3, .int .i64 gg, .int .i64 k, .int .i64 v, .int .i64 0, .int .u64 0, .int .u64 0, .int .u64 0, .int .u64 0, .int .u64 0, .int .u64 0, .int .u64 0, .int .u64 0, .int .u64 0, .int .i64 0, .int .i64 0] 68)).drew := ⟨_, rfl⟩
    have B4 : Bx w4 w3.heap.size (leafNd gg k v).arr := by rw [hw4]; exact (Bx.new w3 #[.int .i64 3, .int .i64 gg, .int .i64 k, .int .i64 v, .int .i64 0, .int .u64 0, .int .u64 0, .int .u64 0, .int .u64 0, .int .u64 0, .int .u64 0, .int .u64 0, .int .u64 0, .int .u64 0, .int .i64 0, .int .i64 0] 68).drew
    have hx4 : Ext w3 w4 := by rw [hw4]; exact ((Ext.refl w3).new _).drew
    have X4 := Lib.hid (X3.out.step hx4)
    obtain ⟨y, hy⟩ : ∃ y, y = leafNd gg k v := ⟨_, rfl⟩
    rw [← hy] at B4
    have hbe : decide (x = y) = b := by rw [Bool.eq_iff_iff, HIFF.out, decide_eq_true_eq, hy]
    have heq : ∀ W, (Op.equalIn 10000 68 (.agg x.arr) (.agg y.arr)).run Try.prog W = .ok b W := fun W => by rw [← hbe]; exact nd_eq x y W
    have nx := hn3.to hx4
    have ny := B4.node
    have z0 : ∀ q : Later w4, q.w.cell? ⟨w.heap.size, 0, none⟩ = some (.slice (some ad) n c) := fun q => (HB1w3.out.to (hx4.step q.ext)).cell 0
    rw [← hw4]
    clear hw4 B4 hx4 hy hbe HIFF HBB k0 k1 k2 k3 k4 hn3
    go_wp2_with fail
    refine wp_region_later w4 (Ext.refl _) (by kernel_rfl) (by kernel_rfl) ?_
    repeat (first
      | go_big_quiet_step (fail)
      | (refine wpQuiet_load_node ?_ (.tmp 28) (by rfl) _ ?_ x nx ?_
         · rfl
         · rfl
         simp only [Act.put, List.setIfInBounds_toArray, List.set_cons_zero, List.set_cons_succ])
      | (refine wpQuiet_load_node ?_ (.tmp 8) (by rfl) _ ?_ y ny ?_
         · rfl
         · rfl
         simp only [Act.put, List.setIfInBounds_toArray, List.set_cons_zero, List.set_cons_succ]))
    refine wpQuiet_nil ?_
    rintro _ ⟨q, rfl⟩
    clear z0
    go_wp2_with fail
    go_ret
    exact ⟨rfl, X4.out.step q.ext⟩
  · have HAt := Lib.hid (at_no A n c m d B ns r w2 hU.1 hU.2 (HA.out.to X2.out) hg)
    obtain rfl : b = false := by
      cases b
      · rfl
      · obtain ⟨p, g, h⟩ := HBB.out.1 rfl
        exact absurd h (hg _ _)
    clear hg
    go_enter Try.func26, Try.ntmps26
    go_wp2_with fail
    rw [← H1.out, ← HS1.out, ← H2.out]
    refine HAt.out.mono ?_; rintro e w3 ⟨rfl, hx3⟩
    go_wp2_with fail
    go_ret
    exact ⟨rfl, X2.out.step hx3⟩

end Go.Proofs.Ytfoifcbaadnigaa
