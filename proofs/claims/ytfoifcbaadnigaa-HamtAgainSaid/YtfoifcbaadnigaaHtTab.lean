/-
  Contracts: which references are tables' (isTable, isTrie, isClash).
-/
import Derived.Test.YtfoifcbaadnigaaHtTabM
import Derived.Test.YtfoifcbaadnigaaHtDig
set_option linter.unusedVariables false
set_option linter.unusedSimpArgs false
namespace Go.Proofs.Ytfoifcbaadnigaa
open Go.RowKit

theorem node_lf (g n v : Int) : (leafNd g n v).arr = #[.int .i64 3, .int .i64 g, .int .i64 n, .int .i64 v, .int .i64 0, .int .u64 0, .int .u64 0, .int .u64 0, .int .u64 0, .int .u64 0, .int .u64 0, .int .u64 0, .int .u64 0, .int .u64 0, .int .i64 0, .int .i64 0] := rfl
set_option maxHeartbeats 2000000 in
set_option maxRecDepth 100000 in
theorem htLeafT_is (A B : Option Addr) (n c m d : Nat) (ns : List Nd) (r : Int) (lv : Nat) (q : Int) (w : World) (hU : U r) (h : Rd w 16 A n (flat Nd.cells ns)) (hlv : lv ≤ 10) (hk : (nodeF ns r).k = 3) (b : Bool) (hb : b = true ↔ TabQ ns lv q r) :
    Calls Try.prog 37 #[.agg #[.slice A n c, .slice B m d], .int .u64 r, .int .i64 lv, .int .i64 q] w fun e w' => e = .returned (.bool b) ∧ Ext w w' := by
  rw [tabQ_leaf hk] at hb
  have HA := Lib.hid h
  obtain ⟨w1, hw1⟩ : ∃ w1, w1 = w.alloc (.cells #[.slice A n c, .slice B m d] 26) := ⟨_, rfl⟩
  obtain ⟨B1, hx1, hs1⟩ := box_made hw1
  have HN := Lib.hid (htNode_is A B n c m d ns r w1 hU.1 hU.2 (h.to hx1))
  obtain ⟨x, hx⟩ : ∃ x, x = nodeF ns r := ⟨_, rfl⟩
  rw [← hx] at hb hk HN
  have HK := Lib.hid hk
  obtain ⟨u, hu⟩ : ∃ u, u = decide (x = leafNd x.g x.n x.v) := ⟨_, rfl⟩
  have heq : ∀ W, (Op.equalIn 10000 68 (.agg x.arr) (.agg #[.int .i64 3, .int .i64 x.g, .int .i64 x.n, .int .i64 x.v, .int .i64 0, .int .u64 0, .int .u64 0, .int .u64 0, .int .u64 0, .int .u64 0, .int .u64 0, .int .u64 0, .int .u64 0, .int .u64 0, .int .i64 0, .int .i64 0])).run Try.prog W = .ok u W := fun W => by rw [hu]; exact nd_eq x (leafNd x.g x.n x.v) W
  have HP := Lib.hid (fun W => htPassed_is x.n lv hlv W)
  obtain ⟨ps, hps⟩ : ∃ ps, ps = pas x.n lv := ⟨_, rfl⟩
  rw [← hps] at HP hb
  have HBQ := Lib.hid (show b = (u && (ps == q)) by rw [Bool.eq_iff_iff, hb, hu, Bool.and_eq_true, decide_eq_true_eq, beq_iff_eq])
  clear hb hk hx hu hps
  have H1 := Lib.hid hw1
  have HB1 := Lib.hid B1
  have X1 := Lib.hid hx1
  have j0 : w1.cell? ⟨w.heap.size, 0, none⟩ = some (.slice A n c) := B1.cell 0
  have j1 : w1.cell? ⟨w.heap.size, 1, none⟩ = some (.slice B m d) := B1.cell 1
  clear hw1 B1 hx1 hs1 h
  go_enter Try.func37, Try.ntmps37
  go_wp2_with fail
  rw [← H1.out]
  go_wp2_with fail
  refine HN.out.mono ?_; rintro e w3 ⟨rfl, hx3⟩
  obtain ⟨w4, hw4⟩ : ∃ w4, w4 = w3.alloc (.cells x.arr 68) := ⟨_, rfl⟩
  obtain ⟨B4, hx4, hs4⟩ := box_made hw4
  have H4 := Lib.hid hw4
  have HB4 := Lib.hid B4
  have HBA := Lib.hid (HB1.out.to (hx3.step hx4))
  have X4 := Lib.hid (X1.out.step (hx3.step hx4))
  have hs3 := Lib.hid (show w.heap.size < w3.heap.size by have := HB1.out.lt; have := hx3.size; omega)
  have n4 := B4.node
  have k0 : w4.cell? ⟨w3.heap.size, 0, none⟩ = some (.int .i64 3) := by rw [← HK.out]; exact (B4.cell 0).trans x.a0
  have k1 : w4.cell? ⟨w3.heap.size, 1, none⟩ = some (.int .i64 x.g) := (B4.cell 1).trans x.a1
  have k2 : w4.cell? ⟨w3.heap.size, 2, none⟩ = some (.int .i64 x.n) := (B4.cell 2).trans x.a2
  have k3 : w4.cell? ⟨w3.heap.size, 3, none⟩ = some (.int .i64 x.v) := (B4.cell 3).trans x.a3
  have i0 : w4.cell? ⟨w.heap.size, 0, none⟩ = some (.slice A n c) := HBA.out.cell 0
  have i1 : w4.cell? ⟨w.heap.size, 1, none⟩ = some (.slice B m d) := HBA.out.cell 1
  clear hw4 B4 hx3 hx4 hs4 j0 j1
  cases u with
  | false =>
    obtain rfl : b = false := by rw [HBQ.out]; rfl
    go_wp2_with (first
      | (refine wpList_store_nd (W := w3) (by rfl) _ _ (by rfl) (by rfl) x (by rfl) _ (by rfl) (by rfl) ?_; rw [← H4.out])
      | (refine wpList_load_nd (by rfl) _ (by rfl) _ (by rfl) x n4 ?_))
    go_ret
    exact ⟨rfl, X4.out⟩
  | true =>
    obtain rfl : b = (ps == q) := by rw [HBQ.out]; rfl
    go_wp2_with (first
      | (refine wpList_store_nd (W := w3) (by rfl) _ _ (by rfl) (by rfl) x (by rfl) _ (by rfl) (by rfl) ?_; rw [← H4.out])
      | (refine wpList_load_nd (by rfl) _ (by rfl) _ (by rfl) x n4 ?_)
      | (go_at_call 54; refine (HP.out _).mono ?_; rintro e w5 ⟨rfl, hx5⟩))
    go_ret
    exact ⟨rfl, X4.out.step hx5⟩

end Go.Proofs.Ytfoifcbaadnigaa
