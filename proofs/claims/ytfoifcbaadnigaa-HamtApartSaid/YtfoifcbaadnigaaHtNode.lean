/-
  Contracts: a reference's node, a leaf's key, a table's size, a key's digits (nodeOf, keyOf, sizeOf, digitOf, passedBy).
-/
import Derived.Test.YtfoifcbaadnigaaHtMath
import Derived.Test.YtfoifcbaadnigaaGF
set_option linter.unusedVariables false
set_option linter.unusedSimpArgs false
namespace Go.Proofs.Ytfoifcbaadnigaa
open Go.RowKit

set_option maxHeartbeats 1000000 in
theorem htNode_is (A B : Option Addr) (n c m d : Nat) (ns : List Nd) (r : Int) (w : World) (h0 : 0 ≤ r) (h1 : r ≤ 18446744073709551615) (h : Rd w 16 A n (flat Nd.cells ns)) :
    Calls Try.prog 34 #[.agg #[.slice A n c, .slice B m d], .int .u64 r] w fun e w' => e = .returned (.agg (nodeF ns r).arr) ∧ Ext w w' := by
  obtain ⟨w1, hw1⟩ : ∃ w1, w1 = w.alloc (.cells #[.slice A n c, .slice B m d] 26) := ⟨_, rfl⟩
  obtain ⟨w2, hw2⟩ : ∃ w2, w2 = w1.alloc (.cells #[.int .i64 0, .int .i64 0, .int .i64 0, .int .i64 0, .int .i64 0, .int .u64 0, .int .u64 0, .int .u64 0, .int .u64 0, .int .u64 0, .int .u64 0, .int .u64 0, .int .u64 0, .int .u64 0, .int .i64 0, .int .i64 0] 68) := ⟨_, rfl⟩
  obtain ⟨B1, hx1, hs1⟩ := box_made hw1
  obtain ⟨B2, hx2, hs2⟩ := box_made hw2
  rw [hs1] at B2
  obtain ⟨k, hget⟩ := get_any A B n c m d ns r w2 h0 h1 (h.to (hx1.step hx2))
  generalize nodeF ns r = x at hget ⊢
  have HG := Lib.hid hget
  have k0 : w2.cell? ⟨w.heap.size, 0, none⟩ = some (.slice A n c) := (B1.to hx2).cell 0
  have k1 : w2.cell? ⟨w.heap.size, 1, none⟩ = some (.slice B m d) := (B1.to hx2).cell 1
  have H1 := Lib.hid hw1
  have H2 := Lib.hid hw2
  have X2 := Lib.hid (hx1.step hx2)
  have HB := Lib.hid B2
  clear hw1 hw2 B1 B2 hx1 hx2 hs1 hs2 h hget
  go_enter Try.func34, Try.ntmps34
  go_wp2_with fail
  rw [← H1.out, ← H2.out]
  go_wp2_with fail
  refine HG.out.mono ?_; rintro e w3 ⟨rfl, hx3⟩
  obtain ⟨w4, hw4⟩ : ∃ w4, w4 = w3.alloc (.cells x.arr 68) := ⟨_, rfl⟩
  obtain ⟨B4, hx4, hs4⟩ := box_made hw4
  have H4 := Lib.hid hw4
  have n4 := B4.node
  have b4 := HB.out.to (hx3.step hx4)
  have X4 := Lib.hid (X2.out.step (hx3.step hx4))
  clear hw4 hs4 hx3 hx4 B4 k0 k1
  go_wp2_with (first
    | (refine wpList_store_nd (W := w3) (by rfl) _ _ (by rfl) (by rfl) x (by rfl) _ (by rfl) (by rfl) ?_; rw [← H4.out])
    | (refine wpList_load_nd (by rfl) _ (by rfl) _ (by rfl) x n4 ?_)
    | (refine wpList_store_box (by rfl) _ _ (by rfl) _ (by rfl) x (by rfl) _ b4 rfl ?_; intro wz hbz hoz))
  refine bodyPost_ret (results_nd1 rfl _ _ ⟨w.heap.size + 1, 0, none⟩ x (by rfl) hbz.node) rfl ⟨rfl, ?_⟩
  exact hoz.new X4.out (by omega)


/-- How many keys a reference's node tells. -/
def szF (ns : List Nd) (r : Int) : Int := if (nodeF ns r).k = 3 then 1 else (nodeF ns r).s
set_option maxHeartbeats 1000000 in
theorem htKey_is (A B : Option Addr) (n c m d : Nat) (ns : List Nd) (r : Int) (w : World) (h0 : 0 ≤ r) (h1 : r ≤ 18446744073709551615) (h : Rd w 16 A n (flat Nd.cells ns)) :
    Calls Try.prog 40 #[.agg #[.slice A n c, .slice B m d], .int .u64 r] w fun e w' => e = .returned (.int .i64 (nodeF ns r).n) ∧ Ext w w' := by
  have HN := Lib.hid (htNode_is A B n c m d ns r (w.alloc (.cells #[.slice A n c, .slice B m d] 26)) h0 h1 (h.to ((Ext.refl w).new _)))
  generalize nodeF ns r = x at HN ⊢
  have hfs := nd_n x
  clear h
  go_enter Try.func40, Try.ntmps40
  go_wp2_with fail
  refine HN.out.mono ?_; rintro e w3 ⟨rfl, hx3⟩
  go_wp2_with fail
  go_ret
  exact ⟨rfl, ((Ext.refl w).new _).step hx3⟩

set_option maxHeartbeats 1000000 in
theorem htSize_is (A B : Option Addr) (n c m d : Nat) (ns : List Nd) (r : Int) (w : World) (h0 : 0 ≤ r) (h1 : r ≤ 18446744073709551615) (h : Rd w 16 A n (flat Nd.cells ns)) :
    Calls Try.prog 35 #[.agg #[.slice A n c, .slice B m d], .int .u64 r] w fun e w' => e = .returned (.int .i64 (szF ns r)) ∧ Ext w w' := by
  have HN := Lib.hid (htNode_is A B n c m d ns r (w.alloc (.cells #[.slice A n c, .slice B m d] 26)) h0 h1 (h.to ((Ext.refl w).new _)))
  have hsz : szF ns r = if (nodeF ns r).k = 3 then 1 else (nodeF ns r).s := rfl
  generalize nodeF ns r = x at HN hsz ⊢
  clear h
  by_cases hk : x.k = 3
  all_goals
    first | rw [if_pos hk] at hsz | rw [if_neg hk] at hsz
    rw [hsz]
    first | (have e3 : (x.k == 3) = true := by simp [hk]) | (have e3 : (x.k == 3) = false := by simp [hk])
    clear hk hsz
    go_enter Try.func35, Try.ntmps35
    go_wp2_with fail
    refine HN.out.mono ?_; rintro e w3 ⟨rfl, hx3⟩
    have HX3 := Lib.hid hx3
    obtain ⟨w4, hw4⟩ : ∃ w4, w4 = w3.alloc (.cells x.arr 68) := ⟨_, rfl⟩
    obtain ⟨B4, hx4, hs4⟩ := box_made hw4
    have H4 := Lib.hid hw4
    have X4 := Lib.hid ((((Ext.refl w).new _).step hx3).step hx4)
    have q0 : w4.cell? ⟨w3.heap.size, 0, none⟩ = some (.int .i64 x.k) := (B4.cell 0).trans x.a0
    have q4 : w4.cell? ⟨w3.heap.size, 4, none⟩ = some (.int .i64 x.s) := (B4.cell 4).trans x.a4
    clear hw4 hs4 hx3 hx4 B4
    go_wp2_with (first
      | (refine wpList_store_nd (W := w3) (by rfl) _ _ (by rfl) (by rfl) x (by rfl) _ (by rfl) (by rfl) ?_; rw [← H4.out]))
    go_ret
    exact ⟨rfl, X4.out⟩

theorem dig_at (k : Int) : dig k 0 = hsI k % 4 ∧ dig k 1 = hsI k / 4 % 4 ∧ dig k 2 = hsI k / 16 % 4 ∧ dig k 3 = hsI k / 64 % 4 ∧ dig k 4 = hsI k / 256 % 4 ∧ dig k 5 = hsI k / 1024 % 4 ∧ dig k 6 = hsI k / 4096 % 4 ∧ dig k 7 = hsI k / 16384 % 4 ∧ dig k 8 = hsI k / 65536 % 4 ∧ dig k 9 = hsI k / 262144 % 4 ∧ dig k 10 = hsI k / 1048576 % 4 := by
  unfold dig
  refine ⟨by rw [show (4 : Int) ^ 0 = 1 from rfl]; omega, rfl, rfl, rfl, rfl, rfl, rfl, rfl, rfl, rfl, rfl⟩

end Go.Proofs.Ytfoifcbaadnigaa
