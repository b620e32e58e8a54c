/-
  The walks of layer 5's statements.
-/
import Derived.Test.YtlnmebjekdkedaaMixLaw
import Derived.OpenShut
set_option linter.unusedVariables false
set_option linter.unusedSimpArgs false
namespace Go.Proofs.Ytlnmebjekdkedaa
open Go.RowKit

set_option maxHeartbeats 1000000 in
theorem tells_no1 (n a b : Int) (n0 : 0 ≤ n) (n1 : n ≤ 18446744073709551615) (w : World) (h1 : a < 1) :
    Calls Try.prog 3 #[.int .u64 n, .int .i64 a, .int .i64 b] w fun e w' => e = .returned (.bool true) ∧ Ext w w' := by
  have hb := rkI_rng a
  have hh : (hsI a != rkI a % 1048576) = false := by unfold hsI; simp
  have HP := Lib.hid (Pick_no a b w (fun h => by have h5 := h.1.1; have h6 := h.1.2; have h7 := h.2.1; have h8 := h.2.2; omega))
  go_enter Try.func3, Try.ntmps3
  go_wp2_with fail
  refine HP.out.mono ?_; rintro e w1 ⟨rfl, rfl⟩
  go_wp2_with fail
  refine (Of_is n _ n0 n1).mono ?_; rintro e w2 ⟨rfl, hx2⟩
  go_wp2_with fail
  refine (ref_is n _ n0 n1).mono ?_; rintro e w3 ⟨rfl, rfl⟩
  go_wp2_with fail
  refine (Rank_is a _).mono ?_; rintro e w3 ⟨rfl, hx3⟩
  go_wp2_with fail
  refine (refRank_is a _).mono ?_; rintro e w4 ⟨rfl, rfl⟩
  go_wp2_with fail
  refine (Hash_is a _).mono ?_; rintro e w4 ⟨rfl, hx4⟩
  go_wp2_with fail
  refine (refRank_is a _).mono ?_; rintro e w5 ⟨rfl, rfl⟩
  go_wp2_with fail
  refine (Before_is a b _).mono ?_; rintro e w5 ⟨rfl, hx5⟩
  go_wp2_with fail
  refine (refBefore_is a b _).mono ?_; rintro e w6 ⟨rfl, rfl⟩
  go_wp2_with fail
  refine (alive_is _).mono ?_; rintro e w6 ⟨rfl, hx6⟩
  go_wp2_with fail
  go_ret
  exact ⟨rfl, (((hx2.step hx3).step hx4).step hx5).step hx6⟩
set_option maxHeartbeats 1000000 in
theorem tells_no2 (n a b : Int) (n0 : 0 ≤ n) (n1 : n ≤ 18446744073709551615) (w : World) (h1 : 1 ≤ a) (h2 : b < 1) :
    Calls Try.prog 3 #[.int .u64 n, .int .i64 a, .int .i64 b] w fun e w' => e = .returned (.bool true) ∧ Ext w w' := by
  have hb := rkI_rng a
  have hh : (hsI a != rkI a % 1048576) = false := by unfold hsI; simp
  have HP := Lib.hid (Pick_no a b w (fun h => by have h5 := h.1.1; have h6 := h.1.2; have h7 := h.2.1; have h8 := h.2.2; omega))
  go_enter Try.func3, Try.ntmps3
  go_wp2_with fail
  refine HP.out.mono ?_; rintro e w1 ⟨rfl, rfl⟩
  go_wp2_with fail
  refine (Of_is n _ n0 n1).mono ?_; rintro e w2 ⟨rfl, hx2⟩
  go_wp2_with fail
  refine (ref_is n _ n0 n1).mono ?_; rintro e w3 ⟨rfl, rfl⟩
  go_wp2_with fail
  refine (Rank_is a _).mono ?_; rintro e w3 ⟨rfl, hx3⟩
  go_wp2_with fail
  refine (refRank_is a _).mono ?_; rintro e w4 ⟨rfl, rfl⟩
  go_wp2_with fail
  refine (Hash_is a _).mono ?_; rintro e w4 ⟨rfl, hx4⟩
  go_wp2_with fail
  refine (refRank_is a _).mono ?_; rintro e w5 ⟨rfl, rfl⟩
  go_wp2_with fail
  refine (Before_is a b _).mono ?_; rintro e w5 ⟨rfl, hx5⟩
  go_wp2_with fail
  refine (refBefore_is a b _).mono ?_; rintro e w6 ⟨rfl, rfl⟩
  go_wp2_with fail
  refine (alive_is _).mono ?_; rintro e w6 ⟨rfl, hx6⟩
  go_wp2_with fail
  go_ret
  exact ⟨rfl, (((hx2.step hx3).step hx4).step hx5).step hx6⟩
set_option maxHeartbeats 1000000 in
theorem tells_no3 (n a b : Int) (n0 : 0 ≤ n) (n1 : n ≤ 18446744073709551615) (w : World) (h1 : 1073741824 < a) (h2 : 1 ≤ b) :
    Calls Try.prog 3 #[.int .u64 n, .int .i64 a, .int .i64 b] w fun e w' => e = .returned (.bool true) ∧ Ext w w' := by
  have hb := rkI_rng a
  have hh : (hsI a != rkI a % 1048576) = false := by unfold hsI; simp
  have HP := Lib.hid (Pick_no a b w (fun h => by have h5 := h.1.1; have h6 := h.1.2; have h7 := h.2.1; have h8 := h.2.2; omega))
  go_enter Try.func3, Try.ntmps3
  go_wp2_with fail
  refine HP.out.mono ?_; rintro e w1 ⟨rfl, rfl⟩
  go_wp2_with fail
  refine (Of_is n _ n0 n1).mono ?_; rintro e w2 ⟨rfl, hx2⟩
  go_wp2_with fail
  refine (ref_is n _ n0 n1).mono ?_; rintro e w3 ⟨rfl, rfl⟩
  go_wp2_with fail
  refine (Rank_is a _).mono ?_; rintro e w3 ⟨rfl, hx3⟩
  go_wp2_with fail
  refine (refRank_is a _).mono ?_; rintro e w4 ⟨rfl, rfl⟩
  go_wp2_with fail
  refine (Hash_is a _).mono ?_; rintro e w4 ⟨rfl, hx4⟩
  go_wp2_with fail
  refine (refRank_is a _).mono ?_; rintro e w5 ⟨rfl, rfl⟩
  go_wp2_with fail
  refine (Before_is a b _).mono ?_; rintro e w5 ⟨rfl, hx5⟩
  go_wp2_with fail
  refine (refBefore_is a b _).mono ?_; rintro e w6 ⟨rfl, rfl⟩
  go_wp2_with fail
  refine (alive_is _).mono ?_; rintro e w6 ⟨rfl, hx6⟩
  go_wp2_with fail
  go_ret
  exact ⟨rfl, (((hx2.step hx3).step hx4).step hx5).step hx6⟩
set_option maxHeartbeats 1000000 in
theorem tells_no4 (n a b : Int) (n0 : 0 ≤ n) (n1 : n ≤ 18446744073709551615) (w : World) (h1 : 1 ≤ a) (h2 : a ≤ 1073741824) (h3 : 1073741824 < b) :
    Calls Try.prog 3 #[.int .u64 n, .int .i64 a, .int .i64 b] w fun e w' => e = .returned (.bool true) ∧ Ext w w' := by
  have hb := rkI_rng a
  have hh : (hsI a != rkI a % 1048576) = false := by unfold hsI; simp
  have HP := Lib.hid (Pick_no a b w (fun h => by have h5 := h.1.1; have h6 := h.1.2; have h7 := h.2.1; have h8 := h.2.2; omega))
  go_enter Try.func3, Try.ntmps3
  go_wp2_with fail
  refine HP.out.mono ?_; rintro e w1 ⟨rfl, rfl⟩
  go_wp2_with fail
  refine (Of_is n _ n0 n1).mono ?_; rintro e w2 ⟨rfl, hx2⟩
  go_wp2_with fail
  refine (ref_is n _ n0 n1).mono ?_; rintro e w3 ⟨rfl, rfl⟩
  go_wp2_with fail
  refine (Rank_is a _).mono ?_; rintro e w3 ⟨rfl, hx3⟩
  go_wp2_with fail
  refine (refRank_is a _).mono ?_; rintro e w4 ⟨rfl, rfl⟩
  go_wp2_with fail
  refine (Hash_is a _).mono ?_; rintro e w4 ⟨rfl, hx4⟩
  go_wp2_with fail
  refine (refRank_is a _).mono ?_; rintro e w5 ⟨rfl, rfl⟩
  go_wp2_with fail
  refine (Before_is a b _).mono ?_; rintro e w5 ⟨rfl, hx5⟩
  go_wp2_with fail
  refine (refBefore_is a b _).mono ?_; rintro e w6 ⟨rfl, rfl⟩
  go_wp2_with fail
  refine (alive_is _).mono ?_; rintro e w6 ⟨rfl, hx6⟩
  go_wp2_with fail
  go_ret
  exact ⟨rfl, (((hx2.step hx3).step hx4).step hx5).step hx6⟩
set_option maxHeartbeats 1000000 in
theorem tells_yes (n a b : Int) (n0 : 0 ≤ n) (n1 : n ≤ 18446744073709551615) (w : World) (ha : Sz a) (hb' : Sz b) :
    Calls Try.prog 3 #[.int .u64 n, .int .i64 a, .int .i64 b] w fun e w' => e = .returned (.bool true) ∧ Ext w w' := by
  have hb := rkI_rng a
  have hh : (hsI a != rkI a % 1048576) = false := by unfold hsI; simp
  have HP := Lib.hid (Pick_yes a b w ha hb')
  have HR := Lib.hid (fun w => ref_is (a * 1048576 + b) w (by have := ha.1; have := hb'.1; omega) (by have := ha.2; have := hb'.2; omega))
  have hm := mixI_rng (a * 1048576 + b)
  obtain ⟨a1, a2⟩ := ha
  obtain ⟨b1, b2⟩ := hb'
  have HE := Lib.hid (show decide (mixI (a * 1048576 + b) % (a + b) < a) = pk a b from rfl)
  go_enter Try.func3, Try.ntmps3
  go_wp2_with fail
  refine HP.out.mono ?_; rintro e w1 ⟨rfl, hx1⟩
  go_wp2_with fail
  refine (Of_is n _ n0 n1).mono ?_; rintro e w2 ⟨rfl, hx2⟩
  go_wp2_with fail
  refine (ref_is n _ n0 n1).mono ?_; rintro e w3 ⟨rfl, rfl⟩
  go_wp2_with fail
  refine (Rank_is a _).mono ?_; rintro e w3 ⟨rfl, hx3⟩
  go_wp2_with fail
  refine (refRank_is a _).mono ?_; rintro e w4 ⟨rfl, rfl⟩
  go_wp2_with fail
  refine (Hash_is a _).mono ?_; rintro e w4 ⟨rfl, hx4⟩
  go_wp2_with fail
  refine (refRank_is a _).mono ?_; rintro e w5 ⟨rfl, rfl⟩
  go_wp2_with fail
  refine (Before_is a b _).mono ?_; rintro e w5 ⟨rfl, hx5⟩
  go_wp2_with fail
  refine (refBefore_is a b _).mono ?_; rintro e w6 ⟨rfl, rfl⟩
  go_wp2_with fail
  refine (alive_is _).mono ?_; rintro e w6 ⟨rfl, hx6⟩
  go_wp2_with fail
  refine (HR.out _).mono ?_; rintro e w7 ⟨rfl, rfl⟩
  go_wp2_with fail
  go_ret
  exact ⟨by rw [HE.out]; show Ending.returned (.bool (pk a b == pk a b)) = _; simp, ((((hx1.step hx2).step hx3).step hx4).step hx5).step hx6⟩

theorem MixTells_walk (w : World) (n : Int) (hn : (Lit.int .u64 n).wf = true) (a : Int) (_ : (Lit.int .i64 a).wf = true) (b : Int) (_ : (Lit.int .i64 b).wf = true) :
    Calls Try.prog 3 #[.int .u64 n, .int .i64 a, .int .i64 b] w fun e w' => e = .returned (.bool true) ∧ Below w.heap.size w w' := by
  obtain ⟨n0, n1⟩ := bounds_u64 hn
  by_cases h1 : 1 ≤ a
  · by_cases h2 : 1 ≤ b
    · by_cases h3 : a ≤ 1073741824
      · by_cases h4 : b ≤ 1073741824
        · exact tells_yes n a b n0 n1 w ⟨h1, h3⟩ ⟨h2, h4⟩
        · exact tells_no4 n a b n0 n1 w h1 h3 (by omega)
      · exact tells_no3 n a b n0 n1 w (by omega) h2
    · exact tells_no2 n a b n0 n1 w h1 (by omega)
  · exact tells_no1 n a b n0 n1 w (by omega)

theorem MixBack_walk (w : World) (n : Int) (hn : (Lit.int .u64 n).wf = true) (m : Int) (hm : (Lit.int .u64 m).wf = true) :
    Calls Try.prog 4 #[.int .u64 n, .int .u64 m] w fun e w' => e = .returned (.bool true) ∧ Below w.heap.size w w' := by
  obtain ⟨n0, n1⟩ := bounds_u64 hn
  obtain ⟨m0, m1⟩ := bounds_u64 hm
  have r1 := mixI_rng n
  have r2 := backI_rng n
  have HB := Lib.hid (fun w => back_is (mixI n) w r1.1 r1.2)
  have HO := Lib.hid (fun w => Of_is (backI n) w r2.1 r2.2)
  have E1 := Lib.hid (back_mixI n n0 n1)
  have E2 := Lib.hid (mix_backI n n0 n1)
  have e4 : ((mixI n == mixI m) == (n == m)) = true := by
    by_cases e : n = m
    · subst e; simp
    · have e' : ¬ mixI n = mixI m := fun h => e ((mixI_inj n m n0 n1 m0 m1).1 h)
      rw [beq_eq_false_iff_ne.2 e', beq_eq_false_iff_ne.2 e]
      rfl
  have E4 := Lib.hid e4
  clear r1 r2 hn hm e4
  go_enter Try.func4, Try.ntmps4
  go_wp2_with fail
  refine (alive_is _).mono ?_; rintro e w1 ⟨rfl, hx1⟩
  go_wp2_with fail
  refine (Of_is n _ n0 n1).mono ?_; rintro e w2 ⟨rfl, hx2⟩
  go_wp2_with fail
  refine (HB.out _).mono ?_; rintro e w3 ⟨rfl, rfl⟩
  rw [E1.out]
  go_wp2_with fail
  refine (back_is n _ n0 n1).mono ?_; rintro e w3 ⟨rfl, rfl⟩
  go_wp2_with fail
  refine (HO.out _).mono ?_; rintro e w3 ⟨rfl, hx3⟩
  rw [E2.out]
  go_wp2_with fail
  refine (Of_is n _ n0 n1).mono ?_; rintro e w4 ⟨rfl, hx4⟩
  go_wp2_with fail
  refine (Of_is m _ m0 m1).mono ?_; rintro e w5 ⟨rfl, hx5⟩
  go_wp2_with fail
  go_ret
  exact ⟨by first | rfl | (show Ending.returned (.bool ((mixI n == mixI m) == (n == m))) = _; rw [E4.out]), ((((hx1.step hx2).step hx3).step hx4).step hx5)⟩

theorem bef_irr (a : Int) : bef a a = false := decide_eq_false (fun h => by unfold Bef at h; omega)
theorem bef_total {a b : Int} (h : a ≠ b) : bef b a = !bef a b := by
  by_cases e : Bef a b
  · have : ¬ Bef b a := fun e' => by unfold Bef at e e'; omega
    simp [bef, e, this]
  · have : Bef b a := by unfold Bef at e ⊢; omega
    simp [bef, e, this]
theorem bef_trans {a b c : Int} (h1 : bef a b = true) (h2 : bef b c = true) : bef a c = true := by
  have e1 := of_decide_eq_true h1
  have e2 := of_decide_eq_true h2
  exact decide_eq_true (by unfold Bef at *; omega)

set_option maxHeartbeats 1000000 in
theorem order_same (a c : Int) (w : World) :
    Calls Try.prog 5 #[.int .i64 a, .int .i64 a, .int .i64 c] w fun e w' => e = .returned (.bool true) ∧ Ext w w' := by
  have H := Lib.hid (bef_irr a)
  go_enter Try.func5, Try.ntmps5
  go_wp2_with fail
  refine (Before_is a a _).mono ?_; rintro e w1 ⟨rfl, hx1⟩
  rw [H.out]
  go_wp2_with fail
  refine (alive_is _).mono ?_; rintro e w2 ⟨rfl, hx2⟩
  go_wp2_with fail
  refine (Before_is a a _).mono ?_; rintro e w3 ⟨rfl, hx3⟩
  rw [H.out]
  go_wp2_with fail
  go_ret
  exact ⟨rfl, (hx1.step hx2).step hx3⟩

set_option maxHeartbeats 1000000 in
theorem order_no (a b c : Int) (w : World) (hab : a ≠ b) (h1 : bef a b = false) :
    Calls Try.prog 5 #[.int .i64 a, .int .i64 b, .int .i64 c] w fun e w' => e = .returned (.bool true) ∧ Ext w w' := by
  have e0 : (a != b) = true := by simpa using hab
  have H := Lib.hid (bef_irr a)
  have H1 := Lib.hid h1
  have H2 := Lib.hid ((bef_total hab).trans (by rw [h1]; rfl : (!bef a b) = true))
  clear hab h1
  go_enter Try.func5, Try.ntmps5
  go_wp2_with fail
  refine (Before_is a a _).mono ?_; rintro e w1 ⟨rfl, hx1⟩
  rw [H.out]
  go_wp2_with fail
  refine (Before_is a b _).mono ?_; rintro e w2 ⟨rfl, hx2⟩
  rw [H1.out]
  go_wp2_with fail
  refine (Before_is b a _).mono ?_; rintro e w3 ⟨rfl, hx3⟩
  rw [H2.out]
  go_wp2_with fail
  refine (alive_is _).mono ?_; rintro e w4 ⟨rfl, hx4⟩
  go_wp2_with fail
  refine (Before_is a b _).mono ?_; rintro e w5 ⟨rfl, hx5⟩
  rw [H1.out]
  go_wp2_with fail
  go_ret
  exact ⟨rfl, (((hx1.step hx2).step hx3).step hx4).step hx5⟩

set_option maxHeartbeats 1000000 in
theorem order_half (a b c : Int) (w : World) (hab : a ≠ b) (h1 : bef a b = true) (h2 : bef b c = false) :
    Calls Try.prog 5 #[.int .i64 a, .int .i64 b, .int .i64 c] w fun e w' => e = .returned (.bool true) ∧ Ext w w' := by
  have e0 : (a != b) = true := by simpa using hab
  have H := Lib.hid (bef_irr a)
  have H1 := Lib.hid h1
  have H2 := Lib.hid ((bef_total hab).trans (by rw [h1]; rfl : (!bef a b) = false))
  have H3 := Lib.hid h2
  clear hab h1 h2
  go_enter Try.func5, Try.ntmps5
  go_wp2_with fail
  refine (Before_is a a _).mono ?_; rintro e w1 ⟨rfl, hx1⟩
  rw [H.out]
  go_wp2_with fail
  refine (Before_is a b _).mono ?_; rintro e w2 ⟨rfl, hx2⟩
  rw [H1.out]
  go_wp2_with fail
  refine (Before_is b a _).mono ?_; rintro e w3 ⟨rfl, hx3⟩
  rw [H2.out]
  go_wp2_with fail
  refine (alive_is _).mono ?_; rintro e w4 ⟨rfl, hx4⟩
  go_wp2_with fail
  refine (Before_is a b _).mono ?_; rintro e w5 ⟨rfl, hx5⟩
  rw [H1.out]
  go_wp2_with fail
  refine (Before_is b c _).mono ?_; rintro e w6 ⟨rfl, hx6⟩
  rw [H3.out]
  go_wp2_with fail
  go_ret
  exact ⟨rfl, ((((hx1.step hx2).step hx3).step hx4).step hx5).step hx6⟩

set_option maxHeartbeats 1000000 in
theorem order_yes (a b c : Int) (w : World) (hab : a ≠ b) (h1 : bef a b = true) (h2 : bef b c = true) :
    Calls Try.prog 5 #[.int .i64 a, .int .i64 b, .int .i64 c] w fun e w' => e = .returned (.bool true) ∧ Ext w w' := by
  have e0 : (a != b) = true := by simpa using hab
  have H := Lib.hid (bef_irr a)
  have H1 := Lib.hid h1
  have H2 := Lib.hid ((bef_total hab).trans (by rw [h1]; rfl : (!bef a b) = false))
  have H3 := Lib.hid h2
  have H4 := Lib.hid (bef_trans h1 h2)
  clear hab h1 h2
  go_enter Try.func5, Try.ntmps5
  go_wp2_with fail
  refine (Before_is a a _).mono ?_; rintro e w1 ⟨rfl, hx1⟩
  rw [H.out]
  go_wp2_with fail
  refine (Before_is a b _).mono ?_; rintro e w2 ⟨rfl, hx2⟩
  rw [H1.out]
  go_wp2_with fail
  refine (Before_is b a _).mono ?_; rintro e w3 ⟨rfl, hx3⟩
  rw [H2.out]
  go_wp2_with fail
  refine (alive_is _).mono ?_; rintro e w4 ⟨rfl, hx4⟩
  go_wp2_with fail
  refine (Before_is a b _).mono ?_; rintro e w5 ⟨rfl, hx5⟩
  rw [H1.out]
  go_wp2_with fail
  refine (Before_is b c _).mono ?_; rintro e w6 ⟨rfl, hx6⟩
  rw [H3.out]
  go_wp2_with fail
  refine (Before_is a c _).mono ?_; rintro e w7 ⟨rfl, hx7⟩
  rw [H4.out]
  go_wp2_with fail
  go_ret
  exact ⟨rfl, (((((hx1.step hx2).step hx3).step hx4).step hx5).step hx6).step hx7⟩

theorem MixOrder_walk (w : World) (a : Int) (_ : (Lit.int .i64 a).wf = true) (b : Int) (_ : (Lit.int .i64 b).wf = true) (c : Int) (_ : (Lit.int .i64 c).wf = true) :
    Calls Try.prog 5 #[.int .i64 a, .int .i64 b, .int .i64 c] w fun e w' => e = .returned (.bool true) ∧ Below w.heap.size w w' := by
  by_cases hab : a = b
  · subst hab
    exact order_same a c w
  · cases h1 : bef a b with
    | false => exact order_no a b c w hab h1
    | true =>
      cases h2 : bef b c with
      | false => exact order_half a b c w hab h1 h2
      | true => exact order_yes a b c w hab h1 h2

theorem rk_inj {a b : Int} (ha : -9223372036854775808 ≤ a ∧ a ≤ 9223372036854775807) (hb : -9223372036854775808 ≤ b ∧ b ≤ 9223372036854775807) (h : rkI a = rkI b) : a = b := by
  have r1 := wrap_rng (IntKind.u64.wrap a + 7)
  have r2 := wrap_rng (IntKind.u64.wrap b + 7)
  have := (mixI_inj _ _ r1.1 r1.2 r2.1 r2.2).1 h
  simp only [IntKind.wrap_u64] at this
  omega
theorem hash_apart {a b : Int} (h : rkI a ≠ rkI b) (h1 : hsI a = hsI b) : rkI a / 1048576 ≠ rkI b / 1048576 := by
  unfold hsI at h1
  omega

set_option maxHeartbeats 1000000 in
theorem hashes_same (a : Int) (w : World) :
    Calls Try.prog 6 #[.int .i64 a, .int .i64 a] w fun e w' => e = .returned (.bool true) ∧ Ext w w' := by
  have hb := rkI_rng a
  have hh := hsI_rng a
  have e1 : (hsI a == rkI a % 1048576) = true := by unfold hsI; simp
  go_enter Try.func6, Try.ntmps6
  go_wp2_with fail
  refine (Hash_is a _).mono ?_; rintro e w1 ⟨rfl, hx1⟩
  go_wp2_with fail
  refine (Hash_is a _).mono ?_; rintro e w2 ⟨rfl, hx2⟩
  go_wp2_with fail
  refine (Rank_is a _).mono ?_; rintro e w3 ⟨rfl, hx3⟩
  go_wp2_with fail
  refine (Rank_is a _).mono ?_; rintro e w4 ⟨rfl, hx4⟩
  go_wp2_with fail
  refine (alive_is _).mono ?_; rintro e w5 ⟨rfl, hx5⟩
  go_wp2_with fail
  refine (Rank_is a _).mono ?_; rintro e w6 ⟨rfl, hx6⟩
  go_wp2_with fail
  go_ret
  exact ⟨rfl, ((((hx1.step hx2).step hx3).step hx4).step hx5).step hx6⟩

set_option maxHeartbeats 1000000 in
theorem hashes_one (a b : Int) (w : World) (hab : a ≠ b) (h1 : hsI a = hsI b) (hr : rkI a ≠ rkI b) :
    Calls Try.prog 6 #[.int .i64 a, .int .i64 b] w fun e w' => e = .returned (.bool true) ∧ Ext w w' := by
  have hb := rkI_rng a
  have hb2 := rkI_rng b
  have hh := hsI_rng a
  have hh2 := hsI_rng b
  have e1 : (hsI a == rkI a % 1048576) = true := by unfold hsI; simp
  have e2 : (hsI a == hsI b) = true := by simpa using h1
  have e3 : (rkI a / 1048576 == rkI b / 1048576) = false := by simpa using hash_apart hr h1
  have e4 : (a == b) = false := by simpa using hab
  clear hab h1 hr
  go_enter Try.func6, Try.ntmps6
  go_wp2_with fail
  refine (Hash_is a _).mono ?_; rintro e w1 ⟨rfl, hx1⟩
  go_wp2_with fail
  refine (Hash_is b _).mono ?_; rintro e w2 ⟨rfl, hx2⟩
  go_wp2_with fail
  refine (Rank_is a _).mono ?_; rintro e w3 ⟨rfl, hx3⟩
  go_wp2_with fail
  refine (Rank_is b _).mono ?_; rintro e w4 ⟨rfl, hx4⟩
  go_wp2_with fail
  refine (alive_is _).mono ?_; rintro e w5 ⟨rfl, hx5⟩
  go_wp2_with fail
  refine (Rank_is a _).mono ?_; rintro e w6 ⟨rfl, hx6⟩
  go_wp2_with fail
  go_ret
  exact ⟨rfl, ((((hx1.step hx2).step hx3).step hx4).step hx5).step hx6⟩

set_option maxHeartbeats 1000000 in
theorem hashes_two (a b : Int) (w : World) (hab : a ≠ b) (h1 : hsI a ≠ hsI b) :
    Calls Try.prog 6 #[.int .i64 a, .int .i64 b] w fun e w' => e = .returned (.bool true) ∧ Ext w w' := by
  have hb := rkI_rng a
  have hh := hsI_rng a
  have hh2 := hsI_rng b
  have e1 : (hsI a == rkI a % 1048576) = true := by unfold hsI; simp
  have e2 : (hsI a == hsI b) = false := by simpa using h1
  have e4 : (a == b) = false := by simpa using hab
  clear hab h1
  go_enter Try.func6, Try.ntmps6
  go_wp2_with fail
  refine (Hash_is a _).mono ?_; rintro e w1 ⟨rfl, hx1⟩
  go_wp2_with fail
  refine (Hash_is b _).mono ?_; rintro e w2 ⟨rfl, hx2⟩
  go_wp2_with fail
  refine (alive_is _).mono ?_; rintro e w5 ⟨rfl, hx5⟩
  go_wp2_with fail
  refine (Rank_is a _).mono ?_; rintro e w6 ⟨rfl, hx6⟩
  go_wp2_with fail
  go_ret
  exact ⟨rfl, ((hx1.step hx2).step hx5).step hx6⟩

theorem MixHashes_walk (w : World) (a : Int) (ha : (Lit.int .i64 a).wf = true) (b : Int) (hb : (Lit.int .i64 b).wf = true) :
    Calls Try.prog 6 #[.int .i64 a, .int .i64 b] w fun e w' => e = .returned (.bool true) ∧ Below w.heap.size w w' := by
  have ra := bounds_i64 ha
  have rb := bounds_i64 hb
  by_cases hab : a = b
  · subst hab
    exact hashes_same a w
  · by_cases h1 : hsI a = hsI b
    · exact hashes_one a b w hab h1 (fun h => hab (rk_inj ra rb h))
    · exact hashes_two a b w hab h1

set_option maxHeartbeats 1000000 in
theorem picks_no1 (a b : Int) (w : World) (h1 : a < 1) :
    Calls Try.prog 7 #[.int .i64 a, .int .i64 b] w fun e w' => e = .returned (.bool true) ∧ Ext w w' := by
  have HP := Lib.hid (fun w => Pick_no a b w (fun h => by have h5 := h.1.1; have h6 := h.1.2; have h7 := h.2.1; have h8 := h.2.2; omega))
  go_enter Try.func7, Try.ntmps7
  go_wp2_with fail
  refine (HP.out _).mono ?_; rintro e w1 ⟨rfl, rfl⟩
  go_wp2_with fail
  refine (HP.out _).mono ?_; rintro e w1 ⟨rfl, rfl⟩
  go_wp2_with fail
  refine (alive_is _).mono ?_; rintro e w5 ⟨rfl, hx5⟩
  go_wp2_with fail
  go_ret
  exact ⟨rfl, hx5⟩
set_option maxHeartbeats 1000000 in
theorem picks_no2 (a b : Int) (w : World) (h1 : 1 ≤ a) (h0 : a ≤ 1073741824) (h2 : b < 1) :
    Calls Try.prog 7 #[.int .i64 a, .int .i64 b] w fun e w' => e = .returned (.bool true) ∧ Ext w w' := by
  have HP := Lib.hid (fun w => Pick_no a b w (fun h => by have h5 := h.1.1; have h6 := h.1.2; have h7 := h.2.1; have h8 := h.2.2; omega))
  go_enter Try.func7, Try.ntmps7
  go_wp2_with fail
  refine (HP.out _).mono ?_; rintro e w1 ⟨rfl, rfl⟩
  go_wp2_with fail
  refine (HP.out _).mono ?_; rintro e w1 ⟨rfl, rfl⟩
  go_wp2_with fail
  refine (alive_is _).mono ?_; rintro e w5 ⟨rfl, hx5⟩
  go_wp2_with fail
  go_ret
  exact ⟨rfl, hx5⟩
set_option maxHeartbeats 1000000 in
theorem picks_no3 (a b : Int) (w : World) (h1 : 1073741824 < a) :
    Calls Try.prog 7 #[.int .i64 a, .int .i64 b] w fun e w' => e = .returned (.bool true) ∧ Ext w w' := by
  have HP := Lib.hid (fun w => Pick_no a b w (fun h => by have h5 := h.1.1; have h6 := h.1.2; have h7 := h.2.1; have h8 := h.2.2; omega))
  go_enter Try.func7, Try.ntmps7
  go_wp2_with fail
  refine (HP.out _).mono ?_; rintro e w1 ⟨rfl, rfl⟩
  go_wp2_with fail
  refine (HP.out _).mono ?_; rintro e w1 ⟨rfl, rfl⟩
  go_wp2_with fail
  refine (alive_is _).mono ?_; rintro e w5 ⟨rfl, hx5⟩
  go_wp2_with fail
  go_ret
  exact ⟨rfl, hx5⟩
set_option maxHeartbeats 1000000 in
theorem picks_no4 (a b : Int) (w : World) (h1 : 1 ≤ a) (h2 : a ≤ 1073741824) (h0 : 1 ≤ b) (h3 : 1073741824 < b) :
    Calls Try.prog 7 #[.int .i64 a, .int .i64 b] w fun e w' => e = .returned (.bool true) ∧ Ext w w' := by
  have e0 : decide (b ≤ 1073741824) = false := by simp; omega
  have HP := Lib.hid (fun w => Pick_no a b w (fun h => by have h5 := h.1.1; have h6 := h.1.2; have h7 := h.2.1; have h8 := h.2.2; omega))
  go_enter Try.func7, Try.ntmps7
  go_wp2_with fail
  refine (HP.out _).mono ?_; rintro e w1 ⟨rfl, rfl⟩
  go_wp2_with fail
  refine (HP.out _).mono ?_; rintro e w1 ⟨rfl, rfl⟩
  go_wp2_with fail
  refine (alive_is _).mono ?_; rintro e w5 ⟨rfl, hx5⟩
  go_wp2_with fail
  go_ret
  exact ⟨rfl, hx5⟩

set_option maxHeartbeats 1000000 in
theorem picks_yes (a b : Int) (w : World) (ha : Sz a) (hb : Sz b) :
    Calls Try.prog 7 #[.int .i64 a, .int .i64 b] w fun e w' => e = .returned (.bool true) ∧ Ext w w' := by
  have HP := Lib.hid (fun w => Pick_yes a b w ha hb)
  obtain ⟨a1, a2⟩ := ha
  obtain ⟨b1, b2⟩ := hb
  go_enter Try.func7, Try.ntmps7
  go_wp2_with fail
  refine (HP.out _).mono ?_; rintro e w1 ⟨rfl, hx1⟩
  go_wp2_with fail
  refine (HP.out _).mono ?_; rintro e w2 ⟨rfl, hx2⟩
  go_wp2_with fail
  refine (alive_is _).mono ?_; rintro e w5 ⟨rfl, hx5⟩
  go_wp2_with fail
  go_ret
  exact ⟨rfl, (hx1.step hx2).step hx5⟩

theorem MixPicks_walk (w : World) (a : Int) (_ : (Lit.int .i64 a).wf = true) (b : Int) (_ : (Lit.int .i64 b).wf = true) :
    Calls Try.prog 7 #[.int .i64 a, .int .i64 b] w fun e w' => e = .returned (.bool true) ∧ Below w.heap.size w w' := by
  by_cases h1 : 1 ≤ a
  · by_cases h2 : a ≤ 1073741824
    · by_cases h3 : 1 ≤ b
      · by_cases h4 : b ≤ 1073741824
        · exact picks_yes a b w ⟨h1, h2⟩ ⟨h3, h4⟩
        · exact picks_no4 a b w h1 h2 h3 (by omega)
      · exact picks_no2 a b w h1 h2 (by omega)
    · exact picks_no3 a b w (by omega)
  · exact picks_no1 a b w (by omega)

end Go.Proofs.Ytlnmebjekdkedaa
