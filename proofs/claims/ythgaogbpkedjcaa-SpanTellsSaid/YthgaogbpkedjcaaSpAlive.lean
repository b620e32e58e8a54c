/-
  Contract: two of three (alive of the statements of layer 8); a map told by its row: All.
-/
import Derived.Test.YthgaogbpkedjcaaSpStep
import Derived.Test.YthgaogbpkedjcaaGL
set_option linter.unusedVariables false
set_option linter.unusedSimpArgs false
namespace Go.Proofs.Ythgaogbpkedjcaa
open Go.RowKit

theorem av_all {W : World} {A B : Option Addr} {n m c d : Nat} {ns : List Nd} {fs : List Int} {z : Int} {l : Row} (h : Av W A n B m ns fs) (hM : MapV ns z l) (low high : Int) :
    ∀ W', Ext W W' → Calls Try.prog 9 #[.agg #[.slice A n c, .slice B m d], .int .u64 z, .int .i64 low, .int .i64 high] W' (AllA (inn l low high) W') := by
  intro W' hx
  obtain ⟨t, h1, rfl, rfl, hU⟩ := hM
  exact all_is A B n m c d ns fs t low high W' (h.to hx).ar h.n1 h.m1 hU h.may h1
theorem av_open {W : World} {A B : Option Addr} {n m c d : Nat} {ns : List Nd} {fs : List Int} {z : Int} {l : Row} (h : Av W A n B m ns fs) (hM : MapV ns z l) (low high : Int) :
    ∀ W', Ext W W' → Calls Try.prog 10 #[.agg #[.slice A n c, .slice B m d], .int .u64 z, .int .i64 low, .int .i64 high] W' (OpenA z low high 0 W') := by
  intro W' hx
  obtain ⟨t, h1, rfl, rfl, hU⟩ := hM
  exact open_any A B n m c d ns fs t.ref low high W' (h.to hx).ar h.n1 h.m1 hU true (by simp only [true_iff]; exact ⟨h.may, t, h1, rfl⟩)
theorem av_step {W : World} {A B : Option Addr} {n m c d : Nat} {ns : List Nd} {fs : List Int} {z : Int} {l : Row} (h : Av W A n B m ns fs) (hM : MapV ns z l) (a b : Int) (ha : -9223372036854775808 ≤ a) (hb : b ≤ 9223372036854775807) :
    ∀ W', Ext W W' → Calls Try.prog 13 #[.agg #[.slice A n c, .slice B m d], cuv z a b false] W' (StepO l[(lo l a).length]? z a b W') := fun W' hx => step_is A B n m c d ns fs z a b l W' (h.to hx) hM ha hb

set_option maxHeartbeats 4000000 in
set_option maxRecDepth 100000 in
theorem alive8_is (w : World) : Calls Try.prog 15 #[] w fun e w' => e = .returned (.bool true) ∧ Ext w w' := by
  obtain ⟨w1, hw1⟩ : ∃ w1, w1 = w.alloc (.cells #[.int .i64 1, .int .i64 0, .int .i64 5, .int .i64 0, .int .i64 9, .int .i64 0] 40) := ⟨_, rfl⟩
  have hr : RdI w1 (some ⟨w.heap.size, 0, none⟩) 3 [(1, 0), (5, 0), (9, 0)] := by rw [hw1]; exact Rd.lit w #[.int .i64 1, .int .i64 0, .int .i64 5, .int .i64 0, .int .i64 9, .int .i64 0] 40 3 rfl
  have HBd := Lib.hid (build_is 9 3 [(1, 0), (5, 0), (9, 0)] (some ⟨w.heap.size, 0, none⟩) 3 w1 (by omega) (by omega) rfl (by omega) (by omega) (Nat.le_refl _) (by unfold maxLen; omega) hr (by simp [Srt]))
  have X1 := Lib.hid (show Ext w w1 by rw [hw1]; exact (Ext.refl w).new _)
  have H1 := Lib.hid hw1
  rw [show ((9 : Nat) : Int) = 9 from rfl] at HBd
  clear hw1 hr
  go_enter Try.func15, Try.ntmps15
  go_wp2_with fail
  rw [← H1.out]
  unfold BuildA at HBd
  refine HBd.out.mono ?_
  rintro e w2 ⟨A, n, c, B, m, d, z, rfl, ⟨A', n', c', B', m', d', ns, fs, t, e1, e2, hA, hmay, hM, hz, hrow, hU, hq⟩, hx2⟩
  injection e1 with e11 e12 e13; injection e2 with e21 e22 e23
  subst e11 e12 e13 e21 e22 e23
  subst hz
  have a1 := hmay.le
  have a2 := hmay.len
  have a3 := hA.len
  have a4 := hA.lenF
  obtain ⟨w3, hw3⟩ : ∃ w3, w3 = w2.alloc (.cells #[.slice A n c, .slice B m d] 25) := ⟨_, rfl⟩
  obtain ⟨B3, hx3, hs3⟩ := box_made hw3
  have X3 := Lib.hid (X1.out.step (hx2.step hx3))
  have H3 := Lib.hid hw3
  have HAll := Lib.hid (all_is A B n m c d ns fs t 2 9 w3 (hA.to hx3) (by omega) (by omega) hU hmay hM)
  rw [show inn t.row 2 9 = [(5, 0), (9, 0)] by rw [hrow]; rfl] at HAll
  have k0 : w3.cell? ⟨w2.heap.size, 0, none⟩ = some (.slice A n c) := B3.cell 0
  have k1 : w3.cell? ⟨w2.heap.size, 1, none⟩ = some (.slice B m d) := B3.cell 1
  rw [hw3] at k0 k1
  clear hw3 B3 hx3 hs3 hx2 hA hmay hM hrow hq a1 a2 a3 a4
  generalize t.ref = r at *
  go_wp2_with fail
  rw [← H3.out]
  unfold AllA at HAll
  refine HAll.out.mono ?_; rintro e w4 ⟨A', j, c', rfl, hrr, hx4⟩
  have X4 := Lib.hid (X3.out.step hx4)
  obtain rfl : j = 2 := hrr.len
  obtain ⟨ad, rfl, hit⟩ := hrr.rdi.item (show [((5 : Int), (0 : Int)), (9, 0)][0]? = some (5, 0) from rfl)
  obtain ⟨c0, c1⟩ := hit
  have HCap := Lib.hid hrr.cap
  clear k0 k1 hx4 hrr
  simp only [Nat.zero_mul, addr_zero] at c0
  have k5 : w4.cell? ad = some (.int .i64 5) := c0
  clear c0 c1
  go_wp2_with fail
  go_ret
  exact ⟨rfl, X4.out⟩

end Go.Proofs.Ythgaogbpkedjcaa
