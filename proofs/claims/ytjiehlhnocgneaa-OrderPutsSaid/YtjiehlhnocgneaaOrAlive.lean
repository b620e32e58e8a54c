/-
  Two items compared; contract: the second one of three (alive of the statements of layer 7).
-/
import Derived.Test.YtjiehlhnocgneaaOrCalls
import Derived.Test.YtjiehlhnocgneaaRfBuild
set_option linter.unusedVariables false
set_option linter.unusedSimpArgs false
namespace Go.Proofs.Ytjiehlhnocgneaa
open Go.RowKit

theorem part_it {w : World} (cs : Array Value) (j : Nat) (v : Value) (hv : cs[j]? = some v) : (part 2 cs j).run Try.prog w = .ok v w := by
  simp [part, isAgg, run_underlying Try.underlying2, hv]
theorem it_eq (a b c d : Int) (w : World) : (Op.equalIn 10000 60 (.agg #[.int .i64 a, .int .i64 b]) (.agg #[.int .i64 c, .int .i64 d])).run Try.prog w = .ok (decide (a = c ∧ b = d)) w := by
  have hu := Try.underlying60
  rw [show (10000 : Nat) = 9999 + 1 from rfl, run_equalIn_struct w 9999 60 _ _ (by kernel_rfl) (by kernel_rfl)]
  unfold Program.fieldsOf
  rw [hu]
  dsimp only
  have e : decide (a = c ∧ b = d) = (a == c && (b == d && true)) := by
    rw [Bool.eq_iff_iff]
    simp
  rw [e]
  refine eqFields_step (ty := 2) (o := 0) (part_it _ 0 _ rfl) (part_it _ 0 _ rfl) (run_equalIn_int w 9998 2 .i64 .i64 _ _ Try.underlying2) (by decide) rfl rfl ?_
  refine eqFields_step (ty := 2) (o := 1) (part_it _ 1 _ rfl) (part_it _ 1 _ rfl) (run_equalIn_int w 9998 2 .i64 .i64 _ _ Try.underlying2) (by decide) rfl rfl ?_
  simp [Op.eqFields]
theorem it_same (a b : Int) (w : World) : (Op.equalIn 10000 60 (.agg #[.int .i64 a, .int .i64 b]) (.agg #[.int .i64 a, .int .i64 b])).run Try.prog w = .ok true w := by
  rw [it_eq]; simp

set_option maxHeartbeats 4000000 in
set_option maxRecDepth 100000 in
theorem alive7_is (w : World) : Calls Try.prog 34 #[] w fun e w' => e = .returned (.bool true) ∧ Ext w w' := by
  obtain ⟨w1, hw1⟩ : ∃ w1, w1 = w.alloc (.cells #[.int .i64 1, .int .i64 0, .int .i64 5, .int .i64 2, .int .i64 9, .int .i64 0] 60) := ⟨_, rfl⟩
  have hr : RdI w1 (some ⟨w.heap.size, 0, none⟩) 3 [(1, 0), (5, 2), (9, 0)] := by rw [hw1]; exact Rd.lit w #[.int .i64 1, .int .i64 0, .int .i64 5, .int .i64 2, .int .i64 9, .int .i64 0] 60 3 rfl
  have HBd := Lib.hid (build_is 9 3 [(1, 0), (5, 2), (9, 0)] (some ⟨w.heap.size, 0, none⟩) 3 w1 (by omega) (by omega) rfl (by omega) (by omega) (Nat.le_refl _) (by unfold maxLen; omega) hr (by simp [Srt]))
  have X1 := Lib.hid (show Ext w w1 by rw [hw1]; exact (Ext.refl w).new _)
  have H1 := Lib.hid hw1
  have heq := it_same 5 2
  rw [show ((9 : Nat) : Int) = 9 from rfl] at HBd
  clear hw1 hr
  go_enter Try.func34, Try.ntmps34
  go_wp2_with fail
  rw [← H1.out]
  unfold BuildA at HBd
  refine HBd.out.mono ?_
  rintro e w2 ⟨A, n, c, B, m, d, z, rfl, ⟨A', n', c', B', m', d', ns, fs, t, e1, e2, hA, hmay, hM, hz, hrow, hU, hq⟩, hx2⟩
  injection e1 with e11 e12 e13; injection e2 with e21 e22 e23
  subst e11 e12 e13 e21 e22 e23
  subst hz
  have a1 := hmay.le
  have a2 := hmay.len
  have a3 := hA.len
  have a4 := hA.lenF
  obtain ⟨w3, hw3⟩ : ∃ w3, w3 = w2.alloc (.cells #[.slice A n c, .slice B m d] 25) := ⟨_, rfl⟩
  obtain ⟨B3, hx3, hs3⟩ := box_made hw3
  have HB3 := Lib.hid B3
  have X3 := Lib.hid (X1.out.step (hx2.step hx3))
  have H3 := Lib.hid hw3
  have HAt := Lib.hid (orAt_is A B n m c d ns fs t 1 w3 (hA.to hx3) (by omega) (by omega) hU hmay hM (by omega))
  rw [show t.row[(1 : Int).toNat]? = some (5, 2) by rw [hrow]; rfl] at HAt
  have HSz := Lib.hid (fun W (hW : Ext w3 W) => orSize_ok A B n m c d ns fs t W (hA.to (hx3.step hW)) (by omega) (by omega) hU hmay hM)
  rw [show (t.size : Int) = 3 by rw [← T.row_length, hrow]; rfl] at HSz
  have k0 : w3.cell? ⟨w2.heap.size, 0, none⟩ = some (.slice A n c) := B3.cell 0
  have k1 : w3.cell? ⟨w2.heap.size, 1, none⟩ = some (.slice B m d) := B3.cell 1
  rw [hw3] at k0 k1
  clear hw3 B3 hx3 hs3 hx2 hA hmay hM hrow hq a1 a2 a3 a4
  generalize t.ref = r at *
  go_wp2_with fail
  rw [← H3.out]
  unfold ItemA itV at HAt
  refine HAt.out.mono ?_; rintro e w4 ⟨rfl, hx4⟩
  obtain ⟨w5, hw5⟩ : ∃ w5, w5 = w4.alloc (.cells #[.int .i64 5, .int .i64 2] 60) := ⟨_, rfl⟩
  obtain ⟨B5, hx5, hs5⟩ := box_made hw5
  have H5 := Lib.hid hw5
  have HB5 := Lib.hid B5
  have X5 := Lib.hid (hx4.step hx5)
  have k0 : w5.cell? ⟨w2.heap.size, 0, none⟩ = some (.slice A n c) := (HB3.out.to X5.out).cell 0
  have k1 : w5.cell? ⟨w2.heap.size, 1, none⟩ = some (.slice B m d) := (HB3.out.to X5.out).cell 1
  rw [hw5] at k0 k1
  clear hw5 B5 hx4 hx5 hs5
  go_wp2_with fail
  rw [← H5.out]
  unfold IntE at HSz
  refine (HSz.out _ X5.out).mono ?_; rintro e w6 ⟨rfl, hx6⟩
  have i0 : w6.cell? ⟨w4.heap.size, 0, none⟩ = some (.int .i64 5) := (HB5.out.to hx6).cell 0
  have i1 : w6.cell? ⟨w4.heap.size, 1, none⟩ = some (.int .i64 2) := (HB5.out.to hx6).cell 1
  have X6 := Lib.hid (X3.out.step (X5.out.step hx6))
  clear hx6
  go_wp2_with fail
  go_ret
  exact ⟨rfl, X6.out⟩

end Go.Proofs.Ytjiehlhnocgneaa
