/-
  Contracts of package machine: which processes may be.
-/
import Derived.Test.YteiabmbfjfaboaaWord2
import Derived.Test.YteiabmbfjfaboaaMach
import Derived.RegionTactic
import Derived.LoopTactic
set_option linter.unusedVariables false
set_option linter.unusedSimpArgs false
namespace Go.Proofs.Yteiabmbfjfaboaa
open Go.RowKit

theorem within_is (a n : Int) (b : Bool) (hb : b = true ↔ (0 ≤ a ∧ a < n)) (w : World) :
    Calls Try.prog 26 #[.int .i64 a, .int .i64 n] w fun e w' => e = .returned (.bool b) ∧ w = w' := by
  by_cases h1 : 0 ≤ a
  · by_cases h2 : a < n
    · obtain rfl : b = true := hb.2 ⟨h1, h2⟩
      have e1 : decide (0 ≤ a) = true := by simp; omega
      have e2 : decide (a < n) = true := by simp; omega
      clear hb
      go_enter Try.func26, Try.ntmps26
      go_wp2
      go_ret
      exact ⟨rfl, rfl⟩
    · obtain rfl : b = false := by cases b; rfl; exact absurd (hb.1 rfl).2 h2
      have e1 : decide (0 ≤ a) = true := by simp; omega
      have e2 : decide (a < n) = false := by simp; omega
      clear hb
      go_enter Try.func26, Try.ntmps26
      go_wp2
      go_ret
      exact ⟨rfl, rfl⟩
  · obtain rfl : b = false := by cases b; rfl; exact absurd (hb.1 rfl).1 h1
    have e1 : decide (0 ≤ a) = false := by simp; omega
    clear hb
    go_enter Try.func26, Try.ntmps26
    go_wp2
    go_ret
    exact ⟨rfl, rfl⟩

theorem within_yes (a n : Int) (h1 : 0 ≤ a) (h2 : a < n) (w : World) : Calls Try.prog 26 #[.int .i64 a, .int .i64 n] w fun e w' => e = .returned (.bool true) ∧ w = w' :=
  within_is a n true (by simp [h1, h2]) w
theorem within_no (a n : Int) (h : ¬ (0 ≤ a ∧ a < n)) (w : World) : Calls Try.prog 26 #[.int .i64 a, .int .i64 n] w fun e w' => e = .returned (.bool false) ∧ w = w' :=
  within_is a n false (by simpa using h) w

set_option maxHeartbeats 800000 in
theorem instr_low (x : Ins) (n : Int) (w : World) (h : x.k < 1) :
    Calls Try.prog 28 #[.agg #[.int .i64 x.k, .int .i64 x.r, .int .i64 x.i, .int .u64 x.a, .int .i64 x.b], .int .i64 n] w fun e w' => e = .returned (.bool false) ∧ Ext w w' := by
  go_enter Try.func28, Try.ntmps28
  go_wp2
  go_ret
  exact ⟨rfl, (Ext.refl w).new _⟩
set_option maxHeartbeats 800000 in
theorem instr_high (x : Ins) (n : Int) (w : World) (h0 : 1 ≤ x.k) (h : 8 < x.k) :
    Calls Try.prog 28 #[.agg #[.int .i64 x.k, .int .i64 x.r, .int .i64 x.i, .int .u64 x.a, .int .i64 x.b], .int .i64 n] w fun e w' => e = .returned (.bool false) ∧ Ext w w' := by
  go_enter Try.func28, Try.ntmps28
  go_wp2
  go_ret
  exact ⟨rfl, (Ext.refl w).new _⟩
set_option maxHeartbeats 800000 in
theorem instr_reg (x : Ins) (n : Int) (w : World) (h0 : 1 ≤ x.k) (h1 : x.k ≤ 8) (h : ¬ (0 ≤ x.r ∧ x.r ≤ 3)) :
    Calls Try.prog 28 #[.agg #[.int .i64 x.k, .int .i64 x.r, .int .i64 x.i, .int .u64 x.a, .int .i64 x.b], .int .i64 n] w fun e w' => e = .returned (.bool false) ∧ Ext w w' := by
  have H := Lib.hid (fun w => within_no x.r 4 (by omega) w)
  clear h
  go_enter Try.func28, Try.ntmps28
  go_wp2_with fail
  refine (H.out _).mono ?_; rintro e w' ⟨rfl, rfl⟩
  go_wp2_with fail
  go_ret
  exact ⟨rfl, (Ext.refl w).new _⟩
set_option maxHeartbeats 800000 in
theorem instr_at (x : Ins) (n : Int) (w : World) (h0 : 1 ≤ x.k) (h1 : x.k ≤ 8) (h2 : 0 ≤ x.r ∧ x.r ≤ 3) (h : ¬ (0 ≤ x.i ∧ x.i ≤ 63)) :
    Calls Try.prog 28 #[.agg #[.int .i64 x.k, .int .i64 x.r, .int .i64 x.i, .int .u64 x.a, .int .i64 x.b], .int .i64 n] w fun e w' => e = .returned (.bool false) ∧ Ext w w' := by
  have H := Lib.hid (fun w => within_yes x.r 4 (by omega) (by omega) w)
  have H2 := Lib.hid (fun w => within_no x.i 64 (by omega) w)
  clear h h2
  go_enter Try.func28, Try.ntmps28
  go_wp2_with fail
  refine (H.out _).mono ?_; rintro e w' ⟨rfl, rfl⟩
  go_wp2_with fail
  refine (H2.out _).mono ?_; rintro e w' ⟨rfl, rfl⟩
  go_wp2_with fail
  go_ret
  exact ⟨rfl, (Ext.refl w).new _⟩
set_option maxHeartbeats 800000 in
theorem instr_sum (x : Ins) (n : Int) (w : World) (h2 : 0 ≤ x.r ∧ x.r ≤ 3) (h3 : 0 ≤ x.i ∧ x.i ≤ 63) (hk : x.k = 6) (b : Bool) (hb : b = true ↔ (0 ≤ x.b ∧ x.b < 4)) :
    Calls Try.prog 28 #[.agg #[.int .i64 x.k, .int .i64 x.r, .int .i64 x.i, .int .u64 x.a, .int .i64 x.b], .int .i64 n] w fun e w' => e = .returned (.bool b) ∧ Ext w w' := by
  have H := Lib.hid (fun w => within_yes x.r 4 (by omega) (by omega) w)
  have H2 := Lib.hid (fun w => within_yes x.i 64 (by omega) (by omega) w)
  have H3 := Lib.hid (fun w => within_is x.b 4 b hb w)
  clear h2 h3 hb
  go_enter Try.func28, Try.ntmps28
  go_wp2_with fail
  refine (H.out _).mono ?_; rintro e w' ⟨rfl, rfl⟩
  go_wp2_with fail
  refine (H2.out _).mono ?_; rintro e w' ⟨rfl, rfl⟩
  go_wp2_with fail
  refine (H3.out _).mono ?_; rintro e w' ⟨rfl, rfl⟩
  go_wp2_with fail
  go_ret
  exact ⟨rfl, (Ext.refl w).new _⟩
set_option maxHeartbeats 800000 in
theorem instr_branch (x : Ins) (n : Int) (w : World) (h2 : 0 ≤ x.r ∧ x.r ≤ 3) (h3 : 0 ≤ x.i ∧ x.i ≤ 63) (hk : x.k = 7) (b : Bool) (hb : b = true ↔ (0 ≤ x.b ∧ x.b < n)) :
    Calls Try.prog 28 #[.agg #[.int .i64 x.k, .int .i64 x.r, .int .i64 x.i, .int .u64 x.a, .int .i64 x.b], .int .i64 n] w fun e w' => e = .returned (.bool b) ∧ Ext w w' := by
  have H := Lib.hid (fun w => within_yes x.r 4 (by omega) (by omega) w)
  have H2 := Lib.hid (fun w => within_yes x.i 64 (by omega) (by omega) w)
  have H3 := Lib.hid (fun w => within_is x.b n b hb w)
  clear h2 h3 hb
  go_enter Try.func28, Try.ntmps28
  go_wp2_with fail
  refine (H.out _).mono ?_; rintro e w' ⟨rfl, rfl⟩
  go_wp2_with fail
  refine (H2.out _).mono ?_; rintro e w' ⟨rfl, rfl⟩
  go_wp2_with fail
  refine (H3.out _).mono ?_; rintro e w' ⟨rfl, rfl⟩
  go_wp2_with fail
  go_ret
  exact ⟨rfl, (Ext.refl w).new _⟩
set_option maxHeartbeats 800000 in
theorem instr_other (x : Ins) (n : Int) (w : World) (h0 : 1 ≤ x.k) (h1 : x.k ≤ 8) (h2 : 0 ≤ x.r ∧ x.r ≤ 3) (h3 : 0 ≤ x.i ∧ x.i ≤ 63) (h6 : (x.k == 6) = false) (h7 : (x.k == 7) = false) :
    Calls Try.prog 28 #[.agg #[.int .i64 x.k, .int .i64 x.r, .int .i64 x.i, .int .u64 x.a, .int .i64 x.b], .int .i64 n] w fun e w' => e = .returned (.bool true) ∧ Ext w w' := by
  have H := Lib.hid (fun w => within_yes x.r 4 (by omega) (by omega) w)
  have H2 := Lib.hid (fun w => within_yes x.i 64 (by omega) (by omega) w)
  clear h2 h3
  go_enter Try.func28, Try.ntmps28
  go_wp2_with fail
  refine (H.out _).mono ?_; rintro e w' ⟨rfl, rfl⟩
  go_wp2_with fail
  refine (H2.out _).mono ?_; rintro e w' ⟨rfl, rfl⟩
  go_wp2_with fail
  go_ret
  exact ⟨rfl, (Ext.refl w).new _⟩

theorem instr_is (x : Ins) (n : Nat) (b : Bool) (hb : b = true ↔ x.Ok n) (w : World) :
    Calls Try.prog 28 #[.agg #[.int .i64 x.k, .int .i64 x.r, .int .i64 x.i, .int .u64 x.a, .int .i64 x.b], .int .i64 n] w fun e w' => e = .returned (.bool b) ∧ Ext w w' := by
  unfold Ins.Ok at hb
  have no (h : ¬ x.Ok n) : b = false := by
    cases b
    · rfl
    · exact absurd (hb.1 rfl) h
  unfold Ins.Ok at no
  by_cases h0 : 1 ≤ x.k
  · by_cases h1 : x.k ≤ 8
    · by_cases h2 : 0 ≤ x.r ∧ x.r ≤ 3
      · by_cases h3 : 0 ≤ x.i ∧ x.i ≤ 63
        · by_cases h6 : x.k = 6
          · exact instr_sum x n w h2 h3 h6 b (by rw [hb]; omega)
          · by_cases h7 : x.k = 7
            · exact instr_branch x n w h2 h3 h7 b (by rw [hb]; omega)
            · rw [hb.2 (by omega)]
              exact instr_other x n w h0 h1 h2 h3 (by simpa using h6) (by simpa using h7)
        · rw [no (fun h => h3 h.2.2.1)]
          exact instr_at x n w h0 h1 h2 h3
      · rw [no (fun h => h2 h.2.1)]
        exact instr_reg x n w h0 h1 h2
    · rw [no (fun h => h1 h.1.2)]
      exact instr_high x n w h0 (by omega)
  · rw [no (fun h => h0 h.1.1)]
    exact instr_low x n w (by omega)

end Go.Proofs.Yteiabmbfjfaboaa
