/-
  The walks of RefTells.
-/
import Derived.Test.YtoimiighiaggnaaRef
set_option linter.unusedVariables false
set_option linter.unusedSimpArgs false
namespace Go.Proofs.Ytoimiighiaggnaa
open Go.RowKit

set_option maxHeartbeats 400000 in
theorem tells_yes_zero (p g : Int)  (w : World) (hm : May p g) :
    Calls Try.prog 3 #[.int .i64 p, .int .i64 g, .int .u64 0] w fun e w' => e = .returned (.bool true) ∧ w = w' := by
  have HM := Lib.hid hm
  clear hm
  have HD := Lib.hid (show decide (May p g) = true from decide_eq_true HM.out)
  go_enter Try.func3, Try.ntmps3
  go_wp2_with fail
  refine (Of_yes p g _ HM.out).mono ?_; rintro e w1 ⟨rfl, rfl⟩
  go_wp2_with fail
  refine (Is_is p g _).mono ?_; rintro e w1 ⟨rfl, rfl⟩
  rw [HD.out]
  go_wp2_with fail
  refine (want_of p g _ HM.out).mono ?_; rintro e w1 ⟨rfl, rfl⟩
  go_wp2_with fail
  refine (Is_is p g _).mono ?_; rintro e w1 ⟨rfl, rfl⟩
  rw [HD.out]
  go_wp2_with fail
  refine (alive_yes _).mono ?_; rintro e w1 ⟨rfl, rfl⟩
  go_wp2_with fail
  refine (want_gen 0 _ (by omega) (by omega)).mono ?_; rintro e w1 ⟨rfl, rfl⟩
  rw [if_neg (show ¬ Node 0 by omega)]
  go_wp2_with fail
  refine (Right_zero _).mono ?_; rintro e w1 ⟨rfl, rfl⟩
  go_wp2_with fail
  refine (Place_no 0 _ (by omega) (by omega) (by omega)).mono ?_; rintro e w1 ⟨rfl, rfl⟩
  go_wp2_with fail
  refine (Gen_no 0 _ (by omega) (by omega) (by omega)).mono ?_; rintro e w1 ⟨rfl, rfl⟩
  go_wp2_with fail
  go_ret
  exact ⟨rfl, rfl⟩

set_option maxHeartbeats 400000 in
theorem tells_yes_not (p g : Int) (r : Int) (h0 : 0 ≤ r) (h1 : r ≤ 18446744073709551615) (hz : ¬ r = 0) (hn : ¬ Node r) (w : World) (hm : May p g) :
    Calls Try.prog 3 #[.int .i64 p, .int .i64 g, .int .u64 r] w fun e w' => e = .returned (.bool true) ∧ w = w' := by
  have HM := Lib.hid hm
  clear hm
  have HD := Lib.hid (show decide (May p g) = true from decide_eq_true HM.out)
  have HN := Lib.hid hn
  clear hn
  have HE := Lib.hid (decide_eq_false HN.out)
  have HZ := Lib.hid hz
  have e0 : (r == 0) = false := by simp [hz]
  clear hz
  go_enter Try.func3, Try.ntmps3
  go_wp2_with fail
  refine (Of_yes p g _ HM.out).mono ?_; rintro e w1 ⟨rfl, rfl⟩
  go_wp2_with fail
  refine (Is_is p g _).mono ?_; rintro e w1 ⟨rfl, rfl⟩
  rw [HD.out]
  go_wp2_with fail
  refine (want_of p g _ HM.out).mono ?_; rintro e w1 ⟨rfl, rfl⟩
  go_wp2_with fail
  refine (Is_is p g _).mono ?_; rintro e w1 ⟨rfl, rfl⟩
  rw [HD.out]
  go_wp2_with fail
  refine (alive_yes _).mono ?_; rintro e w1 ⟨rfl, rfl⟩
  go_wp2_with fail
  refine (want_gen r _ h0 h1).mono ?_; rintro e w1 ⟨rfl, rfl⟩
  rw [if_neg HN.out]
  go_wp2_with fail
  refine (Right_not r _ h0 h1 HZ.out).mono ?_; rintro e w1 ⟨rfl, rfl⟩
  rw [HE.out]
  go_wp2_with fail
  refine (Place_no r _ h0 h1 HN.out).mono ?_; rintro e w1 ⟨rfl, rfl⟩
  go_wp2_with fail
  refine (Gen_no r _ h0 h1 HN.out).mono ?_; rintro e w1 ⟨rfl, rfl⟩
  go_wp2_with fail
  go_ret
  exact ⟨rfl, rfl⟩

set_option maxHeartbeats 400000 in
theorem tells_yes_node (p g : Int) (r : Int) (h0 : 0 ≤ r) (h1 : r ≤ 18446744073709551615) (hn : Node r) (w : World) (hm : May p g) :
    Calls Try.prog 3 #[.int .i64 p, .int .i64 g, .int .u64 r] w fun e w' => e = .returned (.bool true) ∧ w = w' := by
  have HM := Lib.hid hm
  clear hm
  have HD := Lib.hid (show decide (May p g) = true from decide_eq_true HM.out)
  have hz : ¬ r = 0 := by omega
  have HN := Lib.hid hn
  clear hn
  have HE := Lib.hid (decide_eq_true HN.out)
  have HZ := Lib.hid hz
  have e0 : (r == 0) = false := by simp [hz]
  clear hz
  go_enter Try.func3, Try.ntmps3
  go_wp2_with fail
  refine (Of_yes p g _ HM.out).mono ?_; rintro e w1 ⟨rfl, rfl⟩
  go_wp2_with fail
  refine (Is_is p g _).mono ?_; rintro e w1 ⟨rfl, rfl⟩
  rw [HD.out]
  go_wp2_with fail
  refine (want_of p g _ HM.out).mono ?_; rintro e w1 ⟨rfl, rfl⟩
  go_wp2_with fail
  refine (Is_is p g _).mono ?_; rintro e w1 ⟨rfl, rfl⟩
  rw [HD.out]
  go_wp2_with fail
  refine (alive_yes _).mono ?_; rintro e w1 ⟨rfl, rfl⟩
  go_wp2_with fail
  refine (want_gen r _ h0 h1).mono ?_; rintro e w1 ⟨rfl, rfl⟩
  rw [if_pos HN.out]
  go_wp2_with fail
  refine (Right_not r _ h0 h1 HZ.out).mono ?_; rintro e w1 ⟨rfl, rfl⟩
  rw [HE.out]
  go_wp2_with fail
  refine (Gen_yes r _ h0 h1 HN.out).mono ?_; rintro e w1 ⟨rfl, rfl⟩
  go_wp2_with fail
  refine (Place_yes r _ h0 h1 HN.out).mono ?_; rintro e w1 ⟨rfl, rfl⟩
  go_wp2_with fail
  go_ret
  exact ⟨rfl, rfl⟩

set_option maxHeartbeats 400000 in
theorem tells_no_zero (p g : Int)  (w : World) (hm : ¬ May p g) :
    Calls Try.prog 3 #[.int .i64 p, .int .i64 g, .int .u64 0] w fun e w' => e = .returned (.bool true) ∧ w = w' := by
  have HM := Lib.hid hm
  clear hm
  have HD := Lib.hid (show decide (May p g) = false from decide_eq_false HM.out)
  go_enter Try.func3, Try.ntmps3
  go_wp2_with fail
  refine (Of_no p g _ HM.out).mono ?_; rintro e w1 ⟨rfl, rfl⟩
  go_wp2_with fail
  refine (Is_is p g _).mono ?_; rintro e w1 ⟨rfl, rfl⟩
  rw [HD.out]
  go_wp2_with fail
  refine (Is_is p g _).mono ?_; rintro e w1 ⟨rfl, rfl⟩
  rw [HD.out]
  go_wp2_with fail
  refine (alive_yes _).mono ?_; rintro e w1 ⟨rfl, rfl⟩
  go_wp2_with fail
  refine (want_gen 0 _ (by omega) (by omega)).mono ?_; rintro e w1 ⟨rfl, rfl⟩
  rw [if_neg (show ¬ Node 0 by omega)]
  go_wp2_with fail
  refine (Right_zero _).mono ?_; rintro e w1 ⟨rfl, rfl⟩
  go_wp2_with fail
  refine (Place_no 0 _ (by omega) (by omega) (by omega)).mono ?_; rintro e w1 ⟨rfl, rfl⟩
  go_wp2_with fail
  refine (Gen_no 0 _ (by omega) (by omega) (by omega)).mono ?_; rintro e w1 ⟨rfl, rfl⟩
  go_wp2_with fail
  go_ret
  exact ⟨rfl, rfl⟩

set_option maxHeartbeats 400000 in
theorem tells_no_not (p g : Int) (r : Int) (h0 : 0 ≤ r) (h1 : r ≤ 18446744073709551615) (hz : ¬ r = 0) (hn : ¬ Node r) (w : World) (hm : ¬ May p g) :
    Calls Try.prog 3 #[.int .i64 p, .int .i64 g, .int .u64 r] w fun e w' => e = .returned (.bool true) ∧ w = w' := by
  have HM := Lib.hid hm
  clear hm
  have HD := Lib.hid (show decide (May p g) = false from decide_eq_false HM.out)
  have HN := Lib.hid hn
  clear hn
  have HE := Lib.hid (decide_eq_false HN.out)
  have HZ := Lib.hid hz
  have e0 : (r == 0) = false := by simp [hz]
  clear hz
  go_enter Try.func3, Try.ntmps3
  go_wp2_with fail
  refine (Of_no p g _ HM.out).mono ?_; rintro e w1 ⟨rfl, rfl⟩
  go_wp2_with fail
  refine (Is_is p g _).mono ?_; rintro e w1 ⟨rfl, rfl⟩
  rw [HD.out]
  go_wp2_with fail
  refine (Is_is p g _).mono ?_; rintro e w1 ⟨rfl, rfl⟩
  rw [HD.out]
  go_wp2_with fail
  refine (alive_yes _).mono ?_; rintro e w1 ⟨rfl, rfl⟩
  go_wp2_with fail
  refine (want_gen r _ h0 h1).mono ?_; rintro e w1 ⟨rfl, rfl⟩
  rw [if_neg HN.out]
  go_wp2_with fail
  refine (Right_not r _ h0 h1 HZ.out).mono ?_; rintro e w1 ⟨rfl, rfl⟩
  rw [HE.out]
  go_wp2_with fail
  refine (Place_no r _ h0 h1 HN.out).mono ?_; rintro e w1 ⟨rfl, rfl⟩
  go_wp2_with fail
  refine (Gen_no r _ h0 h1 HN.out).mono ?_; rintro e w1 ⟨rfl, rfl⟩
  go_wp2_with fail
  go_ret
  exact ⟨rfl, rfl⟩

set_option maxHeartbeats 400000 in
theorem tells_no_node (p g : Int) (r : Int) (h0 : 0 ≤ r) (h1 : r ≤ 18446744073709551615) (hn : Node r) (w : World) (hm : ¬ May p g) :
    Calls Try.prog 3 #[.int .i64 p, .int .i64 g, .int .u64 r] w fun e w' => e = .returned (.bool true) ∧ w = w' := by
  have HM := Lib.hid hm
  clear hm
  have HD := Lib.hid (show decide (May p g) = false from decide_eq_false HM.out)
  have hz : ¬ r = 0 := by omega
  have HN := Lib.hid hn
  clear hn
  have HE := Lib.hid (decide_eq_true HN.out)
  have HZ := Lib.hid hz
  have e0 : (r == 0) = false := by simp [hz]
  clear hz
  go_enter Try.func3, Try.ntmps3
  go_wp2_with fail
  refine (Of_no p g _ HM.out).mono ?_; rintro e w1 ⟨rfl, rfl⟩
  go_wp2_with fail
  refine (Is_is p g _).mono ?_; rintro e w1 ⟨rfl, rfl⟩
  rw [HD.out]
  go_wp2_with fail
  refine (Is_is p g _).mono ?_; rintro e w1 ⟨rfl, rfl⟩
  rw [HD.out]
  go_wp2_with fail
  refine (alive_yes _).mono ?_; rintro e w1 ⟨rfl, rfl⟩
  go_wp2_with fail
  refine (want_gen r _ h0 h1).mono ?_; rintro e w1 ⟨rfl, rfl⟩
  rw [if_pos HN.out]
  go_wp2_with fail
  refine (Right_not r _ h0 h1 HZ.out).mono ?_; rintro e w1 ⟨rfl, rfl⟩
  rw [HE.out]
  go_wp2_with fail
  refine (Gen_yes r _ h0 h1 HN.out).mono ?_; rintro e w1 ⟨rfl, rfl⟩
  go_wp2_with fail
  refine (Place_yes r _ h0 h1 HN.out).mono ?_; rintro e w1 ⟨rfl, rfl⟩
  go_wp2_with fail
  go_ret
  exact ⟨rfl, rfl⟩

theorem RefTells_walk (w : World) (p : Int) (_ : (Lit.int .i64 p).wf = true) (g : Int) (_ : (Lit.int .i64 g).wf = true) (r : Int) (hr : (Lit.int .u64 r).wf = true) :
    Calls Try.prog 3 #[.int .i64 p, .int .i64 g, .int .u64 r] w fun e w' => e = .returned (.bool true) ∧ Below w.heap.size w w' := by
  obtain ⟨h0, h1⟩ := bounds_u64 hr
  have k : Calls Try.prog 3 #[.int .i64 p, .int .i64 g, .int .u64 r] w fun e w' => e = .returned (.bool true) ∧ w = w' := by
    by_cases hm : May p g
    · by_cases hz : r = 0
      · subst hz
        exact tells_yes_zero p g w hm
      · by_cases hn : Node r
        · exact tells_yes_node p g r h0 h1 hn w hm
        · exact tells_yes_not p g r h0 h1 hz hn w hm
    · by_cases hz : r = 0
      · subst hz
        exact tells_no_zero p g w hm
      · by_cases hn : Node r
        · exact tells_no_node p g r h0 h1 hn w hm
        · exact tells_no_not p g r h0 h1 hz hn w hm
  refine k.mono ?_
  rintro e w' ⟨rfl, rfl⟩
  exact ⟨rfl, Below.refl _ _⟩

end Go.Proofs.Ytoimiighiaggnaa
