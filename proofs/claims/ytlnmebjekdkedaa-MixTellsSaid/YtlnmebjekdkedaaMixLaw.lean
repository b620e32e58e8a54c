/-
  Contracts: priorities, hashes, which of two is above, which size is picked.
-/
import Derived.Test.YtlnmebjekdkedaaMixRef
set_option linter.unusedVariables false
set_option linter.unusedSimpArgs false
namespace Go.Proofs.Ytlnmebjekdkedaa
open Go.RowKit

/-- A key's priority. -/
def rkI (a : Int) : Int := mixI (IntKind.u64.wrap (IntKind.u64.wrap a + 7))
theorem rkI_rng (a : Int) : 0 ≤ rkI a ∧ rkI a ≤ 18446744073709551615 := mixI_rng _
theorem wrap_rng (z : Int) : 0 ≤ IntKind.u64.wrap z ∧ IntKind.u64.wrap z ≤ 18446744073709551615 := by rw [IntKind.wrap_u64]; omega

set_option maxHeartbeats 400000 in
theorem Rank_is (a : Int) (w : World) : Calls Try.prog 11 #[.int .i64 a] w fun e w' => e = .returned (.int .u64 (rkI a)) ∧ Ext w w' := by
  have hb := wrap_rng (IntKind.u64.wrap a + 7)
  have H := Lib.hid (Of_is (IntKind.u64.wrap (IntKind.u64.wrap a + 7)) w hb.1 hb.2)
  clear hb
  go_enter Try.func11, Try.ntmps11
  go_wp2_with fail
  refine H.out.mono ?_; rintro e w7 ⟨rfl, hx⟩
  go_wp2_with fail
  go_ret
  exact ⟨rfl, hx⟩

set_option maxHeartbeats 400000 in
theorem refRank_is (a : Int) (w : World) : Calls Try.prog 12 #[.int .i64 a] w fun e w' => e = .returned (.int .u64 (rkI a)) ∧ w = w' := by
  have hb := wrap_rng (IntKind.u64.wrap a + 7)
  have H := Lib.hid (ref_is (IntKind.u64.wrap (IntKind.u64.wrap a + 7)) w hb.1 hb.2)
  clear hb
  go_enter Try.func12, Try.ntmps12
  go_wp2_with fail
  refine H.out.mono ?_; rintro e w7 ⟨rfl, rfl⟩
  go_wp2_with fail
  go_ret
  exact ⟨rfl, rfl⟩

def hsI (a : Int) : Int := rkI a % 1048576
theorem hsI_rng (a : Int) : 0 ≤ hsI a ∧ hsI a < 1048576 := by unfold hsI; omega

set_option maxHeartbeats 400000 in
theorem Hash_is (a : Int) (w : World) : Calls Try.prog 13 #[.int .i64 a] w fun e w' => e = .returned (.int .i64 (hsI a)) ∧ Ext w w' := by
  have hb := rkI_rng a
  have hh := Lib.hid (show rkI a % 1048576 = hsI a from rfl)
  go_enter Try.func13, Try.ntmps13
  go_wp2_with fail
  refine (Rank_is a _).mono ?_; rintro e w7 ⟨rfl, hx⟩
  go_wp2_with fail
  rw [hh.out]
  go_ret
  exact ⟨rfl, hx⟩

/-- Which of two is above. -/
def Bef (a b : Int) : Prop := rkI a < rkI b ∨ (rkI a = rkI b ∧ a < b)
instance (a b : Int) : Decidable (Bef a b) := by unfold Bef; infer_instance
def bef (a b : Int) : Bool := decide (Bef a b)

set_option maxHeartbeats 1000000 in
theorem Before_is (a b : Int) (w : World) : Calls Try.prog 14 #[.int .i64 a, .int .i64 b] w fun e w' => e = .returned (.bool (bef a b)) ∧ Ext w w' := by
  rcases Int.lt_trichotomy (rkI a) (rkI b) with h | h | h
  · have e1 : decide (rkI a < rkI b) = true := by simpa using h
    have hh := Lib.hid (show bef a b = true by unfold bef Bef; simp [h])
    clear h
    go_enter Try.func14, Try.ntmps14
    go_wp2_with fail
    refine (Rank_is a _).mono ?_; rintro e w7 ⟨rfl, hx⟩
    go_wp2_with fail
    refine (Rank_is b _).mono ?_; rintro e w8 ⟨rfl, hy⟩
    go_wp2_with fail
    go_ret
    exact ⟨by rw [hh.out]; rfl, hx.step hy⟩
  · have e1 : decide (rkI a < rkI b) = false := by simp; omega
    have e2 : (rkI a == rkI b) = true := by simpa using h
    have hh := Lib.hid (show bef a b = decide (a < b) by unfold bef Bef; simp [h])
    clear h
    go_enter Try.func14, Try.ntmps14
    go_wp2_with fail
    refine (Rank_is a _).mono ?_; rintro e w7 ⟨rfl, hx⟩
    go_wp2_with fail
    refine (Rank_is b _).mono ?_; rintro e w8 ⟨rfl, hy⟩
    go_wp2_with fail
    go_ret
    exact ⟨by rw [hh.out]; rfl, hx.step hy⟩
  · have e1 : decide (rkI a < rkI b) = false := by simp; omega
    have e2 : (rkI a == rkI b) = false := by simp; omega
    have hh := Lib.hid (show bef a b = false from decide_eq_false (fun h' => by unfold Bef at h'; omega))
    clear h
    go_enter Try.func14, Try.ntmps14
    go_wp2_with fail
    refine (Rank_is a _).mono ?_; rintro e w7 ⟨rfl, hx⟩
    go_wp2_with fail
    refine (Rank_is b _).mono ?_; rintro e w8 ⟨rfl, hy⟩
    go_wp2_with fail
    go_ret
    exact ⟨by rw [hh.out]; rfl, hx.step hy⟩

set_option maxHeartbeats 1000000 in
theorem refBefore_is (a b : Int) (w : World) : Calls Try.prog 15 #[.int .i64 a, .int .i64 b] w fun e w' => e = .returned (.bool (bef a b)) ∧ w = w' := by
  by_cases h : rkI a = rkI b
  · have e2 : (rkI a != rkI b) = false := by simpa using h
    have hh := Lib.hid (show bef a b = decide (a < b) by unfold bef Bef; simp [h])
    clear h
    go_enter Try.func15, Try.ntmps15
    go_wp2_with fail
    refine (refRank_is a _).mono ?_; rintro e w7 ⟨rfl, rfl⟩
    go_wp2_with fail
    refine (refRank_is b _).mono ?_; rintro e w8 ⟨rfl, rfl⟩
    go_wp2_with fail
    go_ret
    exact ⟨by rw [hh.out]; rfl, rfl⟩
  · have e2 : (rkI a != rkI b) = true := by simpa using h
    have hh := Lib.hid (show bef a b = decide (rkI a < rkI b) by unfold bef Bef; simp [h])
    clear h
    go_enter Try.func15, Try.ntmps15
    go_wp2_with fail
    refine (refRank_is a _).mono ?_; rintro e w7 ⟨rfl, rfl⟩
    go_wp2_with fail
    refine (refRank_is b _).mono ?_; rintro e w8 ⟨rfl, rfl⟩
    go_wp2_with fail
    refine (refRank_is a _).mono ?_; rintro e w7 ⟨rfl, rfl⟩
    go_wp2_with fail
    refine (refRank_is b _).mono ?_; rintro e w8 ⟨rfl, rfl⟩
    go_wp2_with fail
    go_ret
    exact ⟨by rw [hh.out]; rfl, rfl⟩

/-- Sizes that may be. -/
def Sz (a : Int) : Prop := 1 ≤ a ∧ a ≤ 1073741824

set_option maxHeartbeats 400000 in
theorem size_yes (a : Int) (w : World) (h : Sz a) : Calls Try.prog 18 #[.int .i64 a] w fun e w' => e = .returned (.bool true) ∧ w = w' := by
  obtain ⟨h1, h2⟩ := h
  go_enter Try.func18, Try.ntmps18
  go_wp2
  go_ret
  exact ⟨rfl, rfl⟩
set_option maxHeartbeats 400000 in
theorem size_no (a : Int) (w : World) (h : ¬ Sz a) : Calls Try.prog 18 #[.int .i64 a] w fun e w' => e = .returned (.bool false) ∧ w = w' := by
  by_cases h1 : 1 ≤ a
  · have h2 : ¬ a ≤ 1073741824 := fun h2 => h ⟨h1, h2⟩
    go_enter Try.func18, Try.ntmps18
    go_wp2
    go_ret
    exact ⟨rfl, rfl⟩
  · go_enter Try.func18, Try.ntmps18
    go_wp2
    go_ret
    exact ⟨rfl, rfl⟩

def pk (a b : Int) : Bool := decide (mixI (a * 1048576 + b) % (a + b) < a)

set_option maxHeartbeats 1000000 in
theorem Pick_no (a b : Int) (w : World) (h : ¬ (Sz a ∧ Sz b)) : Calls Try.prog 8 #[.int .i64 a, .int .i64 b] w fun e w' => e = .returned (.tuple #[.bool false, .int .i64 1]) ∧ w = w' := by
  by_cases ha : Sz a
  · have hb : ¬ Sz b := fun hb => h ⟨ha, hb⟩
    have HA := Lib.hid ha
    have HB := Lib.hid hb
    clear ha hb h
    go_enter Try.func8, Try.ntmps8
    go_wp2_with fail
    refine (size_yes a _ HA.out).mono ?_; rintro e w7 ⟨rfl, rfl⟩
    go_wp2_with fail
    refine (size_no b _ HB.out).mono ?_; rintro e w7 ⟨rfl, rfl⟩
    go_wp2_with fail
    go_ret2
    exact ⟨rfl, rfl⟩
  · have HA := Lib.hid ha
    clear ha h
    go_enter Try.func8, Try.ntmps8
    go_wp2_with fail
    refine (size_no a _ HA.out).mono ?_; rintro e w7 ⟨rfl, rfl⟩
    go_wp2_with fail
    go_ret2
    exact ⟨rfl, rfl⟩

set_option maxHeartbeats 1000000 in
theorem Pick_yes (a b : Int) (w : World) (ha : Sz a) (hb : Sz b) : Calls Try.prog 8 #[.int .i64 a, .int .i64 b] w fun e w' => e = .returned (.tuple #[.bool (pk a b), .int .i64 0]) ∧ Ext w w' := by
  have HA := Lib.hid ha
  have HB := Lib.hid hb
  obtain ⟨a1, a2⟩ := ha
  obtain ⟨b1, b2⟩ := hb
  have hm := mixI_rng (a * 1048576 + b)
  have H := Lib.hid (fun w => Of_is (a * 1048576 + b) w (by omega) (by omega))
  have HP := Lib.hid (show decide (mixI (a * 1048576 + b) % (a + b) < a) = pk a b from rfl)
  go_enter Try.func8, Try.ntmps8
  go_wp2_with fail
  refine (size_yes a _ HA.out).mono ?_; rintro e w7 ⟨rfl, rfl⟩
  go_wp2_with fail
  refine (size_yes b _ HB.out).mono ?_; rintro e w7 ⟨rfl, rfl⟩
  go_wp2_with fail
  refine (H.out _).mono ?_; rintro e w7 ⟨rfl, hx⟩
  go_wp2_with fail
  rw [HP.out]
  go_ret2
  exact ⟨rfl, hx⟩

theorem mixI_1 : (mixI 1 != 0) = true := by decide +kernel

set_option maxHeartbeats 1000000 in
theorem alive_is (w : World) : Calls Try.prog 16 #[] w fun e w' => e = .returned (.bool true) ∧ Ext w w' := by
  have h1 := mixI_1
  have HN := Lib.hid (fun w => Pick_no 0 1 w (fun h => absurd h.1.1 (by decide)))
  have HY := Lib.hid (fun w => Pick_yes 1 1 w ⟨by decide, by decide⟩ ⟨by decide, by decide⟩)
  have HO := Lib.hid (fun w => Of_is 1 w (by decide) (by decide))
  go_enter Try.func16, Try.ntmps16
  go_wp2_with fail
  refine (HN.out _).mono ?_; rintro e w7 ⟨rfl, rfl⟩
  go_wp2_with fail
  refine (HY.out _).mono ?_; rintro e w7 ⟨rfl, hx⟩
  go_wp2_with fail
  refine (HO.out _).mono ?_; rintro e w8 ⟨rfl, hy⟩
  go_wp2_with fail
  go_ret
  exact ⟨rfl, hx.step hy⟩

end Go.Proofs.Ytlnmebjekdkedaa
