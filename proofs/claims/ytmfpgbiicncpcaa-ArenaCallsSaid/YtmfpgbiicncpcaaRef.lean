/-
  Contracts of package ref and of the document's own answers.
-/
import Derived.Test.YtmfpgbiicncpcaaProg
import Derived.WalkKit
import Derived.WalkSpells
import Derived.WalkLawsBesides
import Derived.Outline
import Derived.OpenShut
import Derived.Laws.Wrap64
import Derived.Lib.Hide
set_option linter.unusedVariables false
set_option linter.unusedSimpArgs false
namespace Go.Proofs.Ytmfpgbiicncpcaa
open Go.RowKit

/-- A reference of a place and a generation. -/
abbrev Node (r : Int) : Prop := 1 ≤ r % 65536 ∧ r % 65536 ≤ 512 ∧ r / 65536 ≤ 1048576
abbrev May (p g : Int) : Prop := 0 ≤ p ∧ p < 512 ∧ 0 ≤ g ∧ g ≤ 1048576

theorem place_is (r : Int) (w : World) (h0 : 0 ≤ r) (h1 : r ≤ 18446744073709551615) :
    Calls Try.prog 38 #[.int .u64 r] w fun e w' => e = .returned (.int .i64 (r % 65536 - 1)) ∧ w = w' := by
  go_enter Try.func38, Try.ntmps38
  go_wp2
  go_ret
  exact ⟨rfl, rfl⟩

theorem gen_is (r : Int) (w : World) (h0 : 0 ≤ r) (h1 : r ≤ 18446744073709551615) :
    Calls Try.prog 40 #[.int .u64 r] w fun e w' => e = .returned (.int .i64 (r / 65536)) ∧ w = w' := by
  go_enter Try.func40, Try.ntmps40
  go_wp2
  go_ret
  exact ⟨rfl, rfl⟩

theorem node_is (r : Int) (w : World) (h0 : 0 ≤ r) (h1 : r ≤ 18446744073709551615) :
    Calls Try.prog 47 #[.int .u64 r] w fun e w' => e = .returned (.bool (decide (Node r))) ∧ w = w' := by
  by_cases e1 : 1 ≤ r % 65536
  · by_cases e2 : r % 65536 ≤ 512
    · by_cases e3 : r / 65536 ≤ 1048576
      · have e : decide (Node r) = true := by simp only [decide_eq_true_eq]; exact ⟨e1, e2, e3⟩
        rw [e]
        go_enter Try.func47, Try.ntmps47
        go_wp2
        go_ret
        exact ⟨rfl, rfl⟩
      · have e : decide (Node r) = false := by simp only [decide_eq_false_iff_not]; exact fun h => e3 h.2.2
        rw [e]
        go_enter Try.func47, Try.ntmps47
        go_wp2
        go_ret
        exact ⟨rfl, rfl⟩
    · have e : decide (Node r) = false := by simp only [decide_eq_false_iff_not]; exact fun h => e2 h.2.1
      rw [e]
      go_enter Try.func47, Try.ntmps47
      go_wp2
      go_ret
      exact ⟨rfl, rfl⟩
  · have e : decide (Node r) = false := by simp only [decide_eq_false_iff_not]; exact fun h => e1 h.1
    rw [e]
    go_enter Try.func47, Try.ntmps47
    go_wp2
    go_ret
    exact ⟨rfl, rfl⟩

theorem tell_no (r : Int) (v : Value) (o : Int) (w : World) (h0 : 0 ≤ r) (h1 : r ≤ 18446744073709551615) (h : ¬ Node r) :
    Calls Try.prog 37 #[.int .u64 r, v, .int .i64 o] w fun e w' => e = .returned (.int .i64 o) ∧ w = w' := by
  have H := Lib.hid (show decide (Node r) = false from decide_eq_false h)
  clear h
  go_enter Try.func37, Try.ntmps37
  go_wp2_with fail
  refine (node_is r _ h0 h1).mono ?_; rintro e w1 ⟨rfl, rfl⟩
  rw [H.out]
  go_wp2
  go_ret
  exact ⟨rfl, rfl⟩

theorem tell_place (r : Int) (o : Int) (w : World) (h0 : 0 ≤ r) (h1 : r ≤ 18446744073709551615) (h : Node r) :
    Calls Try.prog 37 #[.int .u64 r, .func (.func 38) #[] #[], .int .i64 o] w fun e w' => e = .returned (.int .i64 (r % 65536 - 1)) ∧ w = w' := by
  have H := Lib.hid (show decide (Node r) = true from decide_eq_true h)
  clear h
  go_enter Try.func37, Try.ntmps37
  go_wp2_with fail
  refine (node_is r _ h0 h1).mono ?_; rintro e w1 ⟨rfl, rfl⟩
  rw [H.out]
  go_wp2_with fail
  refine (place_is r _ h0 h1).mono ?_; rintro e w1 ⟨rfl, rfl⟩
  go_wp2_with fail
  go_ret
  exact ⟨rfl, rfl⟩

theorem tell_gen (r : Int) (o : Int) (w : World) (h0 : 0 ≤ r) (h1 : r ≤ 18446744073709551615) (h : Node r) :
    Calls Try.prog 37 #[.int .u64 r, .func (.func 40) #[] #[], .int .i64 o] w fun e w' => e = .returned (.int .i64 (r / 65536)) ∧ w = w' := by
  have H := Lib.hid (show decide (Node r) = true from decide_eq_true h)
  clear h
  go_enter Try.func37, Try.ntmps37
  go_wp2_with fail
  refine (node_is r _ h0 h1).mono ?_; rintro e w1 ⟨rfl, rfl⟩
  rw [H.out]
  go_wp2_with fail
  refine (gen_is r _ h0 h1).mono ?_; rintro e w1 ⟨rfl, rfl⟩
  go_wp2_with fail
  go_ret
  exact ⟨rfl, rfl⟩

theorem Place_yes (r : Int) (w : World) (h0 : 0 ≤ r) (h1 : r ≤ 18446744073709551615) (h : Node r) :
    Calls Try.prog 24 #[.int .u64 r] w fun e w' => e = .returned (.int .i64 (r % 65536 - 1)) ∧ w = w' := by
  have H := Lib.hid h
  clear h
  go_enter Try.func24, Try.ntmps24
  go_wp2_with fail
  refine (tell_place r (-1) _ h0 h1 H.out).mono ?_; rintro e w1 ⟨rfl, rfl⟩
  go_wp2_with fail
  go_ret
  exact ⟨rfl, rfl⟩

theorem Place_no (r : Int) (w : World) (h0 : 0 ≤ r) (h1 : r ≤ 18446744073709551615) (h : ¬ Node r) :
    Calls Try.prog 24 #[.int .u64 r] w fun e w' => e = .returned (.int .i64 (-1)) ∧ w = w' := by
  have H := Lib.hid h
  clear h
  go_enter Try.func24, Try.ntmps24
  go_wp2_with fail
  refine (tell_no r _ (-1) _ h0 h1 H.out).mono ?_; rintro e w1 ⟨rfl, rfl⟩
  go_wp2_with fail
  go_ret
  exact ⟨rfl, rfl⟩

theorem Gen_yes (r : Int) (w : World) (h0 : 0 ≤ r) (h1 : r ≤ 18446744073709551615) (h : Node r) :
    Calls Try.prog 26 #[.int .u64 r] w fun e w' => e = .returned (.int .i64 (r / 65536)) ∧ w = w' := by
  have H := Lib.hid h
  clear h
  go_enter Try.func26, Try.ntmps26
  go_wp2_with fail
  refine (tell_gen r 0 _ h0 h1 H.out).mono ?_; rintro e w1 ⟨rfl, rfl⟩
  go_wp2_with fail
  go_ret
  exact ⟨rfl, rfl⟩

theorem Gen_no (r : Int) (w : World) (h0 : 0 ≤ r) (h1 : r ≤ 18446744073709551615) (h : ¬ Node r) :
    Calls Try.prog 26 #[.int .u64 r] w fun e w' => e = .returned (.int .i64 0) ∧ w = w' := by
  have H := Lib.hid h
  clear h
  go_enter Try.func26, Try.ntmps26
  go_wp2_with fail
  refine (tell_no r _ 0 _ h0 h1 H.out).mono ?_; rintro e w1 ⟨rfl, rfl⟩
  go_wp2_with fail
  go_ret
  exact ⟨rfl, rfl⟩

theorem Right_zero (w : World) :
    Calls Try.prog 49 #[.int .u64 0] w fun e w' => e = .returned (.bool true) ∧ w = w' := by
  go_enter Try.func49, Try.ntmps49
  go_wp2_with fail
  go_ret
  exact ⟨rfl, rfl⟩

theorem Right_not (r : Int) (w : World) (h0 : 0 ≤ r) (h1 : r ≤ 18446744073709551615) (hz : ¬ r = 0) :
    Calls Try.prog 49 #[.int .u64 r] w fun e w' => e = .returned (.bool (decide (Node r))) ∧ w = w' := by
  have e0 : (r == 0) = false := by simp [hz]
  obtain ⟨b, hb⟩ : ∃ b, decide (Node r) = b := ⟨_, rfl⟩
  have HB := Lib.hid hb
  rw [hb]
  clear hb
  go_enter Try.func49, Try.ntmps49
  go_wp2_with fail
  refine (node_is r _ h0 h1).mono ?_; rintro e w1 ⟨rfl, rfl⟩
  rw [HB.out]
  go_wp2_with fail
  go_ret
  exact ⟨rfl, rfl⟩

theorem Of_yes (p g : Int) (w : World) (h : May p g) :
    Calls Try.prog 30 #[.int .i64 p, .int .i64 g] w fun e w' => e = .returned (.tuple #[.int .u64 (65536 * g + p + 1), .int .i64 0]) ∧ w = w' := by
  obtain ⟨h1, h2, h3, h4⟩ := h
  have e1 : decide (p < 0) = false := by simp; omega
  have e2 : decide (p ≥ 512) = false := by simp; omega
  have e3 : decide (g < 0) = false := by simp; omega
  have e4 : decide (g > 1048576) = false := by simp; omega
  have H := Lib.hid (show g * 65536 + p + 1 = 65536 * g + p + 1 by omega)
  rw [← H.out]
  go_enter Try.func30, Try.ntmps30
  go_wp2
  go_ret2
  exact ⟨rfl, rfl⟩

theorem Of_no (p g : Int) (w : World) (h : ¬ May p g) :
    Calls Try.prog 30 #[.int .i64 p, .int .i64 g] w fun e w' => e = .returned (.tuple #[.int .u64 0, .int .i64 1]) ∧ w = w' := by
  by_cases h1 : p < 0
  · clear h
    go_enter Try.func30, Try.ntmps30
    go_wp2
    go_ret2
    exact ⟨rfl, rfl⟩
  · by_cases h2 : 512 ≤ p
    · clear h
      go_enter Try.func30, Try.ntmps30
      go_wp2
      go_ret2
      exact ⟨rfl, rfl⟩
    · by_cases h3 : g < 0
      · clear h
        go_enter Try.func30, Try.ntmps30
        go_wp2
        go_ret2
        exact ⟨rfl, rfl⟩
      · have h4 : 1048576 < g := by
          rcases Int.lt_or_le 1048576 g with k | k
          · exact k
          · exact absurd ⟨by omega, by omega, by omega, k⟩ h
        clear h
        go_enter Try.func30, Try.ntmps30
        go_wp2
        go_ret2
        exact ⟨rfl, rfl⟩

theorem Is_is (p g : Int) (w : World) :
    Calls Try.prog 46 #[.int .i64 p, .int .i64 g] w fun e w' => e = .returned (.bool (decide (May p g))) ∧ w = w' := by
  by_cases h : May p g
  · rw [decide_eq_true h]
    obtain ⟨h1, h2, h3, h4⟩ := h
    go_enter Try.func46, Try.ntmps46
    go_wp2
    go_ret
    exact ⟨rfl, rfl⟩
  · rw [decide_eq_false h]
    by_cases h1 : 0 ≤ p
    · by_cases h2 : p < 512
      · by_cases h3 : 0 ≤ g
        · have h4 : ¬ g ≤ 1048576 := fun k => h ⟨h1, h2, h3, k⟩
          clear h
          go_enter Try.func46, Try.ntmps46
          go_wp2
          go_ret
          exact ⟨rfl, rfl⟩
        · clear h
          go_enter Try.func46, Try.ntmps46
          go_wp2
          go_ret
          exact ⟨rfl, rfl⟩
      · clear h
        go_enter Try.func46, Try.ntmps46
        go_wp2
        go_ret
        exact ⟨rfl, rfl⟩
    · clear h
      go_enter Try.func46, Try.ntmps46
      go_wp2
      go_ret
      exact ⟨rfl, rfl⟩

theorem want_of (p g : Int) (w : World) (h : May p g) :
    Calls Try.prog 21 #[.int .i64 p, .int .i64 g] w fun e w' => e = .returned (.int .u64 (65536 * g + p + 1)) ∧ w = w' := by
  obtain ⟨h1, h2, h3, h4⟩ := h
  go_enter Try.func21, Try.ntmps21
  go_wp2
  go_ret
  exact ⟨rfl, rfl⟩

theorem want_gen (r : Int) (w : World) (h0 : 0 ≤ r) (h1 : r ≤ 18446744073709551615) :
    Calls Try.prog 34 #[.int .u64 r] w fun e w' => e = .returned (.int .i64 (if Node r then r / 65536 else -1)) ∧ w = w' := by
  by_cases h2 : r / 65536 ≤ 1048576
  · have HD := Lib.hid (show decide (May (r % 65536 - 1) (r / 65536)) = decide (Node r) by
      apply decide_eq_decide.mpr
      constructor
      · rintro ⟨a, b, c, d⟩; exact ⟨by omega, by omega, by omega⟩
      · rintro ⟨a, b, c⟩; exact ⟨by omega, by omega, by omega, by omega⟩)
    by_cases h : Node r
    · rw [if_pos h]
      rw [decide_eq_true h] at HD
      clear h
      go_enter Try.func34, Try.ntmps34
      go_wp2_with fail
      refine (Is_is _ _ _).mono ?_; rintro e w1 ⟨rfl, rfl⟩
      rw [HD.out]
      go_wp2_with fail
      go_ret
      exact ⟨rfl, rfl⟩
    · rw [if_neg h]
      rw [decide_eq_false h] at HD
      clear h
      go_enter Try.func34, Try.ntmps34
      go_wp2_with fail
      refine (Is_is _ _ _).mono ?_; rintro e w1 ⟨rfl, rfl⟩
      rw [HD.out]
      go_wp2_with fail
      go_ret
      exact ⟨rfl, rfl⟩
  · rw [if_neg (fun h => h2 h.2.2)]
    go_enter Try.func34, Try.ntmps34
    go_wp2_with fail
    go_ret
    exact ⟨rfl, rfl⟩

end Go.Proofs.Ytmfpgbiicncpcaa
