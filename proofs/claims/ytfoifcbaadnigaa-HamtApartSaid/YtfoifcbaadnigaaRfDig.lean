/-
  Contracts of the document's answers on tables: a key's digit (Digit), those of a digit (of), a leaf.
-/
import Derived.Test.YtfoifcbaadnigaaHtMath
import Derived.Test.YtfoifcbaadnigaaGG
import Derived.Test.YtfoifcbaadnigaaGF
set_option linter.unusedVariables false
set_option linter.unusedSimpArgs false
namespace Go.Proofs.Ytfoifcbaadnigaa
open Go.RowKit

theorem pw_step (h : Int) (i : Nat) : h / (4 : Int) ^ i / 4 = h / (4 : Int) ^ (i + 1) := by
  rw [Int.pow_succ, Int.ediv_ediv_of_nonneg (by have := pw_pos i; omega)]
set_option maxHeartbeats 1000000 in
set_option maxRecDepth 100000 in
theorem rfDigit_is (key : Int) (lv : Nat) (hlv : lv ≤ 10) (w : World) :
    Calls Try.prog 50 #[.int .i64 key, .int .i64 lv] w fun e w' => e = .returned (.int .i64 (dig key lv)) ∧ Ext w w' := by
  have HH := Lib.hid (refRank_is key w)
  have hr := hsI_rng key
  have hrk := rkI_rng key
  have HD := Lib.hid (show ∀ z : Int, z = hsI key / (4 : Int) ^ lv → z % 4 = dig key lv from fun z hz => by rw [hz]; rfl)
  have HRK := Lib.hid (show rkI key % 1048576 = hsI key from rfl)
  obtain ⟨D, hD⟩ : ∃ D, D = dig key lv := ⟨_, rfl⟩
  rw [← hD] at HD ⊢
  clear hD
  go_enter Try.func50, Try.ntmps50
  go_wp2_with (first
    | (go_at_call 69; refine HH.out.mono ?_; rintro e w3 ⟨rfl, rfl⟩))
  go_loopw [5, 6] (fun h j wr => Hid (w = wr) ∧ ∃ (i : Nat) (z : Int), i ≤ lv ∧ j = .int .i64 i ∧ h = .int .u64 z ∧ Hid (z = hsI key / (4 : Int) ^ i) ∧ 0 ≤ z ∧ z < 1048576) (fun _ j _ => lv - (intOf j).toNat)
  case atStart => exact ⟨Lib.hid rfl, 0, rkI key % 1048576, by omega, rfl, rfl, Lib.hid (by rw [HRK.out]; simp), by omega, by omega⟩
  case round =>
    obtain ⟨hx, i, z, hi, rfl, rfl, hz, hz0, hz1⟩ := hrel
    rename World => w5
    by_cases hil : i < lv
    · have hli : ¬ lv ≤ i := by omega
      go_wp2_with fail
      refine ⟨⟨hx, i + 1, z / 4, by omega, rfl, ?_, Lib.hid ?_, by omega, by omega⟩, by simp [intOf]; omega⟩
      · rfl
      · rw [← pw_step, ← hz.out]
    · obtain rfl : i = lv := by omega
      have HZ := Lib.hid (HD.out z hz.out)
      go_wp2_with fail
      go_ret
      refine ⟨?_, by rw [← hx.out]; exact Ext.refl _⟩
      rw [← HZ.out]
      rfl

end Go.Proofs.Ytfoifcbaadnigaa
