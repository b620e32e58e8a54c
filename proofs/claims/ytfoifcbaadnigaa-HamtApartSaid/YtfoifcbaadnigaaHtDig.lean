/-
  Contracts: a key's digits (digitOf, passedBy).
-/
import Derived.Test.YtfoifcbaadnigaaHtNode
set_option linter.unusedVariables false
set_option linter.unusedSimpArgs false
namespace Go.Proofs.Ytfoifcbaadnigaa
open Go.RowKit

theorem pas_at (k : Int) : pas k 0 = 0 ∧ pas k 1 = hsI k % 4 ∧ pas k 2 = hsI k % 16 ∧ pas k 3 = hsI k % 64 ∧ pas k 4 = hsI k % 256 ∧ pas k 5 = hsI k % 1024 ∧ pas k 6 = hsI k % 4096 ∧ pas k 7 = hsI k % 16384 ∧ pas k 8 = hsI k % 65536 ∧ pas k 9 = hsI k % 262144 ∧ pas k 10 = hsI k % 1048576 := by
  refine ⟨pas_zero k, ?_⟩
  unfold pas
  exact ⟨rfl, rfl, rfl, rfl, rfl, rfl, rfl, rfl, rfl, rfl⟩

set_option maxHeartbeats 4000000 in
theorem htDigit_is (key : Int) (lv : Nat) (hlv : lv ≤ 10) (w : World) :
    Calls Try.prog 43 #[.int .i64 key, .int .i64 lv] w fun e w' => e = .returned (.int .i64 (dig key lv)) ∧ Ext w w' := by
  have HH := Lib.hid (Hash_is key w)
  have hr := hsI_rng key
  have hd := dig_at key
  generalize hsI key = h at *
  rcases (by omega : lv = 0 ∨ lv = 1 ∨ lv = 2 ∨ lv = 3 ∨ lv = 4 ∨ lv = 5 ∨ lv = 6 ∨ lv = 7 ∨ lv = 8 ∨ lv = 9 ∨ lv = 10) with rfl | rfl | rfl | rfl | rfl | rfl | rfl | rfl | rfl | rfl | rfl
  all_goals
    clear hlv
    simp only [hd.1, hd.2.1, hd.2.2.1, hd.2.2.2.1, hd.2.2.2.2.1, hd.2.2.2.2.2.1, hd.2.2.2.2.2.2.1, hd.2.2.2.2.2.2.2.1, hd.2.2.2.2.2.2.2.2.1, hd.2.2.2.2.2.2.2.2.2.1, hd.2.2.2.2.2.2.2.2.2.2]
    clear hd
    go_enter Try.func43, Try.ntmps43
    go_wp2_with (first
      | (go_at_call 58; refine HH.out.mono ?_; rintro e w3 ⟨rfl, hx3⟩))
    go_ret
    exact ⟨rfl, hx3⟩

set_option maxHeartbeats 4000000 in
theorem htPassed_is (key : Int) (lv : Nat) (hlv : lv ≤ 10) (w : World) :
    Calls Try.prog 54 #[.int .i64 key, .int .i64 lv] w fun e w' => e = .returned (.int .i64 (pas key lv)) ∧ Ext w w' := by
  have HH := Lib.hid (fun W (hW : Ext w W) => (Hash_is key W))
  have hr := hsI_rng key
  have hd := pas_at key
  generalize hsI key = h at *
  rcases (by omega : lv = 0 ∨ lv = 1 ∨ lv = 2 ∨ lv = 3 ∨ lv = 4 ∨ lv = 5 ∨ lv = 6 ∨ lv = 7 ∨ lv = 8 ∨ lv = 9 ∨ lv = 10) with rfl | rfl | rfl | rfl | rfl | rfl | rfl | rfl | rfl | rfl | rfl
  all_goals
    clear hlv
    simp only [hd.1, hd.2.1, hd.2.2.1, hd.2.2.2.1, hd.2.2.2.2.1, hd.2.2.2.2.2.1, hd.2.2.2.2.2.2.1, hd.2.2.2.2.2.2.2.1, hd.2.2.2.2.2.2.2.2.1, hd.2.2.2.2.2.2.2.2.2.1, hd.2.2.2.2.2.2.2.2.2.2]
    clear hd
    go_enter Try.func54, Try.ntmps54
    go_wp2_with fail
    refine wp_region_later w (Ext.refl w) (by kernel_rfl) (by kernel_rfl) ?_
    repeat (go_big_quiet_step (first | (go_at_call 58; exact later_call HH.out)))
    refine wpQuiet_nil ?_
    rintro _ ⟨q, rfl⟩
    go_wp2_with fail
    go_ret
    exact ⟨rfl, q.ext⟩

end Go.Proofs.Ytfoifcbaadnigaa
