/-
  Contracts of the statements' helpers: few, and rows that are the same.
-/
import Derived.Test.YtfjmocnkhaomiaaWord3
import Derived.RegionTactic
import Derived.LoopTactic
namespace Go.Proofs.Ytfjmocnkhaomiaa
open Go.RowKit

theorem ret_slice {A : Option Addr} {a b c : Nat} (h : a = b) : Ending.returned (.slice A a c) = .returned (.slice A b c) := by rw [h]

set_option maxHeartbeats 400000 in
theorem few_any (A : Option Addr) (n c : Nat) (w : World) (hn : n ≤ c) :
    Calls Try.prog 9 #[.slice A n c] w fun e w' => e = .returned (.slice A (min n 66) c) ∧ w = w' := by
  by_cases h : n ≤ 66
  · go_enter Try.func9, Try.ntmps9
    go_wp2
    all_goals go_ret
    all_goals exact ⟨ret_slice (by omega), rfl⟩
  · go_enter Try.func9, Try.ntmps9
    go_wp2
    all_goals go_ret
    all_goals exact ⟨ret_slice (by omega), rfl⟩

set_option maxHeartbeats 400000 in
theorem same_yes (A B : Option Addr) (n c d : Nat) (zs : List Int) (w : World) (ha : Rd w 1 A n (Us zs)) (hb : Rd w 1 B n (Us zs)) (hn : n ≤ 1000) :
    Calls Try.prog 17 #[.slice A n c, .slice B n d] w fun e w' => e = .returned (.bool true) ∧ Ext w w' := by
  go_enter Try.func17, Try.ntmps17
  go_wp2
  go_loopw [5, 13] (fun _ i wr => Ext w wr ∧ ∃ k : Nat, k ≤ n ∧ i = .int .i64 k) (fun _ i _ => n - (intOf i).toNat)
  case atStart => exact ⟨Ext.refl _, 0, Nat.zero_le _, rfl⟩
  case round =>
    obtain ⟨hx, k, hk, rfl⟩ := hrel
    by_cases hlt : k < n
    · obtain ⟨ad, rfl⟩ := ha.some_ (by omega) (by omega)
      obtain ⟨bd, rfl⟩ := hb.some_ (by omega) (by omega)
      have ca := (ha.to hx).u64 hlt
      have cb := (hb.to hx).u64 hlt
      go_wp2
      go_quiet (fail)
      go_wp2
      go_roundw
      case rel => exact ⟨hx.drewN _, k + 1, by omega, by go_num⟩
      case measure => simp [intOf]; omega
    · go_wp2
      go_ret
      exact ⟨rfl, hx⟩

end Go.Proofs.Ytfjmocnkhaomiaa
