/-
  Contracts of package mix and of the document's answers for it.
-/
import Derived.Test.YtlnmebjekdkedaaProg
import Derived.Test.YtlnmebjekdkedaaBox
import Derived.Test.YtlnmebjekdkedaaMixMath
import Derived.WalkKit
import Derived.WalkSpells
import Derived.WalkLawsBesides
import Derived.Deep.QuietTactic
import Derived.BigQuiet
import Derived.Outline
import Derived.Laws.BitsAll
import Derived.Laws.Bits64
import Derived.IntWalk
import Derived.Laws.EntriesVeiled
set_option linter.unusedVariables false
set_option linter.unusedSimpArgs false
namespace Go.Proofs.Ytlnmebjekdkedaa
open Go.RowKit

theorem fold_int (k x : Nat) (h : x < 18446744073709551616) : bits .xor .u64 (x : Int) ((x : Int) / ((2 ^ k : Nat) : Int)) = (Mx.fold k x : Int) := xorShift_u64 x (2 ^ k) h

theorem folded30 (x p : Nat) (h : x < 18446744073709551616) (w : World) (hc : w.cell? ⟨p, 0, none⟩ = some (.int .i64 30)) :
    Calls Try.prog 24 #[.int .u64 x, .pointer (some ⟨p, 0, none⟩)] w fun e w' => e = .returned (.int .u64 (Mx.fold 30 x : Nat)) ∧ w = w' := by
  have HF := Lib.hid (show bits .xor .u64 (x : Int) ((x : Int) / 1073741824) = (Mx.fold 30 x : Int) from fold_int 30 x h)
  go_enter Try.func24, Try.ntmps24
  go_wp2
  rw [HF.out]
  go_ret
  exact ⟨rfl, rfl⟩
theorem folded27 (x p : Nat) (h : x < 18446744073709551616) (w : World) (hc : w.cell? ⟨p, 0, none⟩ = some (.int .i64 27)) :
    Calls Try.prog 24 #[.int .u64 x, .pointer (some ⟨p, 0, none⟩)] w fun e w' => e = .returned (.int .u64 (Mx.fold 27 x : Nat)) ∧ w = w' := by
  have HF := Lib.hid (show bits .xor .u64 (x : Int) ((x : Int) / 134217728) = (Mx.fold 27 x : Int) from fold_int 27 x h)
  go_enter Try.func24, Try.ntmps24
  go_wp2
  rw [HF.out]
  go_ret
  exact ⟨rfl, rfl⟩
theorem folded31 (x p : Nat) (h : x < 18446744073709551616) (w : World) (hc : w.cell? ⟨p, 0, none⟩ = some (.int .i64 31)) :
    Calls Try.prog 24 #[.int .u64 x, .pointer (some ⟨p, 0, none⟩)] w fun e w' => e = .returned (.int .u64 (Mx.fold 31 x : Nat)) ∧ w = w' := by
  have HF := Lib.hid (show bits .xor .u64 (x : Int) ((x : Int) / 2147483648) = (Mx.fold 31 x : Int) from fold_int 31 x h)
  go_enter Try.func24, Try.ntmps24
  go_wp2
  rw [HF.out]
  go_ret
  exact ⟨rfl, rfl⟩
theorem mul_int (c x : Nat) : IntKind.u64.wrap ((x : Int) * (c : Int)) = (Mx.mul c x : Int) := by
  rw [IntKind.wrap_u64, Int.mul_comm]
  show _ = (((c * x) % 18446744073709551616 : Nat) : Int)
  rw [Int.natCast_emod, Int.natCast_mul]
  rfl
theorem times1 (c x : Nat) (p : Nat) (w : World) (hc : w.cell? ⟨p, 0, none⟩ = some (.int .u64 c)) :
    Calls Try.prog 25 #[.int .u64 x, .pointer (some ⟨p, 0, none⟩)] w fun e w' => e = .returned (.int .u64 (Mx.mul c x : Nat)) ∧ w = w' := by
  have HF := Lib.hid (mul_int c x)
  go_enter Try.func25, Try.ntmps25
  go_wp2
  rw [HF.out]
  go_ret
  exact ⟨rfl, rfl⟩

set_option maxHeartbeats 400000 in
theorem folded_is (k : Int) (w : World) :
    Calls Try.prog 19 #[.int .i64 k] w fun e w' => e = .returned (.func (.func 24) #[] #[.pointer (some ⟨w.heap.size, 0, none⟩)]) ∧ w.alloc (.cells #[.int .i64 k] 3) = w' := by
  go_enter Try.func19, Try.ntmps19
  go_wp2
  go_ret
  exact ⟨rfl, rfl⟩
set_option maxHeartbeats 400000 in
theorem times_is (c : Int) (w : World) :
    Calls Try.prog 20 #[.int .u64 c] w fun e w' => e = .returned (.func (.func 25) #[] #[.pointer (some ⟨w.heap.size, 0, none⟩)]) ∧ w.alloc (.cells #[.int .u64 c] 22) = w' := by
  go_enter Try.func20, Try.ntmps20
  go_wp2
  go_ret
  exact ⟨rfl, rfl⟩

end Go.Proofs.Ytlnmebjekdkedaa
