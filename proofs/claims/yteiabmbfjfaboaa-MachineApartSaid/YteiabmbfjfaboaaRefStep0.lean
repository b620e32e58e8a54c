/-
  The document's own step (ref.Step), walked: a process that does nothing.
-/
import Derived.Test.YteiabmbfjfaboaaStep3
import Derived.Test.YteiabmbfjfaboaaWith
set_option linter.unusedVariables false
set_option linter.unusedSimpArgs false
namespace Go.Proofs.Yteiabmbfjfaboaa
open Go.RowKit

set_option maxRecDepth 100000 in
set_option maxHeartbeats 800000 in
theorem ref_done (A' : Option Addr) (n c : Nat) (A : Option Addr) (d : Nat) (p : Pc) (w : World) (hd : p.done = true) :
    Calls Try.prog 17 #[.slice A' n c, .agg #[.slice A p.prog.length d, .int .i64 p.at_, .int .u64 (p.rs 0), .int .u64 (p.rs 1), .int .u64 (p.rs 2), .int .u64 (p.rs 3), .bool p.done, .int .i64 p.took]] w fun e w' => e = .returned (.agg #[.slice A' n c, .slice A p.prog.length d, .int .i64 p.at_, .int .u64 (p.rs 0), .int .u64 (p.rs 1), .int .u64 (p.rs 2), .int .u64 (p.rs 3), .bool p.done, .int .i64 p.took]) ∧ Ext w w' := by
  go_enter Try.func17, Try.ntmps17
  go_wp2_with fail
  refine bodyPost_ret (v := .agg #[.slice A' n c, .slice A p.prog.length d, .int .i64 p.at_, .int .u64 (p.rs 0), .int .u64 (p.rs 1), .int .u64 (p.rs 2), .int .u64 (p.rs 3), .bool p.done, .int .i64 p.took]) (by simp [results, Try.results17, go_sem, *]) rfl ⟨rfl, ?_⟩
  repeat (first | with_reducible refine Ext.drew ?_ | with_reducible refine Ext.new ?_ _)
  exact Ext.refl w
set_option maxRecDepth 100000 in
set_option maxHeartbeats 800000 in
theorem ref_full (A' : Option Addr) (n c : Nat) (A : Option Addr) (d : Nat) (p : Pc) (w : World) (hd : p.done = false) (ht : p.took = 1099511627776) :
    Calls Try.prog 17 #[.slice A' n c, .agg #[.slice A p.prog.length d, .int .i64 p.at_, .int .u64 (p.rs 0), .int .u64 (p.rs 1), .int .u64 (p.rs 2), .int .u64 (p.rs 3), .bool p.done, .int .i64 p.took]] w fun e w' => e = .returned (.agg #[.slice A' n c, .slice A p.prog.length d, .int .i64 p.at_, .int .u64 (p.rs 0), .int .u64 (p.rs 1), .int .u64 (p.rs 2), .int .u64 (p.rs 3), .bool p.done, .int .i64 p.took]) ∧ Ext w w' := by
  go_enter Try.func17, Try.ntmps17
  go_wp2_with fail
  refine bodyPost_ret (v := .agg #[.slice A' n c, .slice A p.prog.length d, .int .i64 p.at_, .int .u64 (p.rs 0), .int .u64 (p.rs 1), .int .u64 (p.rs 2), .int .u64 (p.rs 3), .bool p.done, .int .i64 p.took]) (by simp [results, Try.results17, go_sem, *]) rfl ⟨rfl, ?_⟩
  repeat (first | with_reducible refine Ext.drew ?_ | with_reducible refine Ext.new ?_ _)
  exact Ext.refl w

end Go.Proofs.Yteiabmbfjfaboaa
