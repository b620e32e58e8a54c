/-
  Contracts of package machine: what an instruction makes of words and registers (do), and where its process goes on (behind).
-/
import Derived.Test.YteiabmbfjfaboaaStep
set_option linter.unusedVariables false
set_option linter.unusedSimpArgs false
namespace Go.Proofs.Yteiabmbfjfaboaa
open Go.RowKit

set_option maxHeartbeats 2000000 in
theorem do_set_0 (ad : Addr) (c : Nat) (ws : List Int) (x : Ins) (rs : Nat → Int) (w : World) (hk : x.k = 5) (hr : x.r = 0) :
    Calls Try.prog 32 #[.slice (some ad) 64 c, .agg #[.int .i64 x.k, .int .i64 x.r, .int .i64 x.i, .int .u64 x.a, .int .i64 x.b], .agg #[.int .u64 (rs 0), .int .u64 (rs 1), .int .u64 (rs 2), .int .u64 (rs 3)]] w fun e w' => e = .returned (.tuple #[.slice (some ad) 64 c, .agg #[.int .u64 ((upd rs 0 x.a) 0), .int .u64 ((upd rs 0 x.a) 1), .int .u64 ((upd rs 0 x.a) 2), .int .u64 ((upd rs 0 x.a) 3)]]) ∧ Ext w w' := by
  go_enter Try.func32, Try.ntmps32
  go_wp2_with fail
  go_region
  go_wp2_with fail
  refine bodyPost_ret (v := .tuple #[.slice (some ad) 64 c, .agg #[.int .u64 ((upd rs 0 x.a) 0), .int .u64 ((upd rs 0 x.a) 1), .int .u64 ((upd rs 0 x.a) 2), .int .u64 ((upd rs 0 x.a) 3)]]) (by simp [results, Try.results32, go_sem, upd, *]) rfl ⟨rfl, ?_⟩
  repeat (first | with_reducible refine Ext.drew ?_ | with_reducible refine Ext.new ?_ _)
  exact Ext.refl w
set_option maxHeartbeats 2000000 in
theorem do_set_1 (ad : Addr) (c : Nat) (ws : List Int) (x : Ins) (rs : Nat → Int) (w : World) (hk : x.k = 5) (hr : x.r = 1) :
    Calls Try.prog 32 #[.slice (some ad) 64 c, .agg #[.int .i64 x.k, .int .i64 x.r, .int .i64 x.i, .int .u64 x.a, .int .i64 x.b], .agg #[.int .u64 (rs 0), .int .u64 (rs 1), .int .u64 (rs 2), .int .u64 (rs 3)]] w fun e w' => e = .returned (.tuple #[.slice (some ad) 64 c, .agg #[.int .u64 ((upd rs 1 x.a) 0), .int .u64 ((upd rs 1 x.a) 1), .int .u64 ((upd rs 1 x.a) 2), .int .u64 ((upd rs 1 x.a) 3)]]) ∧ Ext w w' := by
  go_enter Try.func32, Try.ntmps32
  go_wp2_with fail
  go_region
  go_wp2_with fail
  refine bodyPost_ret (v := .tuple #[.slice (some ad) 64 c, .agg #[.int .u64 ((upd rs 1 x.a) 0), .int .u64 ((upd rs 1 x.a) 1), .int .u64 ((upd rs 1 x.a) 2), .int .u64 ((upd rs 1 x.a) 3)]]) (by simp [results, Try.results32, go_sem, upd, *]) rfl ⟨rfl, ?_⟩
  repeat (first | with_reducible refine Ext.drew ?_ | with_reducible refine Ext.new ?_ _)
  exact Ext.refl w
set_option maxHeartbeats 2000000 in
theorem do_set_2 (ad : Addr) (c : Nat) (ws : List Int) (x : Ins) (rs : Nat → Int) (w : World) (hk : x.k = 5) (hr : x.r = 2) :
    Calls Try.prog 32 #[.slice (some ad) 64 c, .agg #[.int .i64 x.k, .int .i64 x.r, .int .i64 x.i, .int .u64 x.a, .int .i64 x.b], .agg #[.int .u64 (rs 0), .int .u64 (rs 1), .int .u64 (rs 2), .int .u64 (rs 3)]] w fun e w' => e = .returned (.tuple #[.slice (some ad) 64 c, .agg #[.int .u64 ((upd rs 2 x.a) 0), .int .u64 ((upd rs 2 x.a) 1), .int .u64 ((upd rs 2 x.a) 2), .int .u64 ((upd rs 2 x.a) 3)]]) ∧ Ext w w' := by
  go_enter Try.func32, Try.ntmps32
  go_wp2_with fail
  go_region
  go_wp2_with fail
  refine bodyPost_ret (v := .tuple #[.slice (some ad) 64 c, .agg #[.int .u64 ((upd rs 2 x.a) 0), .int .u64 ((upd rs 2 x.a) 1), .int .u64 ((upd rs 2 x.a) 2), .int .u64 ((upd rs 2 x.a) 3)]]) (by simp [results, Try.results32, go_sem, upd, *]) rfl ⟨rfl, ?_⟩
  repeat (first | with_reducible refine Ext.drew ?_ | with_reducible refine Ext.new ?_ _)
  exact Ext.refl w
set_option maxHeartbeats 2000000 in
theorem do_set_3 (ad : Addr) (c : Nat) (ws : List Int) (x : Ins) (rs : Nat → Int) (w : World) (hk : x.k = 5) (hr : x.r = 3) :
    Calls Try.prog 32 #[.slice (some ad) 64 c, .agg #[.int .i64 x.k, .int .i64 x.r, .int .i64 x.i, .int .u64 x.a, .int .i64 x.b], .agg #[.int .u64 (rs 0), .int .u64 (rs 1), .int .u64 (rs 2), .int .u64 (rs 3)]] w fun e w' => e = .returned (.tuple #[.slice (some ad) 64 c, .agg #[.int .u64 ((upd rs 3 x.a) 0), .int .u64 ((upd rs 3 x.a) 1), .int .u64 ((upd rs 3 x.a) 2), .int .u64 ((upd rs 3 x.a) 3)]]) ∧ Ext w w' := by
  go_enter Try.func32, Try.ntmps32
  go_wp2_with fail
  go_region
  go_wp2_with fail
  refine bodyPost_ret (v := .tuple #[.slice (some ad) 64 c, .agg #[.int .u64 ((upd rs 3 x.a) 0), .int .u64 ((upd rs 3 x.a) 1), .int .u64 ((upd rs 3 x.a) 2), .int .u64 ((upd rs 3 x.a) 3)]]) (by simp [results, Try.results32, go_sem, upd, *]) rfl ⟨rfl, ?_⟩
  repeat (first | with_reducible refine Ext.drew ?_ | with_reducible refine Ext.new ?_ _)
  exact Ext.refl w
set_option maxHeartbeats 2000000 in
theorem do_sum_0_0 (ad : Addr) (c : Nat) (ws : List Int) (x : Ins) (rs : Nat → Int) (w : World) (hk : x.k = 6) (hr : x.r = 0) (hb : x.b = 0) :
    Calls Try.prog 32 #[.slice (some ad) 64 c, .agg #[.int .i64 x.k, .int .i64 x.r, .int .i64 x.i, .int .u64 x.a, .int .i64 x.b], .agg #[.int .u64 (rs 0), .int .u64 (rs 1), .int .u64 (rs 2), .int .u64 (rs 3)]] w fun e w' => e = .returned (.tuple #[.slice (some ad) 64 c, .agg #[.int .u64 ((upd rs 0 (IntKind.u64.wrap (rs 0 + rs 0))) 0), .int .u64 ((upd rs 0 (IntKind.u64.wrap (rs 0 + rs 0))) 1), .int .u64 ((upd rs 0 (IntKind.u64.wrap (rs 0 + rs 0))) 2), .int .u64 ((upd rs 0 (IntKind.u64.wrap (rs 0 + rs 0))) 3)]]) ∧ Ext w w' := by
  go_enter Try.func32, Try.ntmps32
  go_wp2_with fail
  go_region
  go_wp2_with fail
  go_region
  go_wp2_with fail
  refine bodyPost_ret (v := .tuple #[.slice (some ad) 64 c, .agg #[.int .u64 ((upd rs 0 (IntKind.u64.wrap (rs 0 + rs 0))) 0), .int .u64 ((upd rs 0 (IntKind.u64.wrap (rs 0 + rs 0))) 1), .int .u64 ((upd rs 0 (IntKind.u64.wrap (rs 0 + rs 0))) 2), .int .u64 ((upd rs 0 (IntKind.u64.wrap (rs 0 + rs 0))) 3)]]) (by simp [results, Try.results32, go_sem, upd, *]) rfl ⟨rfl, ?_⟩
  repeat (first | with_reducible refine Ext.drew ?_ | with_reducible refine Ext.new ?_ _)
  exact Ext.refl w
set_option maxHeartbeats 2000000 in
theorem do_sum_0_1 (ad : Addr) (c : Nat) (ws : List Int) (x : Ins) (rs : Nat → Int) (w : World) (hk : x.k = 6) (hr : x.r = 0) (hb : x.b = 1) :
    Calls Try.prog 32 #[.slice (some ad) 64 c, .agg #[.int .i64 x.k, .int .i64 x.r, .int .i64 x.i, .int .u64 x.a, .int .i64 x.b], .agg #[.int .u64 (rs 0), .int .u64 (rs 1), .int .u64 (rs 2), .int .u64 (rs 3)]] w fun e w' => e = .returned (.tuple #[.slice (some ad) 64 c, .agg #[.int .u64 ((upd rs 0 (IntKind.u64.wrap (rs 0 + rs 1))) 0), .int .u64 ((upd rs 0 (IntKind.u64.wrap (rs 0 + rs 1))) 1), .int .u64 ((upd rs 0 (IntKind.u64.wrap (rs 0 + rs 1))) 2), .int .u64 ((upd rs 0 (IntKind.u64.wrap (rs 0 + rs 1))) 3)]]) ∧ Ext w w' := by
  go_enter Try.func32, Try.ntmps32
  go_wp2_with fail
  go_region
  go_wp2_with fail
  go_region
  go_wp2_with fail
  refine bodyPost_ret (v := .tuple #[.slice (some ad) 64 c, .agg #[.int .u64 ((upd rs 0 (IntKind.u64.wrap (rs 0 + rs 1))) 0), .int .u64 ((upd rs 0 (IntKind.u64.wrap (rs 0 + rs 1))) 1), .int .u64 ((upd rs 0 (IntKind.u64.wrap (rs 0 + rs 1))) 2), .int .u64 ((upd rs 0 (IntKind.u64.wrap (rs 0 + rs 1))) 3)]]) (by simp [results, Try.results32, go_sem, upd, *]) rfl ⟨rfl, ?_⟩
  repeat (first | with_reducible refine Ext.drew ?_ | with_reducible refine Ext.new ?_ _)
  exact Ext.refl w
set_option maxHeartbeats 2000000 in
theorem do_sum_0_2 (ad : Addr) (c : Nat) (ws : List Int) (x : Ins) (rs : Nat → Int) (w : World) (hk : x.k = 6) (hr : x.r = 0) (hb : x.b = 2) :
    Calls Try.prog 32 #[.slice (some ad) 64 c, .agg #[.int .i64 x.k, .int .i64 x.r, .int .i64 x.i, .int .u64 x.a, .int .i64 x.b], .agg #[.int .u64 (rs 0), .int .u64 (rs 1), .int .u64 (rs 2), .int .u64 (rs 3)]] w fun e w' => e = .returned (.tuple #[.slice (some ad) 64 c, .agg #[.int .u64 ((upd rs 0 (IntKind.u64.wrap (rs 0 + rs 2))) 0), .int .u64 ((upd rs 0 (IntKind.u64.wrap (rs 0 + rs 2))) 1), .int .u64 ((upd rs 0 (IntKind.u64.wrap (rs 0 + rs 2))) 2), .int .u64 ((upd rs 0 (IntKind.u64.wrap (rs 0 + rs 2))) 3)]]) ∧ Ext w w' := by
  go_enter Try.func32, Try.ntmps32
  go_wp2_with fail
  go_region
  go_wp2_with fail
  go_region
  go_wp2_with fail
  refine bodyPost_ret (v := .tuple #[.slice (some ad) 64 c, .agg #[.int .u64 ((upd rs 0 (IntKind.u64.wrap (rs 0 + rs 2))) 0), .int .u64 ((upd rs 0 (IntKind.u64.wrap (rs 0 + rs 2))) 1), .int .u64 ((upd rs 0 (IntKind.u64.wrap (rs 0 + rs 2))) 2), .int .u64 ((upd rs 0 (IntKind.u64.wrap (rs 0 + rs 2))) 3)]]) (by simp [results, Try.results32, go_sem, upd, *]) rfl ⟨rfl, ?_⟩
  repeat (first | with_reducible refine Ext.drew ?_ | with_reducible refine Ext.new ?_ _)
  exact Ext.refl w
set_option maxHeartbeats 2000000 in
theorem do_sum_0_3 (ad : Addr) (c : Nat) (ws : List Int) (x : Ins) (rs : Nat → Int) (w : World) (hk : x.k = 6) (hr : x.r = 0) (hb : x.b = 3) :
    Calls Try.prog 32 #[.slice (some ad) 64 c, .agg #[.int .i64 x.k, .int .i64 x.r, .int .i64 x.i, .int .u64 x.a, .int .i64 x.b], .agg #[.int .u64 (rs 0), .int .u64 (rs 1), .int .u64 (rs 2), .int .u64 (rs 3)]] w fun e w' => e = .returned (.tuple #[.slice (some ad) 64 c, .agg #[.int .u64 ((upd rs 0 (IntKind.u64.wrap (rs 0 + rs 3))) 0), .int .u64 ((upd rs 0 (IntKind.u64.wrap (rs 0 + rs 3))) 1), .int .u64 ((upd rs 0 (IntKind.u64.wrap (rs 0 + rs 3))) 2), .int .u64 ((upd rs 0 (IntKind.u64.wrap (rs 0 + rs 3))) 3)]]) ∧ Ext w w' := by
  go_enter Try.func32, Try.ntmps32
  go_wp2_with fail
  go_region
  go_wp2_with fail
  go_region
  go_wp2_with fail
  refine bodyPost_ret (v := .tuple #[.slice (some ad) 64 c, .agg #[.int .u64 ((upd rs 0 (IntKind.u64.wrap (rs 0 + rs 3))) 0), .int .u64 ((upd rs 0 (IntKind.u64.wrap (rs 0 + rs 3))) 1), .int .u64 ((upd rs 0 (IntKind.u64.wrap (rs 0 + rs 3))) 2), .int .u64 ((upd rs 0 (IntKind.u64.wrap (rs 0 + rs 3))) 3)]]) (by simp [results, Try.results32, go_sem, upd, *]) rfl ⟨rfl, ?_⟩
  repeat (first | with_reducible refine Ext.drew ?_ | with_reducible refine Ext.new ?_ _)
  exact Ext.refl w
set_option maxHeartbeats 2000000 in
theorem do_sum_1_0 (ad : Addr) (c : Nat) (ws : List Int) (x : Ins) (rs : Nat → Int) (w : World) (hk : x.k = 6) (hr : x.r = 1) (hb : x.b = 0) :
    Calls Try.prog 32 #[.slice (some ad) 64 c, .agg #[.int .i64 x.k, .int .i64 x.r, .int .i64 x.i, .int .u64 x.a, .int .i64 x.b], .agg #[.int .u64 (rs 0), .int .u64 (rs 1), .int .u64 (rs 2), .int .u64 (rs 3)]] w fun e w' => e = .returned (.tuple #[.slice (some ad) 64 c, .agg #[.int .u64 ((upd rs 1 (IntKind.u64.wrap (rs 1 + rs 0))) 0), .int .u64 ((upd rs 1 (IntKind.u64.wrap (rs 1 + rs 0))) 1), .int .u64 ((upd rs 1 (IntKind.u64.wrap (rs 1 + rs 0))) 2), .int .u64 ((upd rs 1 (IntKind.u64.wrap (rs 1 + rs 0))) 3)]]) ∧ Ext w w' := by
  go_enter Try.func32, Try.ntmps32
  go_wp2_with fail
  go_region
  go_wp2_with fail
  go_region
  go_wp2_with fail
  refine bodyPost_ret (v := .tuple #[.slice (some ad) 64 c, .agg #[.int .u64 ((upd rs 1 (IntKind.u64.wrap (rs 1 + rs 0))) 0), .int .u64 ((upd rs 1 (IntKind.u64.wrap (rs 1 + rs 0))) 1), .int .u64 ((upd rs 1 (IntKind.u64.wrap (rs 1 + rs 0))) 2), .int .u64 ((upd rs 1 (IntKind.u64.wrap (rs 1 + rs 0))) 3)]]) (by simp [results, Try.results32, go_sem, upd, *]) rfl ⟨rfl, ?_⟩
  repeat (first | with_reducible refine Ext.drew ?_ | with_reducible refine Ext.new ?_ _)
  exact Ext.refl w
set_option maxHeartbeats 2000000 in
theorem do_sum_1_1 (ad : Addr) (c : Nat) (ws : List Int) (x : Ins) (rs : Nat → Int) (w : World) (hk : x.k = 6) (hr : x.r = 1) (hb : x.b = 1) :
    Calls Try.prog 32 #[.slice (some ad) 64 c, .agg #[.int .i64 x.k, .int .i64 x.r, .int .i64 x.i, .int .u64 x.a, .int .i64 x.b], .agg #[.int .u64 (rs 0), .int .u64 (rs 1), .int .u64 (rs 2), .int .u64 (rs 3)]] w fun e w' => e = .returned (.tuple #[.slice (some ad) 64 c, .agg #[.int .u64 ((upd rs 1 (IntKind.u64.wrap (rs 1 + rs 1))) 0), .int .u64 ((upd rs 1 (IntKind.u64.wrap (rs 1 + rs 1))) 1), .int .u64 ((upd rs 1 (IntKind.u64.wrap (rs 1 + rs 1))) 2), .int .u64 ((upd rs 1 (IntKind.u64.wrap (rs 1 + rs 1))) 3)]]) ∧ Ext w w' := by
  go_enter Try.func32, Try.ntmps32
  go_wp2_with fail
  go_region
  go_wp2_with fail
  go_region
  go_wp2_with fail
  refine bodyPost_ret (v := .tuple #[.slice (some ad) 64 c, .agg #[.int .u64 ((upd rs 1 (IntKind.u64.wrap (rs 1 + rs 1))) 0), .int .u64 ((upd rs 1 (IntKind.u64.wrap (rs 1 + rs 1))) 1), .int .u64 ((upd rs 1 (IntKind.u64.wrap (rs 1 + rs 1))) 2), .int .u64 ((upd rs 1 (IntKind.u64.wrap (rs 1 + rs 1))) 3)]]) (by simp [results, Try.results32, go_sem, upd, *]) rfl ⟨rfl, ?_⟩
  repeat (first | with_reducible refine Ext.drew ?_ | with_reducible refine Ext.new ?_ _)
  exact Ext.refl w
set_option maxHeartbeats 2000000 in
theorem do_sum_1_2 (ad : Addr) (c : Nat) (ws : List Int) (x : Ins) (rs : Nat → Int) (w : World) (hk : x.k = 6) (hr : x.r = 1) (hb : x.b = 2) :
    Calls Try.prog 32 #[.slice (some ad) 64 c, .agg #[.int .i64 x.k, .int .i64 x.r, .int .i64 x.i, .int .u64 x.a, .int .i64 x.b], .agg #[.int .u64 (rs 0), .int .u64 (rs 1), .int .u64 (rs 2), .int .u64 (rs 3)]] w fun e w' => e = .returned (.tuple #[.slice (some ad) 64 c, .agg #[.int .u64 ((upd rs 1 (IntKind.u64.wrap (rs 1 + rs 2))) 0), .int .u64 ((upd rs 1 (IntKind.u64.wrap (rs 1 + rs 2))) 1), .int .u64 ((upd rs 1 (IntKind.u64.wrap (rs 1 + rs 2))) 2), .int .u64 ((upd rs 1 (IntKind.u64.wrap (rs 1 + rs 2))) 3)]]) ∧ Ext w w' := by
  go_enter Try.func32, Try.ntmps32
  go_wp2_with fail
  go_region
  go_wp2_with fail
  go_region
  go_wp2_with fail
  refine bodyPost_ret (v := .tuple #[.slice (some ad) 64 c, .agg #[.int .u64 ((upd rs 1 (IntKind.u64.wrap (rs 1 + rs 2))) 0), .int .u64 ((upd rs 1 (IntKind.u64.wrap (rs 1 + rs 2))) 1), .int .u64 ((upd rs 1 (IntKind.u64.wrap (rs 1 + rs 2))) 2), .int .u64 ((upd rs 1 (IntKind.u64.wrap (rs 1 + rs 2))) 3)]]) (by simp [results, Try.results32, go_sem, upd, *]) rfl ⟨rfl, ?_⟩
  repeat (first | with_reducible refine Ext.drew ?_ | with_reducible refine Ext.new ?_ _)
  exact Ext.refl w
set_option maxHeartbeats 2000000 in
theorem do_sum_1_3 (ad : Addr) (c : Nat) (ws : List Int) (x : Ins) (rs : Nat → Int) (w : World) (hk : x.k = 6) (hr : x.r = 1) (hb : x.b = 3) :
    Calls Try.prog 32 #[.slice (some ad) 64 c, .agg #[.int .i64 x.k, .int .i64 x.r, .int .i64 x.i, .int .u64 x.a, .int .i64 x.b], .agg #[.int .u64 (rs 0), .int .u64 (rs 1), .int .u64 (rs 2), .int .u64 (rs 3)]] w fun e w' => e = .returned (.tuple #[.slice (some ad) 64 c, .agg #[.int .u64 ((upd rs 1 (IntKind.u64.wrap (rs 1 + rs 3))) 0), .int .u64 ((upd rs 1 (IntKind.u64.wrap (rs 1 + rs 3))) 1), .int .u64 ((upd rs 1 (IntKind.u64.wrap (rs 1 + rs 3))) 2), .int .u64 ((upd rs 1 (IntKind.u64.wrap (rs 1 + rs 3))) 3)]]) ∧ Ext w w' := by
  go_enter Try.func32, Try.ntmps32
  go_wp2_with fail
  go_region
  go_wp2_with fail
  go_region
  go_wp2_with fail
  refine bodyPost_ret (v := .tuple #[.slice (some ad) 64 c, .agg #[.int .u64 ((upd rs 1 (IntKind.u64.wrap (rs 1 + rs 3))) 0), .int .u64 ((upd rs 1 (IntKind.u64.wrap (rs 1 + rs 3))) 1), .int .u64 ((upd rs 1 (IntKind.u64.wrap (rs 1 + rs 3))) 2), .int .u64 ((upd rs 1 (IntKind.u64.wrap (rs 1 + rs 3))) 3)]]) (by simp [results, Try.results32, go_sem, upd, *]) rfl ⟨rfl, ?_⟩
  repeat (first | with_reducible refine Ext.drew ?_ | with_reducible refine Ext.new ?_ _)
  exact Ext.refl w
set_option maxHeartbeats 2000000 in
theorem do_sum_2_0 (ad : Addr) (c : Nat) (ws : List Int) (x : Ins) (rs : Nat → Int) (w : World) (hk : x.k = 6) (hr : x.r = 2) (hb : x.b = 0) :
    Calls Try.prog 32 #[.slice (some ad) 64 c, .agg #[.int .i64 x.k, .int .i64 x.r, .int .i64 x.i, .int .u64 x.a, .int .i64 x.b], .agg #[.int .u64 (rs 0), .int .u64 (rs 1), .int .u64 (rs 2), .int .u64 (rs 3)]] w fun e w' => e = .returned (.tuple #[.slice (some ad) 64 c, .agg #[.int .u64 ((upd rs 2 (IntKind.u64.wrap (rs 2 + rs 0))) 0), .int .u64 ((upd rs 2 (IntKind.u64.wrap (rs 2 + rs 0))) 1), .int .u64 ((upd rs 2 (IntKind.u64.wrap (rs 2 + rs 0))) 2), .int .u64 ((upd rs 2 (IntKind.u64.wrap (rs 2 + rs 0))) 3)]]) ∧ Ext w w' := by
  go_enter Try.func32, Try.ntmps32
  go_wp2_with fail
  go_region
  go_wp2_with fail
  go_region
  go_wp2_with fail
  refine bodyPost_ret (v := .tuple #[.slice (some ad) 64 c, .agg #[.int .u64 ((upd rs 2 (IntKind.u64.wrap (rs 2 + rs 0))) 0), .int .u64 ((upd rs 2 (IntKind.u64.wrap (rs 2 + rs 0))) 1), .int .u64 ((upd rs 2 (IntKind.u64.wrap (rs 2 + rs 0))) 2), .int .u64 ((upd rs 2 (IntKind.u64.wrap (rs 2 + rs 0))) 3)]]) (by simp [results, Try.results32, go_sem, upd, *]) rfl ⟨rfl, ?_⟩
  repeat (first | with_reducible refine Ext.drew ?_ | with_reducible refine Ext.new ?_ _)
  exact Ext.refl w
set_option maxHeartbeats 2000000 in
theorem do_sum_2_1 (ad : Addr) (c : Nat) (ws : List Int) (x : Ins) (rs : Nat → Int) (w : World) (hk : x.k = 6) (hr : x.r = 2) (hb : x.b = 1) :
    Calls Try.prog 32 #[.slice (some ad) 64 c, .agg #[.int .i64 x.k, .int .i64 x.r, .int .i64 x.i, .int .u64 x.a, .int .i64 x.b], .agg #[.int .u64 (rs 0), .int .u64 (rs 1), .int .u64 (rs 2), .int .u64 (rs 3)]] w fun e w' => e = .returned (.tuple #[.slice (some ad) 64 c, .agg #[.int .u64 ((upd rs 2 (IntKind.u64.wrap (rs 2 + rs 1))) 0), .int .u64 ((upd rs 2 (IntKind.u64.wrap (rs 2 + rs 1))) 1), .int .u64 ((upd rs 2 (IntKind.u64.wrap (rs 2 + rs 1))) 2), .int .u64 ((upd rs 2 (IntKind.u64.wrap (rs 2 + rs 1))) 3)]]) ∧ Ext w w' := by
  go_enter Try.func32, Try.ntmps32
  go_wp2_with fail
  go_region
  go_wp2_with fail
  go_region
  go_wp2_with fail
  refine bodyPost_ret (v := .tuple #[.slice (some ad) 64 c, .agg #[.int .u64 ((upd rs 2 (IntKind.u64.wrap (rs 2 + rs 1))) 0), .int .u64 ((upd rs 2 (IntKind.u64.wrap (rs 2 + rs 1))) 1), .int .u64 ((upd rs 2 (IntKind.u64.wrap (rs 2 + rs 1))) 2), .int .u64 ((upd rs 2 (IntKind.u64.wrap (rs 2 + rs 1))) 3)]]) (by simp [results, Try.results32, go_sem, upd, *]) rfl ⟨rfl, ?_⟩
  repeat (first | with_reducible refine Ext.drew ?_ | with_reducible refine Ext.new ?_ _)
  exact Ext.refl w
set_option maxHeartbeats 2000000 in
theorem do_sum_2_2 (ad : Addr) (c : Nat) (ws : List Int) (x : Ins) (rs : Nat → Int) (w : World) (hk : x.k = 6) (hr : x.r = 2) (hb : x.b = 2) :
    Calls Try.prog 32 #[.slice (some ad) 64 c, .agg #[.int .i64 x.k, .int .i64 x.r, .int .i64 x.i, .int .u64 x.a, .int .i64 x.b], .agg #[.int .u64 (rs 0), .int .u64 (rs 1), .int .u64 (rs 2), .int .u64 (rs 3)]] w fun e w' => e = .returned (.tuple #[.slice (some ad) 64 c, .agg #[.int .u64 ((upd rs 2 (IntKind.u64.wrap (rs 2 + rs 2))) 0), .int .u64 ((upd rs 2 (IntKind.u64.wrap (rs 2 + rs 2))) 1), .int .u64 ((upd rs 2 (IntKind.u64.wrap (rs 2 + rs 2))) 2), .int .u64 ((upd rs 2 (IntKind.u64.wrap (rs 2 + rs 2))) 3)]]) ∧ Ext w w' := by
  go_enter Try.func32, Try.ntmps32
  go_wp2_with fail
  go_region
  go_wp2_with fail
  go_region
  go_wp2_with fail
  refine bodyPost_ret (v := .tuple #[.slice (some ad) 64 c, .agg #[.int .u64 ((upd rs 2 (IntKind.u64.wrap (rs 2 + rs 2))) 0), .int .u64 ((upd rs 2 (IntKind.u64.wrap (rs 2 + rs 2))) 1), .int .u64 ((upd rs 2 (IntKind.u64.wrap (rs 2 + rs 2))) 2), .int .u64 ((upd rs 2 (IntKind.u64.wrap (rs 2 + rs 2))) 3)]]) (by simp [results, Try.results32, go_sem, upd, *]) rfl ⟨rfl, ?_⟩
  repeat (first | with_reducible refine Ext.drew ?_ | with_reducible refine Ext.new ?_ _)
  exact Ext.refl w
set_option maxHeartbeats 2000000 in
theorem do_sum_2_3 (ad : Addr) (c : Nat) (ws : List Int) (x : Ins) (rs : Nat → Int) (w : World) (hk : x.k = 6) (hr : x.r = 2) (hb : x.b = 3) :
    Calls Try.prog 32 #[.slice (some ad) 64 c, .agg #[.int .i64 x.k, .int .i64 x.r, .int .i64 x.i, .int .u64 x.a, .int .i64 x.b], .agg #[.int .u64 (rs 0), .int .u64 (rs 1), .int .u64 (rs 2), .int .u64 (rs 3)]] w fun e w' => e = .returned (.tuple #[.slice (some ad) 64 c, .agg #[.int .u64 ((upd rs 2 (IntKind.u64.wrap (rs 2 + rs 3))) 0), .int .u64 ((upd rs 2 (IntKind.u64.wrap (rs 2 + rs 3))) 1), .int .u64 ((upd rs 2 (IntKind.u64.wrap (rs 2 + rs 3))) 2), .int .u64 ((upd rs 2 (IntKind.u64.wrap (rs 2 + rs 3))) 3)]]) ∧ Ext w w' := by
  go_enter Try.func32, Try.ntmps32
  go_wp2_with fail
  go_region
  go_wp2_with fail
  go_region
  go_wp2_with fail
  refine bodyPost_ret (v := .tuple #[.slice (some ad) 64 c, .agg #[.int .u64 ((upd rs 2 (IntKind.u64.wrap (rs 2 + rs 3))) 0), .int .u64 ((upd rs 2 (IntKind.u64.wrap (rs 2 + rs 3))) 1), .int .u64 ((upd rs 2 (IntKind.u64.wrap (rs 2 + rs 3))) 2), .int .u64 ((upd rs 2 (IntKind.u64.wrap (rs 2 + rs 3))) 3)]]) (by simp [results, Try.results32, go_sem, upd, *]) rfl ⟨rfl, ?_⟩
  repeat (first | with_reducible refine Ext.drew ?_ | with_reducible refine Ext.new ?_ _)
  exact Ext.refl w
set_option maxHeartbeats 2000000 in
theorem do_sum_3_0 (ad : Addr) (c : Nat) (ws : List Int) (x : Ins) (rs : Nat → Int) (w : World) (hk : x.k = 6) (hr : x.r = 3) (hb : x.b = 0) :
    Calls Try.prog 32 #[.slice (some ad) 64 c, .agg #[.int .i64 x.k, .int .i64 x.r, .int .i64 x.i, .int .u64 x.a, .int .i64 x.b], .agg #[.int .u64 (rs 0), .int .u64 (rs 1), .int .u64 (rs 2), .int .u64 (rs 3)]] w fun e w' => e = .returned (.tuple #[.slice (some ad) 64 c, .agg #[.int .u64 ((upd rs 3 (IntKind.u64.wrap (rs 3 + rs 0))) 0), .int .u64 ((upd rs 3 (IntKind.u64.wrap (rs 3 + rs 0))) 1), .int .u64 ((upd rs 3 (IntKind.u64.wrap (rs 3 + rs 0))) 2), .int .u64 ((upd rs 3 (IntKind.u64.wrap (rs 3 + rs 0))) 3)]]) ∧ Ext w w' := by
  go_enter Try.func32, Try.ntmps32
  go_wp2_with fail
  go_region
  go_wp2_with fail
  go_region
  go_wp2_with fail
  refine bodyPost_ret (v := .tuple #[.slice (some ad) 64 c, .agg #[.int .u64 ((upd rs 3 (IntKind.u64.wrap (rs 3 + rs 0))) 0), .int .u64 ((upd rs 3 (IntKind.u64.wrap (rs 3 + rs 0))) 1), .int .u64 ((upd rs 3 (IntKind.u64.wrap (rs 3 + rs 0))) 2), .int .u64 ((upd rs 3 (IntKind.u64.wrap (rs 3 + rs 0))) 3)]]) (by simp [results, Try.results32, go_sem, upd, *]) rfl ⟨rfl, ?_⟩
  repeat (first | with_reducible refine Ext.drew ?_ | with_reducible refine Ext.new ?_ _)
  exact Ext.refl w
set_option maxHeartbeats 2000000 in
theorem do_sum_3_1 (ad : Addr) (c : Nat) (ws : List Int) (x : Ins) (rs : Nat → Int) (w : World) (hk : x.k = 6) (hr : x.r = 3) (hb : x.b = 1) :
    Calls Try.prog 32 #[.slice (some ad) 64 c, .agg #[.int .i64 x.k, .int .i64 x.r, .int .i64 x.i, .int .u64 x.a, .int .i64 x.b], .agg #[.int .u64 (rs 0), .int .u64 (rs 1), .int .u64 (rs 2), .int .u64 (rs 3)]] w fun e w' => e = .returned (.tuple #[.slice (some ad) 64 c, .agg #[.int .u64 ((upd rs 3 (IntKind.u64.wrap (rs 3 + rs 1))) 0), .int .u64 ((upd rs 3 (IntKind.u64.wrap (rs 3 + rs 1))) 1), .int .u64 ((upd rs 3 (IntKind.u64.wrap (rs 3 + rs 1))) 2), .int .u64 ((upd rs 3 (IntKind.u64.wrap (rs 3 + rs 1))) 3)]]) ∧ Ext w w' := by
  go_enter Try.func32, Try.ntmps32
  go_wp2_with fail
  go_region
  go_wp2_with fail
  go_region
  go_wp2_with fail
  refine bodyPost_ret (v := .tuple #[.slice (some ad) 64 c, .agg #[.int .u64 ((upd rs 3 (IntKind.u64.wrap (rs 3 + rs 1))) 0), .int .u64 ((upd rs 3 (IntKind.u64.wrap (rs 3 + rs 1))) 1), .int .u64 ((upd rs 3 (IntKind.u64.wrap (rs 3 + rs 1))) 2), .int .u64 ((upd rs 3 (IntKind.u64.wrap (rs 3 + rs 1))) 3)]]) (by simp [results, Try.results32, go_sem, upd, *]) rfl ⟨rfl, ?_⟩
  repeat (first | with_reducible refine Ext.drew ?_ | with_reducible refine Ext.new ?_ _)
  exact Ext.refl w
set_option maxHeartbeats 2000000 in
theorem do_sum_3_2 (ad : Addr) (c : Nat) (ws : List Int) (x : Ins) (rs : Nat → Int) (w : World) (hk : x.k = 6) (hr : x.r = 3) (hb : x.b = 2) :
    Calls Try.prog 32 #[.slice (some ad) 64 c, .agg #[.int .i64 x.k, .int .i64 x.r, .int .i64 x.i, .int .u64 x.a, .int .i64 x.b], .agg #[.int .u64 (rs 0), .int .u64 (rs 1), .int .u64 (rs 2), .int .u64 (rs 3)]] w fun e w' => e = .returned (.tuple #[.slice (some ad) 64 c, .agg #[.int .u64 ((upd rs 3 (IntKind.u64.wrap (rs 3 + rs 2))) 0), .int .u64 ((upd rs 3 (IntKind.u64.wrap (rs 3 + rs 2))) 1), .int .u64 ((upd rs 3 (IntKind.u64.wrap (rs 3 + rs 2))) 2), .int .u64 ((upd rs 3 (IntKind.u64.wrap (rs 3 + rs 2))) 3)]]) ∧ Ext w w' := by
  go_enter Try.func32, Try.ntmps32
  go_wp2_with fail
  go_region
  go_wp2_with fail
  go_region
  go_wp2_with fail
  refine bodyPost_ret (v := .tuple #[.slice (some ad) 64 c, .agg #[.int .u64 ((upd rs 3 (IntKind.u64.wrap (rs 3 + rs 2))) 0), .int .u64 ((upd rs 3 (IntKind.u64.wrap (rs 3 + rs 2))) 1), .int .u64 ((upd rs 3 (IntKind.u64.wrap (rs 3 + rs 2))) 2), .int .u64 ((upd rs 3 (IntKind.u64.wrap (rs 3 + rs 2))) 3)]]) (by simp [results, Try.results32, go_sem, upd, *]) rfl ⟨rfl, ?_⟩
  repeat (first | with_reducible refine Ext.drew ?_ | with_reducible refine Ext.new ?_ _)
  exact Ext.refl w
set_option maxHeartbeats 2000000 in
theorem do_sum_3_3 (ad : Addr) (c : Nat) (ws : List Int) (x : Ins) (rs : Nat → Int) (w : World) (hk : x.k = 6) (hr : x.r = 3) (hb : x.b = 3) :
    Calls Try.prog 32 #[.slice (some ad) 64 c, .agg #[.int .i64 x.k, .int .i64 x.r, .int .i64 x.i, .int .u64 x.a, .int .i64 x.b], .agg #[.int .u64 (rs 0), .int .u64 (rs 1), .int .u64 (rs 2), .int .u64 (rs 3)]] w fun e w' => e = .returned (.tuple #[.slice (some ad) 64 c, .agg #[.int .u64 ((upd rs 3 (IntKind.u64.wrap (rs 3 + rs 3))) 0), .int .u64 ((upd rs 3 (IntKind.u64.wrap (rs 3 + rs 3))) 1), .int .u64 ((upd rs 3 (IntKind.u64.wrap (rs 3 + rs 3))) 2), .int .u64 ((upd rs 3 (IntKind.u64.wrap (rs 3 + rs 3))) 3)]]) ∧ Ext w w' := by
  go_enter Try.func32, Try.ntmps32
  go_wp2_with fail
  go_region
  go_wp2_with fail
  go_region
  go_wp2_with fail
  refine bodyPost_ret (v := .tuple #[.slice (some ad) 64 c, .agg #[.int .u64 ((upd rs 3 (IntKind.u64.wrap (rs 3 + rs 3))) 0), .int .u64 ((upd rs 3 (IntKind.u64.wrap (rs 3 + rs 3))) 1), .int .u64 ((upd rs 3 (IntKind.u64.wrap (rs 3 + rs 3))) 2), .int .u64 ((upd rs 3 (IntKind.u64.wrap (rs 3 + rs 3))) 3)]]) (by simp [results, Try.results32, go_sem, upd, *]) rfl ⟨rfl, ?_⟩
  repeat (first | with_reducible refine Ext.drew ?_ | with_reducible refine Ext.new ?_ _)
  exact Ext.refl w
set_option maxHeartbeats 2000000 in
theorem do_none_7 (ad : Addr) (c : Nat) (ws : List Int) (x : Ins) (rs : Nat → Int) (w : World) (hk : x.k = 7) :
    Calls Try.prog 32 #[.slice (some ad) 64 c, .agg #[.int .i64 x.k, .int .i64 x.r, .int .i64 x.i, .int .u64 x.a, .int .i64 x.b], .agg #[.int .u64 (rs 0), .int .u64 (rs 1), .int .u64 (rs 2), .int .u64 (rs 3)]] w fun e w' => e = .returned (.tuple #[.slice (some ad) 64 c, .agg #[.int .u64 (rs 0), .int .u64 (rs 1), .int .u64 (rs 2), .int .u64 (rs 3)]]) ∧ Ext w w' := by
  go_enter Try.func32, Try.ntmps32
  go_wp2_with fail
  go_region
  go_wp2_with fail
  refine bodyPost_ret (v := .tuple #[.slice (some ad) 64 c, .agg #[.int .u64 (rs 0), .int .u64 (rs 1), .int .u64 (rs 2), .int .u64 (rs 3)]]) (by simp [results, Try.results32, go_sem, *]) rfl ⟨rfl, ?_⟩
  repeat (first | with_reducible refine Ext.drew ?_ | with_reducible refine Ext.new ?_ _)
  exact Ext.refl w
set_option maxHeartbeats 2000000 in
theorem do_none_8 (ad : Addr) (c : Nat) (ws : List Int) (x : Ins) (rs : Nat → Int) (w : World) (hk : x.k = 8) :
    Calls Try.prog 32 #[.slice (some ad) 64 c, .agg #[.int .i64 x.k, .int .i64 x.r, .int .i64 x.i, .int .u64 x.a, .int .i64 x.b], .agg #[.int .u64 (rs 0), .int .u64 (rs 1), .int .u64 (rs 2), .int .u64 (rs 3)]] w fun e w' => e = .returned (.tuple #[.slice (some ad) 64 c, .agg #[.int .u64 (rs 0), .int .u64 (rs 1), .int .u64 (rs 2), .int .u64 (rs 3)]]) ∧ Ext w w' := by
  go_enter Try.func32, Try.ntmps32
  go_wp2_with fail
  go_region
  go_wp2_with fail
  refine bodyPost_ret (v := .tuple #[.slice (some ad) 64 c, .agg #[.int .u64 (rs 0), .int .u64 (rs 1), .int .u64 (rs 2), .int .u64 (rs 3)]]) (by simp [results, Try.results32, go_sem, *]) rfl ⟨rfl, ?_⟩
  repeat (first | with_reducible refine Ext.drew ?_ | with_reducible refine Ext.new ?_ _)
  exact Ext.refl w
set_option maxHeartbeats 2000000 in
theorem do_word (ad : Addr) (c : Nat) (ws : List Int) (x : Ins) (rs : Nat → Int) (w : World) (hk : x.k ≤ 4) (rs' : Nat → Int) (ws' : List Int)
    (HD : ∀ W, Ext w W → Calls Try.prog 33 #[.slice (some ad) 64 c, .agg #[.int .i64 x.k, .int .i64 x.r, .int .i64 x.i, .int .u64 x.a, .int .i64 x.b], .agg #[.int .u64 (rs 0), .int .u64 (rs 1), .int .u64 (rs 2), .int .u64 (rs 3)]] W fun e w' =>
      ∃ A' c', e = .returned (.tuple #[.slice A' 64 c', .agg #[.int .u64 (rs' 0), .int .u64 (rs' 1), .int .u64 (rs' 2), .int .u64 (rs' 3)]]) ∧ Rd w' 1 A' 64 (Us ws') ∧ Ext W w' ∧ ∀ q, A' = some q → W.heap.size ≤ q.block) :
    Calls Try.prog 32 #[.slice (some ad) 64 c, .agg #[.int .i64 x.k, .int .i64 x.r, .int .i64 x.i, .int .u64 x.a, .int .i64 x.b], .agg #[.int .u64 (rs 0), .int .u64 (rs 1), .int .u64 (rs 2), .int .u64 (rs 3)]] w fun e w' => ∃ A' c', e = .returned (.tuple #[.slice A' 64 c', .agg #[.int .u64 (rs' 0), .int .u64 (rs' 1), .int .u64 (rs' 2), .int .u64 (rs' 3)]]) ∧ Rd w' 1 A' 64 (Us ws') ∧ Ext w w' ∧ ∀ q, A' = some q → w.heap.size ≤ q.block := by
  have H := Lib.hid HD
  clear HD
  have e5 : (x.k == 5) = false := by simp; omega
  have e6 : (x.k == 6) = false := by simp; omega
  have e7 : (x.k == 7) = false := by simp; omega
  have e8 : (x.k == 8) = false := by simp; omega
  go_enter Try.func32, Try.ntmps32
  go_wp2_with fail
  refine (H.out _ ((((Ext.refl w).new _).new _).new _)).mono ?_; rintro e w1 ⟨A1, c1, rfl, hr1, hx, hf1⟩
  have B7 := (Bx.new ((w.alloc _).alloc _) _ _).to hx
  simp at B7
  have E1 := ((((Ext.refl w).new _).new _).new _).step hx
  clear hx
  have k2 := B7.cell; have f2 := B7.free; have z2 := B7.lt
  go_wp2_with fail
  replace hf1 : ∀ q, A1 = some q → w.heap.size + 3 ≤ q.block := fun q hq => by
    have := hf1 q hq
    simp at this
    omega
  refine bodyPost_ret (v := .tuple #[.slice A1 64 c1, .agg #[.int .u64 (rs' 0), .int .u64 (rs' 1), .int .u64 (rs' 2), .int .u64 (rs' 3)]]) (by simp [results, Try.results32, go_sem, *]) rfl ?_
  refine ⟨_, _, rfl, ?_, ?_, fun q hq => by have := hf1 q hq; omega⟩
  · repeat (first | with_reducible refine Rd.drew ?_ | with_reducible refine Rd.past hf1 (by omega) ?_)
    exact hr1
  · repeat (first | with_reducible refine Ext.drew ?_ | with_reducible refine Ext.set ?_ _ (by omega))
    exact E1

end Go.Proofs.Yteiabmbfjfaboaa
