/-
  Contracts of package word: Do.
-/
import Derived.Test.YteiabmbfjfaboaaWord
set_option linter.unusedVariables false
set_option linter.unusedSimpArgs false
namespace Go.Proofs.Yteiabmbfjfaboaa
open Go.RowKit

set_option maxHeartbeats 400000 in

theorem do_by (ad : Addr) (n c : Nat) (zs : List Int) (k a b : Int) (i : Nat) (w : World) (h : Rd w 1 (some ad) n (Us zs)) (h1 : n ≤ 64) (h3 : i < n) (now ans : Int) (f : Nat) (ca : Nat → Array Value)
    (hch : ∀ w : World, Calls Try.prog 35 #[.agg #[.int .i64 k, .int .i64 i, .int .u64 a, .int .u64 b]] w fun e w' =>
      e = .returned (.func (.func f) #[] (ca w.heap.size)) ∧ w.alloc (.cells #[.int .i64 k, .int .i64 i, .int .u64 a, .int .u64 b] 66) = w')
    (hcf : ∀ (args : Array Value) (w : World), (callFunc f args).run Try.prog w = .ok (.enter f args) w)
    (ht : ∀ p, Turns f (ca p) p #[.int .i64 k, .int .i64 i, .int .u64 a, .int .u64 b] (ith zs i) now ans) :
    Calls Try.prog 34 #[.slice (some ad) n c, .agg #[.int .i64 k, .int .i64 i, .int .u64 a, .int .u64 b]] w fun e w' =>
      ∃ A' c', e = .returned (.tuple #[.slice A' n c', .int .u64 ans, .int .i64 0]) ∧ Rd w' 1 A' n (Us (zs.set i now)) ∧ Ext w w' ∧ ∀ q, A' = some q → w.heap.size ≤ q.block := by
  have hc := h.u64 h3
  have hf := func_eql
  have hget := h.u64at h3
  have hx0 := Ext.new (Ext.new (Ext.refl w) (.cells #[.int .i64 k, .int .i64 i, .int .u64 a, .int .u64 b] 66)) (.cells #[.int .i64 k, .int .i64 i, .int .u64 a, .int .u64 b] 66)
  have Hch := Lib.hid hch
  clear hch
  have Ht := Lib.hid ht
  clear ht
  have Hget := Lib.hid hget
  clear hget
  go_enter Try.func34, Try.ntmps34
  go_wp2_with (first
    | (go_at_call 35; refine (Hch.out _).mono ?_; rintro e w' ⟨rfl, rfl⟩)
    | (go_at_call 36; refine (hasYes _ _ _ _ _ h1 (by omega) (by omega)).mono ?_; rintro e w' ⟨rfl, rfl⟩)
    | (go_at_call 24; refine (clone_full ad n c zs _ (h.to hx0) (by omega) (by omega)).mono ?_; rintro e w1 ⟨g, cap, rfl, hg, hown, hx⟩; have b1 := hx.cellOf (cell_new2 _ _ _ _ 1); have b2 := fun j => (hx.cell (p := ⟨w.heap.size + 1, j, none⟩) (by simp)).trans (cell_new1 _ _ _ _ j); have m1 := hx.cellOf (hx0.cellOf hc); have o1 := (hown.cellAt i (by omega)).trans Hget.out; have o2 := hown.frozenAt i)
    | (refine (Ht.out _ _ b2).mono ?_; rintro e w' ⟨rfl, rfl⟩))
  go_ret3
  refine ⟨_, _, rfl, ?_, ?_, ?_⟩
  · have hst := (hown.stored i (.int .u64 now)).1
    rw [Us_set] at hst
    exact Rd.own hst
  · exact (hx0.step hx).setCell (Nat.le_trans hx0.size hg) _
  · intro q hq
    injection hq with hq
    subst hq
    exact Nat.le_trans hx0.size hg

theorem cf37 (args : Array Value) (w : World) : (callFunc 37 args).run Try.prog w = .ok (.enter 37 args) w := by kernel_rfl
theorem cf38 (args : Array Value) (w : World) : (callFunc 38 args).run Try.prog w = .ok (.enter 38 args) w := by kernel_rfl
theorem cf39 (args : Array Value) (w : World) : (callFunc 39 args).run Try.prog w = .ok (.enter 39 args) w := by kernel_rfl
theorem cf40 (args : Array Value) (w : World) : (callFunc 40 args).run Try.prog w = .ok (.enter 40 args) w := by kernel_rfl

/-- What a step makes of its word, and what it answers; of a kind that is none: nothing. -/
def change (k a b old : Int) : Option (Int × Int) :=
  if k = 1 then some (old, old) else if k = 2 then some (a, 0) else if k = 3 then (if old = a then some (b, 1) else some (old, 0)) else if k = 4 then some (IntKind.u64.wrap (old + a), old) else none

theorem do_new (ad : Addr) (n c : Nat) (zs : List Int) (k a b : Int) (i : Nat) (w : World) (h : Rd w 1 (some ad) n (Us zs)) (h1 : n ≤ 64) (h3 : i < n) (now ans : Int)
    (hk : change k a b (ith zs i) = some (now, ans)) :
    Calls Try.prog 34 #[.slice (some ad) n c, .agg #[.int .i64 k, .int .i64 i, .int .u64 a, .int .u64 b]] w fun e w' =>
      ∃ A' c', e = .returned (.tuple #[.slice A' n c', .int .u64 ans, .int .i64 0]) ∧ Rd w' 1 A' n (Us (zs.set i now)) ∧ Ext w w' ∧ ∀ q, A' = some q → w.heap.size ≤ q.block := by
  unfold change at hk
  split at hk
  · subst_vars
    simp only [Option.some.injEq, Prod.mk.injEq] at hk
    obtain ⟨rfl, rfl⟩ := hk
    exact do_by ad n c zs 1 a b i w h h1 h3 _ _ 37 (fun _ => #[]) (fun w => changeOf_1 _ _ _ w) cf37 (fun p => turns_1 _ _ _ _ p)
  split at hk
  · subst_vars
    simp only [Option.some.injEq, Prod.mk.injEq] at hk
    obtain ⟨rfl, rfl⟩ := hk
    exact do_by ad n c zs 2 _ b i w h h1 h3 _ _ 38 (fun p => #[.pointer (some ⟨p, 0, none⟩)]) (fun w => changeOf_2 _ _ _ w) cf38 (fun p => turns_2 _ _ _ _ p)
  split at hk
  · subst_vars
    split at hk
    · subst_vars
      simp only [Option.some.injEq, Prod.mk.injEq] at hk
      obtain ⟨rfl, rfl⟩ := hk
      exact do_by ad n c zs 3 _ _ i w h h1 h3 _ _ 39 (fun p => #[.pointer (some ⟨p, 0, none⟩)]) (fun w => changeOf_3 _ _ _ w) cf39 (fun p => turns_3 _ _ _ p)
    · rename_i hne
      simp only [Option.some.injEq, Prod.mk.injEq] at hk
      obtain ⟨rfl, rfl⟩ := hk
      exact do_by ad n c zs 3 _ _ i w h h1 h3 _ _ 39 (fun p => #[.pointer (some ⟨p, 0, none⟩)]) (fun w => changeOf_3 _ _ _ w) cf39 (fun p => turns_3' _ _ _ _ p (by simpa using hne))
  split at hk
  · subst_vars
    simp only [Option.some.injEq, Prod.mk.injEq] at hk
    obtain ⟨rfl, rfl⟩ := hk
    exact do_by ad n c zs 4 _ b i w h h1 h3 _ _ 40 (fun p => #[.pointer (some ⟨p, 0, none⟩)]) (fun w => changeOf_4 _ _ _ w) cf40 (fun p => turns_4 _ _ _ _ p)
  · cases hk

theorem do_yes (ad : Addr) (n c : Nat) (zs : List Int) (k a b : Int) (i : Nat) (w : World) (h : Rd w 1 (some ad) n (Us zs)) (h1 : n ≤ 64) (h3 : i < n) (now ans : Int)
    (hk : change k a b (ith zs i) = some (now, ans)) :
    Calls Try.prog 34 #[.slice (some ad) n c, .agg #[.int .i64 k, .int .i64 i, .int .u64 a, .int .u64 b]] w fun e w' =>
      ∃ A' c', e = .returned (.tuple #[.slice A' n c', .int .u64 ans, .int .i64 0]) ∧ Rd w' 1 A' n (Us (zs.set i now)) ∧ Ext w w' :=
  (do_new ad n c zs k a b i w h h1 h3 now ans hk).mono fun _ _ ⟨A', c', he, hr, hx, _⟩ => ⟨A', c', he, hr, hx⟩

set_option maxHeartbeats 400000 in
theorem do_nokind (A : Option Addr) (n c : Nat) (k at' a b : Int) (w : World) (h1 : k < 1 ∨ 4 < k) :
    Calls Try.prog 34 #[.slice A n c, .agg #[.int .i64 k, .int .i64 at', .int .u64 a, .int .u64 b]] w fun e w' =>
      e = .returned (.tuple #[.slice none 0 0, .int .u64 0, .int .i64 1]) ∧ Ext w w' := by
  have hf := nofunc_eql
  have hx0 := Ext.new (Ext.new (Ext.refl w) (.cells #[.int .i64 k, .int .i64 at', .int .u64 a, .int .u64 b] 66)) (.cells #[.int .i64 k, .int .i64 at', .int .u64 a, .int .u64 b] 66)
  have H := Lib.hid (fun w => changeOf_none k at' a b w (by simp; omega) (by simp; omega) (by simp; omega) (by simp; omega))
  clear h1
  go_enter Try.func34, Try.ntmps34
  go_wp2_with (first
    | (go_at_call 35; refine (H.out _).mono ?_; rintro e w' ⟨rfl, rfl⟩))
  go_ret3
  exact ⟨rfl, hx0⟩

set_option maxHeartbeats 400000 in
theorem do_noplace (A : Option Addr) (n c : Nat) (k at' a b : Int) (w : World) (f : Nat) (ca : Nat → Array Value) (hno : ¬ (n ≤ 64 ∧ 0 ≤ at' ∧ at' < n))
    (hch : ∀ w : World, Calls Try.prog 35 #[.agg #[.int .i64 k, .int .i64 at', .int .u64 a, .int .u64 b]] w fun e w' =>
      e = .returned (.func (.func f) #[] (ca w.heap.size)) ∧ w.alloc (.cells #[.int .i64 k, .int .i64 at', .int .u64 a, .int .u64 b] 66) = w') :
    Calls Try.prog 34 #[.slice A n c, .agg #[.int .i64 k, .int .i64 at', .int .u64 a, .int .u64 b]] w fun e w' =>
      e = .returned (.tuple #[.slice none 0 0, .int .u64 0, .int .i64 1]) ∧ Ext w w' := by
  have hf := func_eql
  have hx0 := Ext.new (Ext.new (Ext.refl w) (.cells #[.int .i64 k, .int .i64 at', .int .u64 a, .int .u64 b] 66)) (.cells #[.int .i64 k, .int .i64 at', .int .u64 a, .int .u64 b] 66)
  have H := Lib.hid hch
  clear hch
  have HN := Lib.hid hno
  clear hno
  go_enter Try.func34, Try.ntmps34
  go_wp2_with (first
    | (go_at_call 35; refine (H.out _).mono ?_; rintro e w' ⟨rfl, rfl⟩)
    | (go_at_call 36; refine (hasNo _ _ _ _ _ HN.out).mono ?_; rintro e w' ⟨rfl, rfl⟩))
  go_ret3
  exact ⟨rfl, hx0⟩

theorem do_no (A : Option Addr) (n c : Nat) (k at' a b : Int) (w : World) (hno : ¬ (n ≤ 64 ∧ 0 ≤ at' ∧ at' < n ∧ 1 ≤ k ∧ k ≤ 4)) :
    Calls Try.prog 34 #[.slice A n c, .agg #[.int .i64 k, .int .i64 at', .int .u64 a, .int .u64 b]] w fun e w' =>
      e = .returned (.tuple #[.slice none 0 0, .int .u64 0, .int .i64 1]) ∧ Ext w w' := by
  by_cases h1 : k < 1 ∨ 4 < k
  · exact do_nokind A n c k at' a b w h1
  · have hn : ¬ (n ≤ 64 ∧ 0 ≤ at' ∧ at' < n) := by omega
    have hk : k = 1 ∨ k = 2 ∨ k = 3 ∨ k = 4 := by omega
    rcases hk with rfl | rfl | rfl | rfl
    · exact do_noplace A n c 1 at' a b w 37 (fun _ => #[]) hn (fun w => changeOf_1 _ _ _ w)
    · exact do_noplace A n c 2 at' a b w 38 (fun p => #[.pointer (some ⟨p, 0, none⟩)]) hn (fun w => changeOf_2 _ _ _ w)
    · exact do_noplace A n c 3 at' a b w 39 (fun p => #[.pointer (some ⟨p, 0, none⟩)]) hn (fun w => changeOf_3 _ _ _ w)
    · exact do_noplace A n c 4 at' a b w 40 (fun p => #[.pointer (some ⟨p, 0, none⟩)]) hn (fun w => changeOf_4 _ _ _ w)

end Go.Proofs.Yteiabmbfjfaboaa
