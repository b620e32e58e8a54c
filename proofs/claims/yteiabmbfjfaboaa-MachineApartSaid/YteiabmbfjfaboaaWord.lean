/-
  Contracts of package word: what each function answers, on words that a slice shows.
-/
import Derived.Test.YteiabmbfjfaboaaProg
import Derived.Test.YteiabmbfjfaboaaBase
import Derived.WalkKit
import Derived.WalkSpells
import Derived.WalkLawsBesides
import Derived.Deep.QuietTactic
import Derived.BigQuiet
import Derived.Outline
set_option linter.unusedVariables false
set_option linter.unusedSimpArgs false
namespace Go.Proofs.Yteiabmbfjfaboaa
open Go.RowKit

theorem wordRight (A : Option Addr) (n c : Nat) (w : World) :
    Calls Try.prog 41 #[.slice A n c] w fun e w' => e = .returned (.bool (decide ((n : Int) ≤ 64))) ∧ w = w' := by
  go_enter Try.func41, Try.ntmps41
  go_wp2
  go_ret
  exact ⟨rfl, rfl⟩

theorem hasYes (A : Option Addr) (n c : Nat) (at' : Int) (w : World) (h1 : n ≤ 64) (h2 : 0 ≤ at') (h3 : at' < n) :
    Calls Try.prog 36 #[.slice A n c, .int .i64 at'] w fun e w' => e = .returned (.bool true) ∧ w = w' := by
  have e1 : decide ((n : Int) ≤ 64) = true := by simp; omega
  have e2 : decide (0 ≤ at') = true := by simp; omega
  have e3 : decide (at' < (n : Int)) = true := by simp; omega
  go_enter Try.func36, Try.ntmps36
  go_wp2
  go_ret
  exact ⟨rfl, rfl⟩

theorem hasNo (A : Option Addr) (n c : Nat) (at' : Int) (w : World) (h : ¬ (n ≤ 64 ∧ 0 ≤ at' ∧ at' < n)) :
    Calls Try.prog 36 #[.slice A n c, .int .i64 at'] w fun e w' => e = .returned (.bool false) ∧ w = w' := by
  by_cases h1 : n ≤ 64
  · by_cases h2 : 0 ≤ at'
    · have h3 : ¬ at' < n := fun h3 => h ⟨h1, h2, h3⟩
      have e1 : decide ((n : Int) ≤ 64) = true := by simp; omega
      have e2 : decide (0 ≤ at') = true := by simp; omega
      have e3 : decide (at' < (n : Int)) = false := by simp; omega
      go_enter Try.func36, Try.ntmps36
      go_wp2
      go_ret
      exact ⟨rfl, rfl⟩
    · have e1 : decide ((n : Int) ≤ 64) = true := by simp; omega
      have e2 : decide (0 ≤ at') = false := by simp; omega
      go_enter Try.func36, Try.ntmps36
      go_wp2
      go_ret
      exact ⟨rfl, rfl⟩
  · have e1 : decide ((n : Int) ≤ 64) = false := by simp; omega
    go_enter Try.func36, Try.ntmps36
    go_wp2
    go_ret
    exact ⟨rfl, rfl⟩

theorem u64_info : (Try.prog.info? 24).map (fun i => (i.zero, i.size, i.bytes)) = some (some (.int .u64 0), 1, 8) := by kernel_rfl

set_option maxHeartbeats 400000 in
theorem clone_any (ad : Addr) (n c : Nat) (zs : List Int) (w : World) (h : Rd w 1 (some ad) n (Us zs)) (hn : n ≤ 1000) :
    Calls Try.prog 24 #[.slice (some ad) n c] w fun e w' => ∃ v, e = .returned v ∧ w'.ownsRow w.heap.size 24 1 v n (Us zs) ∧ Ext w w' := by
  obtain ⟨i0, hi0, hz0, hz1, hz2⟩ := info_parts u64_info
  have hq := fun (w : World) => Lib.run_eql_slice_nil (P := Try.prog) w 22 _ (some ad) n c 0 0 Try.underlying22
  have hx : Ext w (w.alloc (.cells #[] 24)) := (Ext.refl w).new _
  have ho : (w.alloc (.cells #[] 24)).ownsRow w.heap.size 24 1 (.slice (some ⟨w.heap.size, 0, none⟩) 0 0) 0 [] := World.ownsRow_lit w #[] 0 (Nat.le_refl _) (by simp only [maxLen]; omega) rfl
  have hr := h.to hx
  go_enter Try.func24, Try.ntmps24
  go_wp2_with (first
    | (at_builtin
       refine wpList_append_rd _ rfl (.tmp 5) (.tmp 6) _ rfl w.heap.size 24 i0 _ 1 8 Try.underlying22 hi0 hz0 hz1 hz2 rfl (by omega) (.slice (some ⟨w.heap.size, 0, none⟩) 0 0) 0 [] rfl ho (some ad) n c (Us zs) rfl hr (Us_one zs) (by simp only [maxLen]; omega) (by omega) (by simp) ?_
       intro v1 w1 hown1 hg1 hat1))
  go_ret
  exact ⟨_, rfl, by simpa using hown1, own_back hx (by simp) hg1 (fun k hk => (ho.lt k hk).1)⟩

theorem clone_full (ad : Addr) (n c : Nat) (zs : List Int) (w : World) (h : Rd w 1 (some ad) n (Us zs)) (hn : n ≤ 1000) (h0 : 0 < n) :
    Calls Try.prog 24 #[.slice (some ad) n c] w fun e w' => ∃ g cap, e = .returned (.slice (some ⟨g, 0, none⟩) n cap) ∧ w.heap.size ≤ g ∧ w'.ownsRow w.heap.size 24 1 (.slice (some ⟨g, 0, none⟩) n cap) n (Us zs) ∧ Ext w w' := by
  refine (clone_any ad n c zs w h hn).mono ?_
  rintro e w' ⟨v, rfl, hown, hx⟩
  obtain ⟨g, cap, rfl, hb, _⟩ := hown.form h0
  exact ⟨g, cap, rfl, hb, hown, hx⟩

theorem func_eqlIn (d : Nat) (w : World) (fn : Fn) (fi ca : Array Value) : (Op.equalIn (d + 2) 69 (.func fn fi ca) .nilFunc).run Try.prog w = .ok false w := by
  simp [Op.equalIn, run_underlying Try.underlying69]
theorem nofunc_eqlIn (d : Nat) (w : World) : (Op.equalIn (d + 2) 69 .nilFunc .nilFunc).run Try.prog w = .ok true w := by
  simp [Op.equalIn, run_underlying Try.underlying69]
theorem func_eql (w : World) (fn : Fn) (fi ca : Array Value) : (binOp .eql 69 (.func fn fi ca) .nilFunc).run Try.prog w = .ok (.bool false) w := by
  simp only [binOp]
  simp [Op.equal, Op.maxDepth, func_eqlIn 9998]
theorem nofunc_eql (w : World) : (binOp .eql 69 .nilFunc .nilFunc).run Try.prog w = .ok (.bool true) w := by
  simp only [binOp]
  simp [Op.equal, Op.maxDepth, nofunc_eqlIn 9998]

theorem cell_new (w : World) (cs : Array Value) (t : TypeId) (j : Nat) : (w.alloc (.cells cs t)).cell? ⟨w.heap.size, j, none⟩ = cs[j]? := World.cell?_alloc_at _ _ _ _ rfl
theorem cell_new2 (w : World) (cs : Array Value) (t : TypeId) (o : Obj) (j : Nat) : ((w.alloc (.cells cs t)).alloc o).cell? ⟨w.heap.size, j, none⟩ = cs[j]? := by
  rw [World.cell?_alloc_past _ _ _ (by simp)]
  exact cell_new w cs t j
theorem cell_new1 (w : World) (cs : Array Value) (t : TypeId) (o : Obj) (j : Nat) : ((w.alloc o).alloc (.cells cs t)).cell? ⟨w.heap.size + 1, j, none⟩ = cs[j]? := by
  exact World.cell?_alloc_at _ _ _ _ (by simp)

set_option maxHeartbeats 400000 in
theorem changeOf_1 (i a b : Int) (w : World) :
    Calls Try.prog 35 #[.agg #[.int .i64 1, .int .i64 i, .int .u64 a, .int .u64 b]] w fun e w' =>
      e = .returned (.func (.func 37) #[] #[]) ∧ w.alloc (.cells #[.int .i64 1, .int .i64 i, .int .u64 a, .int .u64 b] 66) = w' := by
  go_enter Try.func35, Try.ntmps35
  go_wp2
  go_ret
  exact ⟨rfl, rfl⟩
set_option maxHeartbeats 400000 in
theorem changeOf_2 (i a b : Int) (w : World) :
    Calls Try.prog 35 #[.agg #[.int .i64 2, .int .i64 i, .int .u64 a, .int .u64 b]] w fun e w' =>
      e = .returned (.func (.func 38) #[] #[.pointer (some ⟨w.heap.size, 0, none⟩)]) ∧ w.alloc (.cells #[.int .i64 2, .int .i64 i, .int .u64 a, .int .u64 b] 66) = w' := by
  go_enter Try.func35, Try.ntmps35
  go_wp2
  go_ret
  exact ⟨rfl, rfl⟩
set_option maxHeartbeats 400000 in
theorem changeOf_3 (i a b : Int) (w : World) :
    Calls Try.prog 35 #[.agg #[.int .i64 3, .int .i64 i, .int .u64 a, .int .u64 b]] w fun e w' =>
      e = .returned (.func (.func 39) #[] #[.pointer (some ⟨w.heap.size, 0, none⟩)]) ∧ w.alloc (.cells #[.int .i64 3, .int .i64 i, .int .u64 a, .int .u64 b] 66) = w' := by
  go_enter Try.func35, Try.ntmps35
  go_wp2
  go_ret
  exact ⟨rfl, rfl⟩
set_option maxHeartbeats 400000 in
theorem changeOf_4 (i a b : Int) (w : World) :
    Calls Try.prog 35 #[.agg #[.int .i64 4, .int .i64 i, .int .u64 a, .int .u64 b]] w fun e w' =>
      e = .returned (.func (.func 40) #[] #[.pointer (some ⟨w.heap.size, 0, none⟩)]) ∧ w.alloc (.cells #[.int .i64 4, .int .i64 i, .int .u64 a, .int .u64 b] 66) = w' := by
  go_enter Try.func35, Try.ntmps35
  go_wp2
  go_ret
  exact ⟨rfl, rfl⟩
set_option maxHeartbeats 400000 in
theorem changeOf_none (k i a b : Int) (w : World) (h1 : (k == 1) = false) (h2 : (k == 2) = false) (h3 : (k == 3) = false) (h4 : (k == 4) = false) :
    Calls Try.prog 35 #[.agg #[.int .i64 k, .int .i64 i, .int .u64 a, .int .u64 b]] w fun e w' =>
      e = .returned .nilFunc ∧ w.alloc (.cells #[.int .i64 k, .int .i64 i, .int .u64 a, .int .u64 b] 66) = w' := by
  go_enter Try.func35, Try.ntmps35
  go_wp2
  go_ret
  exact ⟨rfl, rfl⟩

/-- What a call of a function value does to one word. -/
def Turns (f : Nat) (ca : Array Value) (p : Nat) (cs : Array Value) (old now ans : Int) : Prop :=
  ∀ w : World, (∀ j, w.cell? ⟨p, j, none⟩ = cs[j]?) → Calls Try.prog f (#[.int .u64 old] ++ ca) w fun e w' => e = .returned (.tuple #[.int .u64 now, .int .u64 ans]) ∧ w = w'

set_option maxHeartbeats 400000 in
theorem turns_1 (old a b : Int) (i : Int) (p : Nat) : Turns 37 #[] p #[.int .i64 1, .int .i64 i, .int .u64 a, .int .u64 b] old old old := by
  intro w h
  clear h
  go_enter Try.func37, Try.ntmps37
  go_wp2
  go_ret2
  exact ⟨rfl, rfl⟩
set_option maxHeartbeats 400000 in
theorem turns_2 (old a b : Int) (i : Int) (p : Nat) : Turns 38 #[.pointer (some ⟨p, 0, none⟩)] p #[.int .i64 2, .int .i64 i, .int .u64 a, .int .u64 b] old a 0 := by
  intro w h
  have h2 := h 2
  clear h
  go_enter Try.func38, Try.ntmps38
  go_wp2
  go_ret2
  exact ⟨rfl, rfl⟩
set_option maxHeartbeats 400000 in
theorem turns_3 (a b : Int) (i : Int) (p : Nat) : Turns 39 #[.pointer (some ⟨p, 0, none⟩)] p #[.int .i64 3, .int .i64 i, .int .u64 a, .int .u64 b] a b 1 := by
  intro w h
  have h2 := h 2
  have h3 := h 3
  clear h
  go_enter Try.func39, Try.ntmps39
  go_wp2
  go_ret2
  exact ⟨rfl, rfl⟩
set_option maxHeartbeats 400000 in
theorem turns_3' (old a b : Int) (i : Int) (p : Nat) (hne : (old != a) = true) : Turns 39 #[.pointer (some ⟨p, 0, none⟩)] p #[.int .i64 3, .int .i64 i, .int .u64 a, .int .u64 b] old old 0 := by
  intro w h
  have h2 := h 2
  clear h
  go_enter Try.func39, Try.ntmps39
  go_wp2
  go_ret2
  exact ⟨rfl, rfl⟩
set_option maxHeartbeats 400000 in
theorem turns_4 (old a b : Int) (i : Int) (p : Nat) : Turns 40 #[.pointer (some ⟨p, 0, none⟩)] p #[.int .i64 4, .int .i64 i, .int .u64 a, .int .u64 b] old (IntKind.u64.wrap (old + a)) old := by
  intro w h
  have h2 := h 2
  clear h
  go_enter Try.func40, Try.ntmps40
  go_wp2
  go_ret2
  exact ⟨rfl, rfl⟩

end Go.Proofs.Yteiabmbfjfaboaa
