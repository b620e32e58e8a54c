/-
  Contracts of package word: Load, Store, Cas, Add.
-/
import Derived.Test.YtfjmocnkhaomiaaWord2
namespace Go.Proofs.Ytfjmocnkhaomiaa
open Go.RowKit

set_option maxHeartbeats 400000 in
theorem load_yes (ad : Addr) (n c : Nat) (zs : List Int) (i : Nat) (w : World) (h : Rd w 1 (some ad) n (Us zs)) (h1 : n ≤ 64) (h3 : i < n) :
    Calls Try.prog 10 #[.slice (some ad) n c, .int .i64 i] w fun e w' => e = .returned (.tuple #[.int .u64 (ith zs i), .int .i64 0]) ∧ w = w' := by
  have hc := h.u64 h3
  go_enter Try.func10, Try.ntmps10
  go_wp2_with (first
    | (go_at_call 19; refine (hasYes _ _ _ _ _ h1 (by omega) (by omega)).mono ?_; rintro e w' ⟨rfl, rfl⟩))
  go_ret2
  exact ⟨rfl, rfl⟩

set_option maxHeartbeats 400000 in
theorem load_no (A : Option Addr) (n c : Nat) (at' : Int) (w : World) (hno : ¬ (n ≤ 64 ∧ 0 ≤ at' ∧ at' < n)) :
    Calls Try.prog 10 #[.slice A n c, .int .i64 at'] w fun e w' => e = .returned (.tuple #[.int .u64 0, .int .i64 1]) ∧ w = w' := by
  have HN := Lib.hid hno
  clear hno
  go_enter Try.func10, Try.ntmps10
  go_wp2_with (first
    | (go_at_call 19; refine (hasNo _ _ _ _ _ HN.out).mono ?_; rintro e w' ⟨rfl, rfl⟩))
  go_ret2
  exact ⟨rfl, rfl⟩

set_option maxHeartbeats 400000 in
theorem store_yes (ad : Addr) (n c : Nat) (zs : List Int) (v : Int) (i : Nat) (w : World) (h : Rd w 1 (some ad) n (Us zs)) (h1 : n ≤ 64) (h3 : i < n) :
    Calls Try.prog 11 #[.slice (some ad) n c, .int .i64 i, .int .u64 v] w fun e w' =>
      ∃ A' c', e = .returned (.tuple #[.slice A' n c', .int .i64 0]) ∧ Rd w' 1 A' n (Us (zs.set i v)) ∧ Ext w w' := by
  have H := Lib.hid (do_yes ad n c zs 2 v 0 i w h h1 h3 v 0 rfl)
  go_enter Try.func11, Try.ntmps11
  go_wp2_with (first
    | (go_at_call 14; refine (H.out).mono ?_; rintro e w1 ⟨A', c', rfl, hr, hx⟩))
  go_ret2
  exact ⟨_, _, rfl, hr, hx⟩

set_option maxHeartbeats 400000 in
theorem store_no (A : Option Addr) (n c : Nat) (at' v : Int) (w : World) (hno : ¬ (n ≤ 64 ∧ 0 ≤ at' ∧ at' < n)) :
    Calls Try.prog 11 #[.slice A n c, .int .i64 at', .int .u64 v] w fun e w' => e = .returned (.tuple #[.slice none 0 0, .int .i64 1]) ∧ Ext w w' := by
  have H := Lib.hid (do_no A n c 2 at' v 0 w (by omega))
  clear hno
  go_enter Try.func11, Try.ntmps11
  go_wp2_with (first
    | (go_at_call 14; refine (H.out).mono ?_; rintro e w1 ⟨rfl, hx⟩))
  go_ret2
  exact ⟨rfl, hx⟩

set_option maxHeartbeats 400000 in
theorem cas_yes (ad : Addr) (n c : Nat) (zs : List Int) (old v : Int) (i : Nat) (w : World) (h : Rd w 1 (some ad) n (Us zs)) (h1 : n ≤ 64) (h3 : i < n) (ho : ith zs i = old) :
    Calls Try.prog 12 #[.slice (some ad) n c, .int .i64 i, .int .u64 old, .int .u64 v] w fun e w' =>
      ∃ A' c', e = .returned (.tuple #[.slice A' n c', .bool true, .int .i64 0]) ∧ Rd w' 1 A' n (Us (zs.set i v)) ∧ Ext w w' := by
  have H := Lib.hid (do_yes ad n c zs 3 old v i w h h1 h3 v 1 (by simp [change, ho]))
  clear ho
  go_enter Try.func12, Try.ntmps12
  go_wp2_with (first
    | (go_at_call 14; refine (H.out).mono ?_; rintro e w1 ⟨A', c', rfl, hr, hx⟩))
  go_ret3
  exact ⟨_, _, rfl, hr, hx⟩

set_option maxHeartbeats 400000 in
theorem cas_not (ad : Addr) (n c : Nat) (zs : List Int) (old v : Int) (i : Nat) (w : World) (h : Rd w 1 (some ad) n (Us zs)) (h1 : n ≤ 64) (h3 : i < n) (ho : ith zs i ≠ old) :
    Calls Try.prog 12 #[.slice (some ad) n c, .int .i64 i, .int .u64 old, .int .u64 v] w fun e w' =>
      ∃ A' c', e = .returned (.tuple #[.slice A' n c', .bool false, .int .i64 0]) ∧ Rd w' 1 A' n (Us zs) ∧ Ext w w' := by
  have hl : i < zs.length := by rw [h.u64len]; exact h3
  have hs : zs.set i (ith zs i) = zs := by
    have he := ith_of zs hl
    rw [List.getElem?_eq_getElem hl, Option.some.injEq] at he
    rw [← he, List.set_getElem_self]
  have h0 := do_yes ad n c zs 3 old v i w h h1 h3 (ith zs i) 0 (by simp [change, ho])
  rw [hs] at h0
  have H := Lib.hid h0
  clear ho hs h0
  go_enter Try.func12, Try.ntmps12
  go_wp2_with (first
    | (go_at_call 14; refine (H.out).mono ?_; rintro e w1 ⟨A', c', rfl, hr, hx⟩))
  go_ret3
  exact ⟨_, _, rfl, hr, hx⟩

set_option maxHeartbeats 400000 in
theorem cas_no (A : Option Addr) (n c : Nat) (at' old v : Int) (w : World) (hno : ¬ (n ≤ 64 ∧ 0 ≤ at' ∧ at' < n)) :
    Calls Try.prog 12 #[.slice A n c, .int .i64 at', .int .u64 old, .int .u64 v] w fun e w' => e = .returned (.tuple #[.slice none 0 0, .bool false, .int .i64 1]) ∧ Ext w w' := by
  have H := Lib.hid (do_no A n c 3 at' old v w (by omega))
  clear hno
  go_enter Try.func12, Try.ntmps12
  go_wp2_with (first
    | (go_at_call 14; refine (H.out).mono ?_; rintro e w1 ⟨rfl, hx⟩))
  go_ret3
  exact ⟨rfl, hx⟩

set_option maxHeartbeats 400000 in
theorem add_yes (ad : Addr) (n c : Nat) (zs : List Int) (v : Int) (i : Nat) (w : World) (h : Rd w 1 (some ad) n (Us zs)) (h1 : n ≤ 64) (h3 : i < n) :
    Calls Try.prog 13 #[.slice (some ad) n c, .int .i64 i, .int .u64 v] w fun e w' =>
      ∃ A' c', e = .returned (.tuple #[.slice A' n c', .int .u64 (ith zs i), .int .i64 0]) ∧ Rd w' 1 A' n (Us (zs.set i (IntKind.u64.wrap (ith zs i + v)))) ∧ Ext w w' := by
  have H := Lib.hid (do_yes ad n c zs 4 v 0 i w h h1 h3 _ _ rfl)
  go_enter Try.func13, Try.ntmps13
  go_wp2_with (first
    | (go_at_call 14; refine (H.out).mono ?_; rintro e w1 ⟨A', c', rfl, hr, hx⟩))
  go_ret3
  exact ⟨_, _, rfl, hr, hx⟩

set_option maxHeartbeats 400000 in
theorem add_no (A : Option Addr) (n c : Nat) (at' v : Int) (w : World) (hno : ¬ (n ≤ 64 ∧ 0 ≤ at' ∧ at' < n)) :
    Calls Try.prog 13 #[.slice A n c, .int .i64 at', .int .u64 v] w fun e w' => e = .returned (.tuple #[.slice none 0 0, .int .u64 0, .int .i64 1]) ∧ Ext w w' := by
  have H := Lib.hid (do_no A n c 4 at' v 0 w (by omega))
  clear hno
  go_enter Try.func13, Try.ntmps13
  go_wp2_with (first
    | (go_at_call 14; refine (H.out).mono ?_; rintro e w1 ⟨rfl, hx⟩))
  go_ret3
  exact ⟨rfl, hx⟩

end Go.Proofs.Ytfjmocnkhaomiaa
