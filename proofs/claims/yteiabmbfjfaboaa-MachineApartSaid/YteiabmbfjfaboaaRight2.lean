/-
  Contracts of package machine: Right.
-/
import Derived.Test.YteiabmbfjfaboaaRight
set_option linter.unusedVariables false
set_option linter.unusedSimpArgs false
namespace Go.Proofs.Yteiabmbfjfaboaa
open Go.RowKit

set_option maxHeartbeats 800000 in
theorem proc_loop (A : Option Addr) (c : Nat) (p : Pc) (w : World) (h : Prg w A p.prog) (h0 : p.prog.length ≤ 64) (h1 : 0 ≤ p.at_ ∧ p.at_ < p.prog.length) (h2 : 0 ≤ p.took ∧ p.took ≤ 1099511627776) (b : Bool) (hb : b = true ↔ p.May) :
    Calls Try.prog 22 #[.agg #[.slice A p.prog.length c, .int .i64 p.at_, .int .u64 (p.rs 0), .int .u64 (p.rs 1), .int .u64 (p.rs 2), .int .u64 (p.rs 3), .bool p.done, .int .i64 p.took]] w fun e w' => e = .returned (.bool b) ∧ Ext w w' := by
  have H := Lib.hid (fun w => within_yes p.at_ p.prog.length h1.1 h1.2 w)
  have H1 := Lib.hid h1
  have HB := Lib.hid hb
  clear h1 hb
  go_enter Try.func22, Try.ntmps22
  go_wp2_with fail
  refine (H.out _).mono ?_; rintro e w' ⟨rfl, rfl⟩
  go_wp2_with fail
  go_loopw [31] (fun j wr => Ext w wr ∧ ∃ k : Nat, k ≤ p.prog.length ∧ j = .int .i64 k ∧ Hid (∀ i x, i < k → p.prog[i]? = some x → x.Ok p.prog.length)) (fun j _ => p.prog.length - (intOf j).toNat)
  case atStart => exact ⟨(Ext.refl w).new _, 0, Nat.zero_le _, rfl, fun i x hi => by omega⟩
  case round =>
    obtain ⟨hx, k, hk, rfl, hall⟩ := hrel
    by_cases hlt : k < p.prog.length
    · obtain ⟨x, hxk⟩ : ∃ x, p.prog[k]? = some x := ⟨_, List.getElem?_eq_getElem hlt⟩
      obtain ⟨ad, rfl, g0, g1, g2, g3, g4⟩ := (h.to hx).at hxk
      have HX := Lib.hid hxk
      clear hxk
      obtain ⟨ok, hok⟩ : ∃ ok : Bool, ok = true ↔ x.Ok p.prog.length := by
        by_cases hq : x.Ok p.prog.length
        · exact ⟨true, by simp [hq]⟩
        · exact ⟨false, by simp [hq]⟩
      have HI := Lib.hid (fun w => instr_is x p.prog.length ok hok w)
      have HO := Lib.hid hok
      clear hok
      go_wp2_with fail
      refine (HI.out _).mono ?_; rintro e w1 ⟨rfl, hx1⟩
      have E1 := (hx.new _).step hx1
      cases ok
      · obtain rfl : b = false := by
          cases b
          · rfl
          · exact absurd (HO.out.2 ((HB.out.1 rfl).2.2.2 x (List.mem_of_getElem? HX.out))) (by simp)
        go_wp2_with fail
        go_ret
        exact ⟨rfl, E1⟩
      · go_wp2_with fail
        go_roundw
        case rel => exact ⟨E1, k + 1, by omega, by go_num, fun i y hi hy => by
          by_cases e : i = k
          · subst e
            rw [HX.out] at hy
            injection hy with hy
            subst hy
            exact HO.out.1 (by trivial)
          · exact hall i y (by omega) hy⟩
        case measure => simp [intOf]; omega
    · obtain rfl : b = true := HB.out.2 ⟨by have := H1.out; omega, H1.out, h2, fun x hx' => by
        obtain ⟨i, hi⟩ := List.getElem?_of_mem hx'
        have := (List.getElem?_eq_some_iff.1 hi).1
        exact hall i x (by omega) hi⟩
      go_wp2_with fail
      go_ret
      exact ⟨rfl, hx⟩

set_option maxHeartbeats 800000 in
theorem proc_long (A : Option Addr) (c : Nat) (p : Pc) (w : World) (h0 : 64 < p.prog.length) :
    Calls Try.prog 22 #[.agg #[.slice A p.prog.length c, .int .i64 p.at_, .int .u64 (p.rs 0), .int .u64 (p.rs 1), .int .u64 (p.rs 2), .int .u64 (p.rs 3), .bool p.done, .int .i64 p.took]] w fun e w' => e = .returned (.bool false) ∧ Ext w w' := by
  go_enter Try.func22, Try.ntmps22
  go_wp2_with fail
  go_ret
  exact ⟨rfl, (Ext.refl w).new _⟩
set_option maxHeartbeats 800000 in
theorem proc_noat (A : Option Addr) (c : Nat) (p : Pc) (w : World) (h0 : p.prog.length ≤ 64) (h1 : ¬ (0 ≤ p.at_ ∧ p.at_ < p.prog.length)) :
    Calls Try.prog 22 #[.agg #[.slice A p.prog.length c, .int .i64 p.at_, .int .u64 (p.rs 0), .int .u64 (p.rs 1), .int .u64 (p.rs 2), .int .u64 (p.rs 3), .bool p.done, .int .i64 p.took]] w fun e w' => e = .returned (.bool false) ∧ Ext w w' := by
  have H := Lib.hid (fun w => within_no p.at_ p.prog.length h1 w)
  clear h1
  go_enter Try.func22, Try.ntmps22
  go_wp2_with fail
  refine (H.out _).mono ?_; rintro e w' ⟨rfl, rfl⟩
  go_wp2_with fail
  go_ret
  exact ⟨rfl, (Ext.refl w).new _⟩
set_option maxHeartbeats 800000 in
theorem proc_took (A : Option Addr) (c : Nat) (p : Pc) (w : World) (h0 : p.prog.length ≤ 64) (h1 : 0 ≤ p.at_ ∧ p.at_ < p.prog.length) (h2 : p.took < 0) :
    Calls Try.prog 22 #[.agg #[.slice A p.prog.length c, .int .i64 p.at_, .int .u64 (p.rs 0), .int .u64 (p.rs 1), .int .u64 (p.rs 2), .int .u64 (p.rs 3), .bool p.done, .int .i64 p.took]] w fun e w' => e = .returned (.bool false) ∧ Ext w w' := by
  have H := Lib.hid (fun w => within_yes p.at_ p.prog.length h1.1 h1.2 w)
  clear h1
  go_enter Try.func22, Try.ntmps22
  go_wp2_with fail
  refine (H.out _).mono ?_; rintro e w' ⟨rfl, rfl⟩
  go_wp2_with fail
  go_ret
  exact ⟨rfl, (Ext.refl w).new _⟩
set_option maxHeartbeats 800000 in
theorem proc_much (A : Option Addr) (c : Nat) (p : Pc) (w : World) (h0 : p.prog.length ≤ 64) (h1 : 0 ≤ p.at_ ∧ p.at_ < p.prog.length) (h2 : 0 ≤ p.took) (h3 : 1099511627776 < p.took) :
    Calls Try.prog 22 #[.agg #[.slice A p.prog.length c, .int .i64 p.at_, .int .u64 (p.rs 0), .int .u64 (p.rs 1), .int .u64 (p.rs 2), .int .u64 (p.rs 3), .bool p.done, .int .i64 p.took]] w fun e w' => e = .returned (.bool false) ∧ Ext w w' := by
  have H := Lib.hid (fun w => within_yes p.at_ p.prog.length h1.1 h1.2 w)
  clear h1
  go_enter Try.func22, Try.ntmps22
  go_wp2_with fail
  refine (H.out _).mono ?_; rintro e w' ⟨rfl, rfl⟩
  go_wp2_with fail
  go_ret
  exact ⟨rfl, (Ext.refl w).new _⟩

theorem proc_is (A : Option Addr) (c : Nat) (p : Pc) (w : World) (h : Prg w A p.prog) (b : Bool) (hb : b = true ↔ p.May) :
    Calls Try.prog 22 #[.agg #[.slice A p.prog.length c, .int .i64 p.at_, .int .u64 (p.rs 0), .int .u64 (p.rs 1), .int .u64 (p.rs 2), .int .u64 (p.rs 3), .bool p.done, .int .i64 p.took]] w fun e w' => e = .returned (.bool b) ∧ Ext w w' := by
  have no (h : ¬ p.May) : b = false := by
    cases b
    · rfl
    · exact absurd (hb.1 rfl) h
  by_cases h0 : p.prog.length ≤ 64
  · by_cases h1 : 0 ≤ p.at_ ∧ p.at_ < p.prog.length
    · by_cases h2 : 0 ≤ p.took
      · by_cases h3 : p.took ≤ 1099511627776
        · exact proc_loop A c p w h h0 h1 ⟨h2, h3⟩ b hb
        · rw [no (fun m => h3 m.2.2.1.2)]
          exact proc_much A c p w h0 h1 h2 (by omega)
      · rw [no (fun m => h2 m.2.2.1.1)]
        exact proc_took A c p w h0 h1 (by omega)
    · rw [no (fun m => h1 m.2.1)]
      exact proc_noat A c p w h0 h1
  · rw [no (fun m => h0 m.1.2)]
    exact proc_long A c p w (by omega)

end Go.Proofs.Yteiabmbfjfaboaa
