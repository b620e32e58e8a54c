/-
  Contracts of package machine: Step.
-/
import Derived.Test.YteiabmbfjfaboaaAdds
set_option linter.unusedVariables false
set_option linter.unusedSimpArgs false
namespace Go.Proofs.Yteiabmbfjfaboaa
open Go.RowKit

theorem row_lit (w : World) (o1 o2 o4 : Obj) (A : Option Addr) (d : Nat) (p : Pc) (hp : Prg w A p.prog) :
    Row ((((w.alloc o1).alloc o2).alloc (.cells #[.slice A p.prog.length d, .int .i64 p.at_, .int .u64 (p.rs 0), .int .u64 (p.rs 1), .int .u64 (p.rs 2), .int .u64 (p.rs 3), .bool p.done, .int .i64 p.took] 27)).alloc o4) (some ⟨w.heap.size + 1 + 1, 0, none⟩) [⟨A, d, p⟩] := by
  have h := Rd.lit ((w.alloc o1).alloc o2) #[.slice A p.prog.length d, .int .i64 p.at_, .int .u64 (p.rs 0), .int .u64 (p.rs 1), .int .u64 (p.rs 2), .int .u64 (p.rs 3), .bool p.done, .int .i64 p.took] 27 1 (size := 8) rfl
  rw [show ((w.alloc o1).alloc o2).heap.size = w.heap.size + 1 + 1 by simp] at h
  refine ⟨(h.to ((Ext.refl _).new o4)), fun v hv => ?_⟩
  rw [List.mem_singleton.1 hv]
  exact hp.to (((((Ext.refl w).new _).new _).new _).new _)
theorem ints_lit (w : World) (o1 o2 o3 : Obj) (x : Int) :
    Rd ((((w.alloc o1).alloc o2).alloc o3).alloc (.cells #[.int .i64 x] 3)) 1 (some ⟨w.heap.size + 1 + 1 + 1, 0, none⟩) 1 (Ks .i64 [x]) := by
  have h := Rd.lit (((w.alloc o1).alloc o2).alloc o3) #[.int .i64 x] 3 1 (size := 1) rfl
  rw [show (((w.alloc o1).alloc o2).alloc o3).heap.size = w.heap.size + 1 + 1 + 1 by simp] at h
  exact h

/-- What machine.Step answers: words and a process that show this. -/
def MStep (w : World) (s : List Int × Pc) (e : Ending) (w' : World) : Prop :=
  ∃ A' c' B' d', e = .returned (.tuple #[.slice A' 64 c', .agg #[.slice B' s.2.prog.length d', .int .i64 s.2.at_, .int .u64 (s.2.rs 0), .int .u64 (s.2.rs 1), .int .u64 (s.2.rs 2), .int .u64 (s.2.rs 3), .bool s.2.done, .int .i64 s.2.took], .int .i64 0]) ∧ Rd w' 1 A' 64 (Us s.1) ∧ Prg w' B' s.2.prog ∧ Ext w w'

set_option maxHeartbeats 1000000 in
theorem mstep_yes (ad : Addr) (c : Nat) (ws : List Int) (A : Option Addr) (d : Nat) (p : Pc) (w : World) (h : Rd w 1 (some ad) 64 (Us ws)) (hp : Prg w A p.prog) (hm : p.May) :
    Calls Try.prog 12 #[.slice (some ad) 64 c, .agg #[.slice A p.prog.length d, .int .i64 p.at_, .int .u64 (p.rs 0), .int .u64 (p.rs 1), .int .u64 (p.rs 2), .int .u64 (p.rs 3), .bool p.done, .int .i64 p.took]] w (MStep w (stp ws p)) := by
  have hS : runs (ws, [p]) [0] = ((stp ws p).1, [(stp ws p).2]) := rfl
  have HS := Lib.hid hS
  clear hS
  go_enter Try.func12, Try.ntmps12
  go_wp2_with fail
  refine (run_by ad c ws (some ⟨w.heap.size + 1 + 1, 0, none⟩) 1 1 [⟨A, d, p⟩] (some ⟨w.heap.size + 1 + 1 + 1, 0, none⟩) 1 1 [0] _ (h.to (((((Ext.refl w).new _).new _).new _).new _)) (row_lit w _ _ _ A d p hp) rfl (by omega) (fun v hv => by rw [List.mem_singleton.1 hv]; exact hm) (ints_lit w _ _ _ 0) (by omega) (ws, [p]) rfl).mono ?_
  rw [HS.out]
  rintro e w1 ⟨A1, c1, B1, d1, vs1, rfl, hr1, hv1, hmap, hx1, hfa, hfv, _⟩
  obtain ⟨v1, rfl⟩ : ∃ v1, vs1 = [v1] := List.length_eq_one_iff.1 (by have := congrArg List.length hmap; simpa using this)
  have hv : v1.p = (stp ws p).2 := by simpa using hmap
  obtain ⟨B, e, rfl⟩ : ∃ B e, v1 = ⟨B, e, (stp ws p).2⟩ := ⟨v1.A, v1.c, by rw [← hv]⟩
  obtain ⟨bd, rfl, g0, g1, g2, g3, g4, g5, g6, g7⟩ := hv1.1.eight (i := 0) rfl
  have hP := hv1.2 _ (List.mem_singleton.2 rfl)
  replace hfv := hfv _ (List.mem_singleton.2 rfl)
  simp at hfa hfv
  rw [show bd.add (0 * 8) = bd by simp [Addr.add]] at g0 g1 g2 g3 g4 g5 g6 g7
  have B5 := ((((Bx.new (w.alloc _) _ _).alloc _).alloc _)).to hx1
  simp at B5
  have E1 := ((((Ext.refl w).new _).new _).new _).new _ |>.step hx1
  clear hv1 hmap hv hx1
  have k5 := B5.cell; have f5 := B5.free; have z5 := B5.lt
  go_wp2_with fail
  go_region
  go_wp2_with fail
  refine bodyPost_ret (v := .tuple #[.slice A1 64 c1, .agg #[.slice B ((stp ws p).2).prog.length e, .int .i64 ((stp ws p).2).at_, .int .u64 (((stp ws p).2).rs 0), .int .u64 (((stp ws p).2).rs 1), .int .u64 (((stp ws p).2).rs 2), .int .u64 (((stp ws p).2).rs 3), .bool ((stp ws p).2).done, .int .i64 ((stp ws p).2).took], .int .i64 0]) (by simp [results, Try.results12, go_sem, *]) rfl ?_
  refine ⟨_, _, _, _, rfl, ?_, ?_, ?_⟩
  · repeat (first | with_reducible refine Rd.drew ?_ | with_reducible refine Rd.off (by intro q hq; have := hfa q hq; omega) ?_)
    exact hr1
  · show Rd _ _ _ _ _
    repeat (first | with_reducible refine Rd.drew ?_ | with_reducible refine Rd.off (by intro q hq; have := hfv q hq; omega) ?_)
    exact hP
  · repeat (first | with_reducible refine Ext.drew ?_ | with_reducible refine Ext.set ?_ _ (by omega))
    exact E1

set_option maxHeartbeats 1000000 in
theorem mstep_no (A' : Option Addr) (n c : Nat) (A : Option Addr) (d : Nat) (p : Pc) (w : World) (hp : Prg w A p.prog) (b : Bool) (hb : b = true ↔ p.May) (hno : ¬ (b = true ∧ n = 64)) :
    Calls Try.prog 12 #[.slice A' n c, .agg #[.slice A p.prog.length d, .int .i64 p.at_, .int .u64 (p.rs 0), .int .u64 (p.rs 1), .int .u64 (p.rs 2), .int .u64 (p.rs 3), .bool p.done, .int .i64 p.took]] w fun e w' =>
      e = .returned (.tuple #[.slice none 0 0, .agg #[.slice none 0 0, .int .i64 0, .int .u64 0, .int .u64 0, .int .u64 0, .int .u64 0, .bool false, .int .i64 0], .int .i64 1]) ∧ Ext w w' := by
  go_enter Try.func12, Try.ntmps12
  go_wp2_with fail
  refine (run_no A' (some ⟨w.heap.size + 1 + 1, 0, none⟩) (some ⟨w.heap.size + 1 + 1 + 1, 0, none⟩) 1 c n 1 1 1 _ b (right_is _ 1 1 [⟨A, d, p⟩] _ (row_lit w _ _ _ A d p hp) rfl b (by rw [hb]; simp)) (by intro h; exact hno ⟨h.1, h.2.1⟩)).mono ?_
  rintro e w1 ⟨rfl, hx1⟩
  have B5 := ((((Bx.new (w.alloc _) _ _).alloc _).alloc _)).to hx1
  simp at B5
  have E1 := ((((Ext.refl w).new _).new _).new _).new _ |>.step hx1
  clear hx1
  have k5 := B5.cell; have f5 := B5.free; have z5 := B5.lt
  go_wp2_with fail
  refine bodyPost_ret (v := .tuple #[.slice none 0 0, .agg #[.slice none 0 0, .int .i64 0, .int .u64 0, .int .u64 0, .int .u64 0, .int .u64 0, .bool false, .int .i64 0], .int .i64 1]) (by simp [results, Try.results12, go_sem, *]) rfl ⟨rfl, ?_⟩
  repeat (first | with_reducible refine Ext.drew ?_ | with_reducible refine Ext.set ?_ _ (by omega))
  exact E1

end Go.Proofs.Yteiabmbfjfaboaa
