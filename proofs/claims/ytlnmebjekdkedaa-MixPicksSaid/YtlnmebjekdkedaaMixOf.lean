/-
  Contract: Of.
-/
import Derived.Test.YtlnmebjekdkedaaMix
set_option linter.unusedVariables false
set_option linter.unusedSimpArgs false
namespace Go.Proofs.Ytlnmebjekdkedaa
open Go.RowKit

/-- The five numbers that the changes hold, in boxes one behind the other. -/
structure Five (W : World) (b : Nat) : Prop where
  c0 : W.cell? ⟨b, 0, none⟩ = some (.int .i64 30)
  c1 : W.cell? ⟨b + 1, 0, none⟩ = some (.int .u64 (Mx.c1 : Nat))
  c2 : W.cell? ⟨b + 1 + 1, 0, none⟩ = some (.int .i64 27)
  c3 : W.cell? ⟨b + 1 + 1 + 1, 0, none⟩ = some (.int .u64 (Mx.c2 : Nat))
  c4 : W.cell? ⟨b + 1 + 1 + 1 + 1, 0, none⟩ = some (.int .i64 31)
def stp (x : Nat) : Nat → Nat
  | 0 => x
  | 1 => Mx.fold 30 x
  | 2 => Mx.mul Mx.c1 (Mx.fold 30 x)
  | 3 => Mx.fold 27 (Mx.mul Mx.c1 (Mx.fold 30 x))
  | 4 => Mx.mul Mx.c2 (Mx.fold 27 (Mx.mul Mx.c1 (Mx.fold 30 x)))
  | _ => Mx.mix x
theorem stp_1 (x : Nat) : Mx.fold 30 (stp x 0) = stp x 1 := by simp only [stp]
theorem stp_2 (x : Nat) : Mx.mul Mx.c1 (stp x 1) = stp x 2 := by simp only [stp]
theorem stp_3 (x : Nat) : Mx.fold 27 (stp x 2) = stp x 3 := by simp only [stp]
theorem stp_4 (x : Nat) : Mx.mul Mx.c2 (stp x 3) = stp x 4 := by simp only [stp]
theorem stp_5 (x : Nat) : Mx.fold 31 (stp x 4) = stp x 5 := by simp only [stp, Mx.mix]
theorem stp_end (x : Nat) : stp x 5 = Mx.mix x := by simp only [stp]
theorem c1_int : ((Mx.c1 : Nat) : Int) = 13787848793156543929 := by simp only [Mx.c1]; rfl
theorem c2_int : ((Mx.c2 : Nat) : Int) = 10723151780598845931 := by simp only [Mx.c2]; rfl
theorem box5 (w : World) (o1 o2 o3 o4 : Obj) (cs : Array Value) (t : TypeId) :
    (((((w.alloc (.cells cs t)).alloc o1).alloc o2).alloc o3).alloc o4).cell? ⟨w.heap.size, 0, none⟩ = cs[0]? := (((((Bx.new w cs t).alloc o1).alloc o2).alloc o3).alloc o4).cell 0
theorem five_made (w : World) (o : Obj) : Five ((((((w.alloc (.cells #[.int .i64 30] 3)).alloc (.cells #[.int .u64 13787848793156543929] 22)).alloc (.cells #[.int .i64 27] 3)).alloc (.cells #[.int .u64 10723151780598845931] 22)).alloc (.cells #[.int .i64 31] 3)).alloc o) w.heap.size := by
  rw [← c1_int, ← c2_int]
  have z1 (W : World) (x : Obj) : (W.alloc x).heap.size = W.heap.size + 1 := by simp
  refine ⟨((((((Bx.new w _ _).alloc _).alloc _).alloc _).alloc _).alloc _).cell 0, ?_, ?_, ?_, ?_⟩
  · have := (((((Bx.new (w.alloc (.cells #[.int .i64 30] 3)) #[.int .u64 (Mx.c1 : Nat)] 22).alloc (.cells #[.int .i64 27] 3)).alloc (.cells #[.int .u64 (Mx.c2 : Nat)] 22)).alloc (.cells #[.int .i64 31] 3)).alloc o).cell 0
    rw [z1] at this
    exact this
  · have := ((((Bx.new ((w.alloc (.cells #[.int .i64 30] 3)).alloc (.cells #[.int .u64 (Mx.c1 : Nat)] 22)) #[.int .i64 27] 3).alloc (.cells #[.int .u64 (Mx.c2 : Nat)] 22)).alloc (.cells #[.int .i64 31] 3)).alloc o).cell 0
    rw [z1, z1] at this
    exact this
  · have := (((Bx.new (((w.alloc (.cells #[.int .i64 30] 3)).alloc (.cells #[.int .u64 (Mx.c1 : Nat)] 22)).alloc (.cells #[.int .i64 27] 3)) #[.int .u64 (Mx.c2 : Nat)] 22).alloc (.cells #[.int .i64 31] 3)).alloc o).cell 0
    rw [z1, z1, z1] at this
    exact this
  · have := ((Bx.new ((((w.alloc (.cells #[.int .i64 30] 3)).alloc (.cells #[.int .u64 (Mx.c1 : Nat)] 22)).alloc (.cells #[.int .i64 27] 3)).alloc (.cells #[.int .u64 (Mx.c2 : Nat)] 22)) #[.int .i64 31] 3).alloc o).cell 0
    rw [z1, z1, z1, z1] at this
    exact this
theorem stp_lt (x : Nat) (h : x < 18446744073709551616) (i : Nat) : stp x i < 18446744073709551616 := by
  unfold stp
  split
  · exact h
  · exact Mx.fold_lt h
  · exact Mx.mul_lt _ _
  · exact Mx.fold_lt (Mx.mul_lt _ _)
  · exact Mx.mul_lt _ _
  · exact Mx.mix_lt h

theorem run_index5_0 (w : World) (a b c d e : Value) : (Instr.index 38 (.agg #[a, b, c, d, e]) (.int .i64 0)).run Try.prog w = .ok a w := by
  simp [Instr.index, run_underlying Try.underlying38, asIntOf, part, isAgg, run_underlying Try.underlying26, go_sem]
theorem run_index5_1 (w : World) (a b c d e : Value) : (Instr.index 38 (.agg #[a, b, c, d, e]) (.int .i64 1)).run Try.prog w = .ok b w := by
  simp [Instr.index, run_underlying Try.underlying38, asIntOf, part, isAgg, run_underlying Try.underlying26, go_sem]
theorem run_index5_2 (w : World) (a b c d e : Value) : (Instr.index 38 (.agg #[a, b, c, d, e]) (.int .i64 2)).run Try.prog w = .ok c w := by
  simp [Instr.index, run_underlying Try.underlying38, asIntOf, part, isAgg, run_underlying Try.underlying26, go_sem]
theorem run_index5_3 (w : World) (a b c d e : Value) : (Instr.index 38 (.agg #[a, b, c, d, e]) (.int .i64 3)).run Try.prog w = .ok d w := by
  simp [Instr.index, run_underlying Try.underlying38, asIntOf, part, isAgg, run_underlying Try.underlying26, go_sem]
theorem run_index5_4 (w : World) (a b c d e : Value) : (Instr.index 38 (.agg #[a, b, c, d, e]) (.int .i64 4)).run Try.prog w = .ok e w := by
  simp [Instr.index, run_underlying Try.underlying38, asIntOf, part, isAgg, run_underlying Try.underlying26, go_sem]

set_option maxHeartbeats 2000000 in
theorem Of_walk (x : Nat) (h : x < 18446744073709551616) (w : World) :
    Calls Try.prog 9 #[.int .u64 x] w fun e w' => e = .returned (.int .u64 (Mx.mix x : Nat)) ∧ Ext w w' := by
  have i0 := run_index5_0
  have i1 := run_index5_1
  have i2 := run_index5_2
  have i3 := run_index5_3
  have i4 := run_index5_4
  go_enter Try.func9, Try.ntmps9
  go_wp2_with fail
  refine (folded_is _ _).mono ?_; rintro e w1 ⟨rfl, rfl⟩
  go_wp2_with fail
  refine (times_is _ _).mono ?_; rintro e w1 ⟨rfl, rfl⟩
  go_wp2_with fail
  refine (folded_is _ _).mono ?_; rintro e w1 ⟨rfl, rfl⟩
  go_wp2_with fail
  refine (times_is _ _).mono ?_; rintro e w1 ⟨rfl, rfl⟩
  go_wp2_with fail
  refine (folded_is _ _).mono ?_; rintro e w1 ⟨rfl, rfl⟩
  go_wp2_with fail
  go_loopw [0, 5, 13, 14, 15, 16, 17, 18, 19] (fun s0 _ s13 _ _ _ _ _ _ wr => Ext w wr ∧ Hid (Five wr w.heap.size) ∧ ∃ i : Nat, i ≤ 5 ∧ s13 = .int .i64 i ∧ s0 = .int .u64 (stp x i : Nat)) (fun _ _ s13 _ _ _ _ _ _ _ => 5 - (intOf s13).toNat)
  case atStart =>
    have hx : ∀ o o1 o2 o3 o4 o5 : Obj, Ext w ((((((w.alloc o).alloc o1).alloc o2).alloc o3).alloc o4).alloc o5) := fun o o1 o2 o3 o4 o5 => ((((((Ext.refl w).new o).new o1).new o2).new o3).new o4).new o5
    exact ⟨hx _ _ _ _ _ _, Lib.hid (five_made w _), 0, by omega, rfl, rfl⟩
  case round =>
    obtain ⟨hxr, hF, i, hi, rfl, rfl⟩ := hrel
    rename World => wr
    have HX := Lib.hid hxr
    clear hxr
    obtain rfl | rfl | rfl | rfl | rfl | rfl : i = 0 ∨ i = 1 ∨ i = 2 ∨ i = 3 ∨ i = 4 ∨ i = 5 := by omega
    · clear hi
      go_wp2_with fail
      refine (folded30 (stp x 0) w.heap.size (stp_lt x h 0) _ hF.out.c0).mono ?_; rintro e w7 ⟨rfl, rfl⟩
      go_wp2_with fail
      go_roundw
      case rel => exact ⟨HX.out, hF, 1, by omega, rfl, by rw [stp_1]⟩
      case measure => simp [intOf]
    · clear hi
      go_wp2_with fail
      refine (times1 Mx.c1 (stp x 1) (w.heap.size + 1) _ hF.out.c1).mono ?_; rintro e w7 ⟨rfl, rfl⟩
      go_wp2_with fail
      go_roundw
      case rel => exact ⟨HX.out, hF, 2, by omega, rfl, by rw [stp_2]⟩
      case measure => simp [intOf]
    · clear hi
      go_wp2_with fail
      refine (folded27 (stp x 2) (w.heap.size + 1 + 1) (stp_lt x h 2) _ hF.out.c2).mono ?_; rintro e w7 ⟨rfl, rfl⟩
      go_wp2_with fail
      go_roundw
      case rel => exact ⟨HX.out, hF, 3, by omega, rfl, by rw [stp_3]⟩
      case measure => simp [intOf]
    · clear hi
      go_wp2_with fail
      refine (times1 Mx.c2 (stp x 3) (w.heap.size + 1 + 1 + 1) _ hF.out.c3).mono ?_; rintro e w7 ⟨rfl, rfl⟩
      go_wp2_with fail
      go_roundw
      case rel => exact ⟨HX.out, hF, 4, by omega, rfl, by rw [stp_4]⟩
      case measure => simp [intOf]
    · clear hi
      go_wp2_with fail
      refine (folded31 (stp x 4) (w.heap.size + 1 + 1 + 1 + 1) (stp_lt x h 4) _ hF.out.c4).mono ?_; rintro e w7 ⟨rfl, rfl⟩
      go_wp2_with fail
      go_roundw
      case rel => exact ⟨HX.out, hF, 5, by omega, rfl, by rw [stp_5]⟩
      case measure => simp [intOf]
    · clear hi
      go_wp2_with fail
      go_ret
      exact ⟨by rw [stp_end]; rfl, HX.out⟩

/-- A number mixed. -/
def mixI (z : Int) : Int := (Mx.mix z.toNat : Nat)
theorem mixI_rng (z : Int) : 0 ≤ mixI z ∧ mixI z ≤ 18446744073709551615 := by
  unfold mixI
  have h : Mx.mix z.toNat < 18446744073709551616 := Mx.fold_lt (Mx.mul_lt _ _)
  omega
theorem Of_is (z : Int) (w : World) (h0 : 0 ≤ z) (h1 : z ≤ 18446744073709551615) :
    Calls Try.prog 9 #[.int .u64 z] w fun e w' => e = .returned (.int .u64 (mixI z)) ∧ Ext w w' := by
  obtain ⟨x, rfl⟩ := Int.eq_ofNat_of_zero_le h0
  exact Of_walk x (by omega) w

end Go.Proofs.Ytlnmebjekdkedaa
