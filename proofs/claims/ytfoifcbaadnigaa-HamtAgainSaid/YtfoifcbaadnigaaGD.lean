/-
  Texts in one: MixMath Mix MixOf MixRef MixLaw.
-/
import Derived.Test.YtfoifcbaadnigaaProg
import Derived.Test.YtfoifcbaadnigaaGA
import Derived.WalkKit
import Derived.WalkSpells
import Derived.WalkLawsBesides
import Derived.Deep.QuietTactic
import Derived.BigQuiet
import Derived.Outline
import Derived.Laws.BitsAll
import Derived.Laws.Bits64
import Derived.IntWalk
import Derived.Laws.EntriesVeiled

/-
  What mixing is, on natural numbers, and how each step of it is taken back.
-/
set_option linter.unusedVariables false
set_option linter.unusedSimpArgs false
namespace Go.Proofs.Ytfoifcbaadnigaa.Mx
/-- 2^64. -/
def top : Nat := 18446744073709551616
def fold (k x : Nat) : Nat := x ^^^ x / 2 ^ k
def mul (c x : Nat) : Nat := c * x % top
def un (k y : Nat) : Nat → Nat
  | 0 => y
  | i + 1 => y ^^^ un k y i / 2 ^ k

theorem xor_div (a b k : Nat) : (a ^^^ b) / 2 ^ k = a / 2 ^ k ^^^ b / 2 ^ k := by
  simp only [← Nat.shiftRight_eq_div_pow]
  exact Nat.shiftRight_xor_distrib
theorem div_div (a j k : Nat) : a / 2 ^ j / 2 ^ k = a / 2 ^ (j + k) := by rw [Nat.div_div_eq_div_mul, Nat.pow_add]
theorem xor_lt {a b : Nat} (ha : a < top) (hb : b < top) : a ^^^ b < top := Nat.xor_lt_two_pow (n := 64) ha hb
theorem fold_lt {k x : Nat} (h : x < top) : fold k x < top := xor_lt h (Nat.lt_of_le_of_lt (Nat.div_le_self _ _) h)
theorem mul_lt (c x : Nat) : mul c x < top := Nat.mod_lt _ (by decide)
theorem un_lt {k y : Nat} (h : y < top) : ∀ i, un k y i < top
  | 0 => h
  | i + 1 => xor_lt h (Nat.lt_of_le_of_lt (Nat.div_le_self _ _) (un_lt h i))
theorem xx (a b : Nat) : a ^^^ (a ^^^ b) = b := by rw [← Nat.xor_assoc, Nat.xor_self, Nat.zero_xor]

theorem un_fold (k x : Nat) : ∀ i, un k (fold k x) i = x ^^^ x / 2 ^ (k * (i + 1))
  | 0 => by simp [un, fold]
  | i + 1 => by
    unfold un
    rw [un_fold k x i, xor_div, div_div, fold, Nat.xor_assoc, xx]
    congr 3
theorem fold_un (k y : Nat) : ∀ i, fold k (un k y i) = y ^^^ y / 2 ^ (k * (i + 1))
  | 0 => by simp [un, fold]
  | i + 1 => by
    have h := fold_un k y i
    have h2 : fold k (un k y (i + 1)) = y ^^^ (un k y i ^^^ un k y (i + 1)) / 2 ^ k := by
      unfold fold
      rw [xor_div]
      show (y ^^^ un k y i / 2 ^ k) ^^^ un k y (i + 1) / 2 ^ k = _
      rw [Nat.xor_assoc]
    rw [h2]
    have h3 : un k y i ^^^ un k y (i + 1) = fold k (un k y i) ^^^ y := by
      unfold fold
      show un k y i ^^^ (y ^^^ un k y i / 2 ^ k) = _
      rw [Nat.xor_assoc, Nat.xor_comm y]
    rw [h3, h, Nat.xor_comm (y ^^^ _) y, xx, div_div]
    rfl
theorem small {k x : Nat} (h : x < top) (hk : 64 ≤ k) : x / 2 ^ k = 0 :=
  Nat.div_eq_of_lt (Nat.lt_of_lt_of_le h (Nat.pow_le_pow_right (by decide) hk : 2 ^ 64 ≤ 2 ^ k))
theorem un_fold4 {k x : Nat} (h : x < top) (hk : 64 ≤ k * 5) : un k (fold k x) 4 = x := by rw [un_fold, small h hk, Nat.xor_zero]
theorem fold_un4 {k x : Nat} (h : x < top) (hk : 64 ≤ k * 5) : fold k (un k x 4) = x := by rw [fold_un, small h hk, Nat.xor_zero]
theorem mul_mul {c d x : Nat} (h : x < top) (hc : d * c % top = 1) : mul d (mul c x) = x := by
  unfold mul
  rw [Nat.mul_mod_mod, ← Nat.mul_assoc, ← Nat.mod_mul_mod, hc, Nat.one_mul]
  exact Nat.mod_eq_of_lt h

def c1 : Nat := 13787848793156543929
def c2 : Nat := 10723151780598845931
def d1 : Nat := 10871156337175269513
def d2 : Nat := 3573116690164977347
def mix (x : Nat) : Nat := fold 31 (mul c2 (fold 27 (mul c1 (fold 30 x))))
def back (y : Nat) : Nat := un 30 (mul d1 (un 27 (mul d2 (un 31 y 4)) 4)) 4
theorem mix_lt {x : Nat} (h : x < top) : mix x < top := fold_lt (mul_lt _ _)
theorem back_lt {x : Nat} : back x < top := un_lt (mul_lt _ _) _
theorem back_mix {x : Nat} (h : x < top) : back (mix x) = x := by
  unfold back mix
  rw [un_fold4 (mul_lt _ _) (by decide), mul_mul (fold_lt (mul_lt _ _)) (by decide), un_fold4 (mul_lt _ _) (by decide), mul_mul (fold_lt h) (by decide), un_fold4 h (by decide)]
theorem mix_back {x : Nat} (h : x < top) : mix (back x) = x := by
  unfold back mix
  rw [fold_un4 (mul_lt _ _) (by decide), mul_mul (un_lt (mul_lt _ _) _) (by decide), fold_un4 (mul_lt _ _) (by decide), mul_mul (un_lt h _) (by decide), fold_un4 h (by decide)]
theorem mix_inj {x y : Nat} (hx : x < top) (hy : y < top) : (mix x = mix y) ↔ x = y :=
  ⟨fun h => by rw [← back_mix hx, h, back_mix hy], fun h => by rw [h]⟩
end Go.Proofs.Ytfoifcbaadnigaa.Mx

/-
  Contracts of package mix and of the document's answers for it.
-/
set_option linter.unusedVariables false
set_option linter.unusedSimpArgs false
namespace Go.Proofs.Ytfoifcbaadnigaa
open Go.RowKit

theorem fold_int (k x : Nat) (h : x < 18446744073709551616) : bits .xor .u64 (x : Int) ((x : Int) / ((2 ^ k : Nat) : Int)) = (Mx.fold k x : Int) := xorShift_u64 x (2 ^ k) h

theorem folded30 (x p : Nat) (h : x < 18446744073709551616) (w : World) (hc : w.cell? ⟨p, 0, none⟩ = some (.int .i64 30)) :
    Calls Try.prog 105 #[.int .u64 x, .pointer (some ⟨p, 0, none⟩)] w fun e w' => e = .returned (.int .u64 (Mx.fold 30 x : Nat)) ∧ w = w' := by
  have HF := Lib.hid (show bits .xor .u64 (x : Int) ((x : Int) / 1073741824) = (Mx.fold 30 x : Int) from fold_int 30 x h)
  go_enter Try.func105, Try.ntmps105
  go_wp2
  rw [HF.out]
  go_ret
  exact ⟨rfl, rfl⟩
theorem folded27 (x p : Nat) (h : x < 18446744073709551616) (w : World) (hc : w.cell? ⟨p, 0, none⟩ = some (.int .i64 27)) :
    Calls Try.prog 105 #[.int .u64 x, .pointer (some ⟨p, 0, none⟩)] w fun e w' => e = .returned (.int .u64 (Mx.fold 27 x : Nat)) ∧ w = w' := by
  have HF := Lib.hid (show bits .xor .u64 (x : Int) ((x : Int) / 134217728) = (Mx.fold 27 x : Int) from fold_int 27 x h)
  go_enter Try.func105, Try.ntmps105
  go_wp2
  rw [HF.out]
  go_ret
  exact ⟨rfl, rfl⟩
theorem folded31 (x p : Nat) (h : x < 18446744073709551616) (w : World) (hc : w.cell? ⟨p, 0, none⟩ = some (.int .i64 31)) :
    Calls Try.prog 105 #[.int .u64 x, .pointer (some ⟨p, 0, none⟩)] w fun e w' => e = .returned (.int .u64 (Mx.fold 31 x : Nat)) ∧ w = w' := by
  have HF := Lib.hid (show bits .xor .u64 (x : Int) ((x : Int) / 2147483648) = (Mx.fold 31 x : Int) from fold_int 31 x h)
  go_enter Try.func105, Try.ntmps105
  go_wp2
  rw [HF.out]
  go_ret
  exact ⟨rfl, rfl⟩
theorem mul_int (c x : Nat) : IntKind.u64.wrap ((x : Int) * (c : Int)) = (Mx.mul c x : Int) := by
  rw [IntKind.wrap_u64, Int.mul_comm]
  show _ = (((c * x) % 18446744073709551616 : Nat) : Int)
  rw [Int.natCast_emod, Int.natCast_mul]
  rfl
theorem times1 (c x : Nat) (p : Nat) (w : World) (hc : w.cell? ⟨p, 0, none⟩ = some (.int .u64 c)) :
    Calls Try.prog 106 #[.int .u64 x, .pointer (some ⟨p, 0, none⟩)] w fun e w' => e = .returned (.int .u64 (Mx.mul c x : Nat)) ∧ w = w' := by
  have HF := Lib.hid (mul_int c x)
  go_enter Try.func106, Try.ntmps106
  go_wp2
  rw [HF.out]
  go_ret
  exact ⟨rfl, rfl⟩

set_option maxHeartbeats 400000 in
theorem folded_is (k : Int) (w : World) :
    Calls Try.prog 98 #[.int .i64 k] w fun e w' => e = .returned (.func (.func 105) #[] #[.pointer (some ⟨w.heap.size, 0, none⟩)]) ∧ w.alloc (.cells #[.int .i64 k] 3) = w' := by
  go_enter Try.func98, Try.ntmps98
  go_wp2
  go_ret
  exact ⟨rfl, rfl⟩
set_option maxHeartbeats 400000 in
theorem times_is (c : Int) (w : World) :
    Calls Try.prog 99 #[.int .u64 c] w fun e w' => e = .returned (.func (.func 106) #[] #[.pointer (some ⟨w.heap.size, 0, none⟩)]) ∧ w.alloc (.cells #[.int .u64 c] 30) = w' := by
  go_enter Try.func99, Try.ntmps99
  go_wp2
  go_ret
  exact ⟨rfl, rfl⟩

end Go.Proofs.Ytfoifcbaadnigaa

/-
  Contract: Of.
-/
set_option linter.unusedVariables false
set_option linter.unusedSimpArgs false
namespace Go.Proofs.Ytfoifcbaadnigaa
open Go.RowKit

/-- The five numbers that the changes hold, in boxes one behind the other. -/
structure Five (W : World) (b : Nat) : Prop where
  c0 : W.cell? ⟨b, 0, none⟩ = some (.int .i64 30)
  c1 : W.cell? ⟨b + 1, 0, none⟩ = some (.int .u64 (Mx.c1 : Nat))
  c2 : W.cell? ⟨b + 1 + 1, 0, none⟩ = some (.int .i64 27)
  c3 : W.cell? ⟨b + 1 + 1 + 1, 0, none⟩ = some (.int .u64 (Mx.c2 : Nat))
  c4 : W.cell? ⟨b + 1 + 1 + 1 + 1, 0, none⟩ = some (.int .i64 31)
def stp (x : Nat) : Nat → Nat
  | 0 => x
  | 1 => Mx.fold 30 x
  | 2 => Mx.mul Mx.c1 (Mx.fold 30 x)
  | 3 => Mx.fold 27 (Mx.mul Mx.c1 (Mx.fold 30 x))
  | 4 => Mx.mul Mx.c2 (Mx.fold 27 (Mx.mul Mx.c1 (Mx.fold 30 x)))
  | _ => Mx.mix x
theorem stp_1 (x : Nat) : Mx.fold 30 (stp x 0) = stp x 1 := by simp only [stp]
theorem stp_2 (x : Nat) : Mx.mul Mx.c1 (stp x 1) = stp x 2 := by simp only [stp]
theorem stp_3 (x : Nat) : Mx.fold 27 (stp x 2) = stp x 3 := by simp only [stp]
theorem stp_4 (x : Nat) : Mx.mul Mx.c2 (stp x 3) = stp x 4 := by simp only [stp]
theorem stp_5 (x : Nat) : Mx.fold 31 (stp x 4) = stp x 5 := by simp only [stp, Mx.mix]
theorem stp_end (x : Nat) : stp x 5 = Mx.mix x := by simp only [stp]
theorem c1_int : ((Mx.c1 : Nat) : Int) = 13787848793156543929 := by simp only [Mx.c1]; rfl
theorem c2_int : ((Mx.c2 : Nat) : Int) = 10723151780598845931 := by simp only [Mx.c2]; rfl
theorem box5 (w : World) (o1 o2 o3 o4 : Obj) (cs : Array Value) (t : TypeId) :
    (((((w.alloc (.cells cs t)).alloc o1).alloc o2).alloc o3).alloc o4).cell? ⟨w.heap.size, 0, none⟩ = cs[0]? := (((((Bx.new w cs t).alloc o1).alloc o2).alloc o3).alloc o4).cell 0
theorem five_made (w : World) (o : Obj) : Five ((((((w.alloc (.cells #[.int .i64 30] 3)).alloc (.cells #[.int .u64 13787848793156543929] 30)).alloc (.cells #[.int .i64 27] 3)).alloc (.cells #[.int .u64 10723151780598845931] 30)).alloc (.cells #[.int .i64 31] 3)).alloc o) w.heap.size := by
  rw [← c1_int, ← c2_int]
  have z1 (W : World) (x : Obj) : (W.alloc x).heap.size = W.heap.size + 1 := by simp
  refine ⟨((((((Bx.new w _ _).alloc _).alloc _).alloc _).alloc _).alloc _).cell 0, ?_, ?_, ?_, ?_⟩
  · have := (((((Bx.new (w.alloc (.cells #[.int .i64 30] 3)) #[.int .u64 (Mx.c1 : Nat)] 30).alloc (.cells #[.int .i64 27] 3)).alloc (.cells #[.int .u64 (Mx.c2 : Nat)] 30)).alloc (.cells #[.int .i64 31] 3)).alloc o).cell 0
    rw [z1] at this
    exact this
  · have := ((((Bx.new ((w.alloc (.cells #[.int .i64 30] 3)).alloc (.cells #[.int .u64 (Mx.c1 : Nat)] 30)) #[.int .i64 27] 3).alloc (.cells #[.int .u64 (Mx.c2 : Nat)] 30)).alloc (.cells #[.int .i64 31] 3)).alloc o).cell 0
    rw [z1, z1] at this
    exact this
  · have := (((Bx.new (((w.alloc (.cells #[.int .i64 30] 3)).alloc (.cells #[.int .u64 (Mx.c1 : Nat)] 30)).alloc (.cells #[.int .i64 27] 3)) #[.int .u64 (Mx.c2 : Nat)] 30).alloc (.cells #[.int .i64 31] 3)).alloc o).cell 0
    rw [z1, z1, z1] at this
    exact this
  · have := ((Bx.new ((((w.alloc (.cells #[.int .i64 30] 3)).alloc (.cells #[.int .u64 (Mx.c1 : Nat)] 30)).alloc (.cells #[.int .i64 27] 3)).alloc (.cells #[.int .u64 (Mx.c2 : Nat)] 30)) #[.int .i64 31] 3).alloc o).cell 0
    rw [z1, z1, z1, z1] at this
    exact this
theorem stp_lt (x : Nat) (h : x < 18446744073709551616) (i : Nat) : stp x i < 18446744073709551616 := by
  unfold stp
  split
  · exact h
  · exact Mx.fold_lt h
  · exact Mx.mul_lt _ _
  · exact Mx.fold_lt (Mx.mul_lt _ _)
  · exact Mx.mul_lt _ _
  · exact Mx.mix_lt h

theorem run_index5_0 (w : World) (a b c d e : Value) : (Instr.index 141 (.agg #[a, b, c, d, e]) (.int .i64 0)).run Try.prog w = .ok a w := by
  simp [Instr.index, run_underlying Try.underlying141, asIntOf, part, isAgg, run_underlying Try.underlying122, go_sem]
theorem run_index5_1 (w : World) (a b c d e : Value) : (Instr.index 141 (.agg #[a, b, c, d, e]) (.int .i64 1)).run Try.prog w = .ok b w := by
  simp [Instr.index, run_underlying Try.underlying141, asIntOf, part, isAgg, run_underlying Try.underlying122, go_sem]
theorem run_index5_2 (w : World) (a b c d e : Value) : (Instr.index 141 (.agg #[a, b, c, d, e]) (.int .i64 2)).run Try.prog w = .ok c w := by
  simp [Instr.index, run_underlying Try.underlying141, asIntOf, part, isAgg, run_underlying Try.underlying122, go_sem]
theorem run_index5_3 (w : World) (a b c d e : Value) : (Instr.index 141 (.agg #[a, b, c, d, e]) (.int .i64 3)).run Try.prog w = .ok d w := by
  simp [Instr.index, run_underlying Try.underlying141, asIntOf, part, isAgg, run_underlying Try.underlying122, go_sem]
theorem run_index5_4 (w : World) (a b c d e : Value) : (Instr.index 141 (.agg #[a, b, c, d, e]) (.int .i64 4)).run Try.prog w = .ok e w := by
  simp [Instr.index, run_underlying Try.underlying141, asIntOf, part, isAgg, run_underlying Try.underlying122, go_sem]

set_option maxHeartbeats 2000000 in
theorem Of_walk (x : Nat) (h : x < 18446744073709551616) (w : World) :
    Calls Try.prog 84 #[.int .u64 x] w fun e w' => e = .returned (.int .u64 (Mx.mix x : Nat)) ∧ Ext w w' := by
  have i0 := run_index5_0
  have i1 := run_index5_1
  have i2 := run_index5_2
  have i3 := run_index5_3
  have i4 := run_index5_4
  go_enter Try.func84, Try.ntmps84
  go_wp2_with fail
  refine (folded_is _ _).mono ?_; rintro e w1 ⟨rfl, rfl⟩
  go_wp2_with fail
  refine (times_is _ _).mono ?_; rintro e w1 ⟨rfl, rfl⟩
  go_wp2_with fail
  refine (folded_is _ _).mono ?_; rintro e w1 ⟨rfl, rfl⟩
  go_wp2_with fail
  refine (times_is _ _).mono ?_; rintro e w1 ⟨rfl, rfl⟩
  go_wp2_with fail
  refine (folded_is _ _).mono ?_; rintro e w1 ⟨rfl, rfl⟩
  go_wp2_with fail
  go_loopw [0, 5, 13, 14, 15, 16, 17, 18, 19] (fun s0 _ s13 _ _ _ _ _ _ wr => Ext w wr ∧ Hid (Five wr w.heap.size) ∧ ∃ i : Nat, i ≤ 5 ∧ s13 = .int .i64 i ∧ s0 = .int .u64 (stp x i : Nat)) (fun _ _ s13 _ _ _ _ _ _ _ => 5 - (intOf s13).toNat)
  case atStart =>
    have hx : ∀ o o1 o2 o3 o4 o5 : Obj, Ext w ((((((w.alloc o).alloc o1).alloc o2).alloc o3).alloc o4).alloc o5) := fun o o1 o2 o3 o4 o5 => ((((((Ext.refl w).new o).new o1).new o2).new o3).new o4).new o5
    exact ⟨hx _ _ _ _ _ _, Lib.hid (five_made w _), 0, by omega, rfl, rfl⟩
  case round =>
    obtain ⟨hxr, hF, i, hi, rfl, rfl⟩ := hrel
    rename World => wr
    have HX := Lib.hid hxr
    clear hxr
    obtain rfl | rfl | rfl | rfl | rfl | rfl : i = 0 ∨ i = 1 ∨ i = 2 ∨ i = 3 ∨ i = 4 ∨ i = 5 := by omega
    · clear hi
      go_wp2_with fail
      refine (folded30 (stp x 0) w.heap.size (stp_lt x h 0) _ hF.out.c0).mono ?_; rintro e w7 ⟨rfl, rfl⟩
      go_wp2_with fail
      go_roundw
      case rel => exact ⟨HX.out, hF, 1, by omega, rfl, by rw [stp_1]⟩
      case measure => simp [intOf]
    · clear hi
      go_wp2_with fail
      refine (times1 Mx.c1 (stp x 1) (w.heap.size + 1) _ hF.out.c1).mono ?_; rintro e w7 ⟨rfl, rfl⟩
      go_wp2_with fail
      go_roundw
      case rel => exact ⟨HX.out, hF, 2, by omega, rfl, by rw [stp_2]⟩
      case measure => simp [intOf]
    · clear hi
      go_wp2_with fail
      refine (folded27 (stp x 2) (w.heap.size + 1 + 1) (stp_lt x h 2) _ hF.out.c2).mono ?_; rintro e w7 ⟨rfl, rfl⟩
      go_wp2_with fail
      go_roundw
      case rel => exact ⟨HX.out, hF, 3, by omega, rfl, by rw [stp_3]⟩
      case measure => simp [intOf]
    · clear hi
      go_wp2_with fail
      refine (times1 Mx.c2 (stp x 3) (w.heap.size + 1 + 1 + 1) _ hF.out.c3).mono ?_; rintro e w7 ⟨rfl, rfl⟩
      go_wp2_with fail
      go_roundw
      case rel => exact ⟨HX.out, hF, 4, by omega, rfl, by rw [stp_4]⟩
      case measure => simp [intOf]
    · clear hi
      go_wp2_with fail
      refine (folded31 (stp x 4) (w.heap.size + 1 + 1 + 1 + 1) (stp_lt x h 4) _ hF.out.c4).mono ?_; rintro e w7 ⟨rfl, rfl⟩
      go_wp2_with fail
      go_roundw
      case rel => exact ⟨HX.out, hF, 5, by omega, rfl, by rw [stp_5]⟩
      case measure => simp [intOf]
    · clear hi
      go_wp2_with fail
      go_ret
      exact ⟨by rw [stp_end]; rfl, HX.out⟩

/-- A number mixed. -/
def mixI (z : Int) : Int := (Mx.mix z.toNat : Nat)
theorem mixI_rng (z : Int) : 0 ≤ mixI z ∧ mixI z ≤ 18446744073709551615 := by
  unfold mixI
  have h : Mx.mix z.toNat < 18446744073709551616 := Mx.fold_lt (Mx.mul_lt _ _)
  omega
theorem Of_is (z : Int) (w : World) (h0 : 0 ≤ z) (h1 : z ≤ 18446744073709551615) :
    Calls Try.prog 84 #[.int .u64 z] w fun e w' => e = .returned (.int .u64 (mixI z)) ∧ Ext w w' := by
  obtain ⟨x, rfl⟩ := Int.eq_ofNat_of_zero_le h0
  exact Of_walk x (by omega) w

end Go.Proofs.Ytfoifcbaadnigaa

/-
  Contracts of the document's answers: a number moved, mixed, and got back.
-/
set_option linter.unusedVariables false
set_option linter.unusedSimpArgs false
namespace Go.Proofs.Ytfoifcbaadnigaa
open Go.RowKit

def half (x i : Nat) : Nat := x / 2 ^ i
theorem half_le (x i : Nat) : half x i ≤ x := Nat.div_le_self _ _
theorem half_succ (x i : Nat) : ((half x i : Nat) : Int) / 2 = (half x (i + 1) : Nat) := by
  unfold half
  rw [Nat.pow_succ, ← Nat.div_div_eq_div_mul]
  rfl
theorem xor_int (x y : Nat) (hx : x < 18446744073709551616) (hy : y < 18446744073709551616) : bits .xor .u64 (x : Int) (y : Int) = ((x ^^^ y : Nat) : Int) := bits_xor_u64_nat x y hx hy

set_option maxHeartbeats 400000 in
theorem move_is (x k : Nat) (w : World) (hk : k ≤ 100) (h : x < 18446744073709551616) :
    Calls Try.prog 96 #[.int .u64 x, .int .i64 k] w fun e w' => e = .returned (.int .u64 (half x k : Nat)) ∧ w = w' := by
  go_enter Try.func96, Try.ntmps96
  go_wp2_with fail
  go_loop [0, 5, 6, 7, 8, 9, 10, 11, 12] (fun s0 s5 _ _ _ _ _ _ _ => ∃ i : Nat, i ≤ k ∧ s5 = .int .i64 i ∧ s0 = .int .u64 (half x i : Nat)) (fun _ s5 _ _ _ _ _ _ _ => k - (intOf s5).toNat)
  case atStart => exact ⟨0, by omega, rfl, by simp [half]⟩
  case round =>
    obtain ⟨i, hi, rfl, rfl⟩ := hrel
    have hb : ((half x i : Nat) : Int) ≤ 18446744073709551615 := by have := half_le x i; omega
    have hs := Lib.hid (half_succ x i)
    by_cases hlt : i < k
    · go_wp2_with fail
      go_round
      case rel => exact ⟨i + 1, by omega, by go_num, by rw [hs.out]⟩
      case measure => simp [intOf]; omega
    · have hik := Lib.hid (show i = k by omega)
      go_wp2_with fail
      go_ret
      exact ⟨by rw [hik.out]; rfl, rfl⟩

theorem un_succ (k y i : Nat) (hy : y < 18446744073709551616) : bits .xor .u64 (y : Int) ((half (Mx.un k y i) k : Nat) : Int) = (Mx.un k y (i + 1) : Nat) := by
  rw [xor_int _ _ hy (by have := half_le (Mx.un k y i) k; have : Mx.un k y i < 18446744073709551616 := Mx.un_lt hy i; omega)]
  rfl

/-- The rounds of an inverse. -/
def inv (c : Int) : Nat → Int
  | 0 => c
  | i + 1 => IntKind.u64.wrap (inv c i * IntKind.u64.wrap (2 - IntKind.u64.wrap (c * inv c i)))

theorem inv_c1 : inv 13787848793156543929 6 = 10871156337175269513 := by decide +kernel
theorem inv_c2 : inv 10723151780598845931 6 = 3573116690164977347 := by decide +kernel

theorem fold_half (k x : Nat) (h : x < 18446744073709551616) : bits .xor .u64 (x : Int) ((half x k : Nat) : Int) = (Mx.fold k x : Nat) := by
  rw [xor_int _ _ h (by have := half_le x k; omega)]
  rfl

theorem mul_c1 (x : Nat) : IntKind.u64.wrap ((x : Int) * 13787848793156543929) = (Mx.mul Mx.c1 x : Nat) := by rw [← c1_int]; exact mul_int _ _
theorem mul_c2 (x : Nat) : IntKind.u64.wrap ((x : Int) * 10723151780598845931) = (Mx.mul Mx.c2 x : Nat) := by rw [← c2_int]; exact mul_int _ _
theorem d1_int : ((Mx.d1 : Nat) : Int) = 10871156337175269513 := by simp only [Mx.d1]; rfl
theorem d2_int : ((Mx.d2 : Nat) : Int) = 3573116690164977347 := by simp only [Mx.d2]; rfl
theorem mul_d1 (x : Nat) : IntKind.u64.wrap ((x : Int) * inv 13787848793156543929 6) = (Mx.mul Mx.d1 x : Nat) := by rw [inv_c1, ← d1_int]; exact mul_int _ _
theorem mul_d2 (x : Nat) : IntKind.u64.wrap ((x : Int) * inv 10723151780598845931 6) = (Mx.mul Mx.d2 x : Nat) := by rw [inv_c2, ← d2_int]; exact mul_int _ _

set_option maxHeartbeats 1000000 in
theorem ref_walk (x : Nat) (h : x < 18446744073709551616) (w : World) :
    Calls Try.prog 80 #[.int .u64 x] w fun e w' => e = .returned (.int .u64 (Mx.mix x : Nat)) ∧ w = w' := by
  have H0 := Lib.hid ((fold_half 30 x h).trans (by rw [← stp_1]; rfl : (Mx.fold 30 x : Int) = (stp x 1 : Nat)))
  have H1 := Lib.hid ((mul_c1 (stp x 1)).trans (by rw [stp_2] : (Mx.mul Mx.c1 (stp x 1) : Int) = (stp x 2 : Nat)))
  have H2 := Lib.hid ((fold_half 27 (stp x 2) (stp_lt x h 2)).trans (by rw [stp_3] : (Mx.fold 27 (stp x 2) : Int) = (stp x 3 : Nat)))
  have H3 := Lib.hid ((mul_c2 (stp x 3)).trans (by rw [stp_4] : (Mx.mul Mx.c2 (stp x 3) : Int) = (stp x 4 : Nat)))
  have H4 := Lib.hid ((fold_half 31 (stp x 4) (stp_lt x h 4)).trans (by rw [stp_5, stp_end] : (Mx.fold 31 (stp x 4) : Int) = (Mx.mix x : Nat)))
  have L2 := Lib.hid (stp_lt x h 2)
  have L4 := Lib.hid (stp_lt x h 4)
  go_enter Try.func80, Try.ntmps80
  go_wp2_with fail
  refine (move_is x 30 _ (by omega) h).mono ?_; rintro e w7 ⟨rfl, rfl⟩
  go_wp2_with fail
  rw [H0.out, H1.out]
  refine (move_is (stp x 2) 27 _ (by omega) L2.out).mono ?_; rintro e w7 ⟨rfl, rfl⟩
  go_wp2_with fail
  rw [H2.out, H3.out]
  refine (move_is (stp x 4) 31 _ (by omega) L4.out).mono ?_; rintro e w7 ⟨rfl, rfl⟩
  go_wp2_with fail
  rw [H4.out]
  go_ret
  exact ⟨rfl, rfl⟩

theorem ref_is (z : Int) (w : World) (h0 : 0 ≤ z) (h1 : z ≤ 18446744073709551615) :
    Calls Try.prog 80 #[.int .u64 z] w fun e w' => e = .returned (.int .u64 (mixI z)) ∧ w = w' := by
  obtain ⟨x, rfl⟩ := Int.eq_ofNat_of_zero_le h0
  exact ref_walk x (by omega) w

def backI (z : Int) : Int := (Mx.back z.toNat : Nat)

theorem backI_rng (z : Int) : 0 ≤ backI z ∧ backI z ≤ 18446744073709551615 := by
  unfold backI
  have h : Mx.back z.toNat < 18446744073709551616 := Mx.back_lt
  omega
theorem back_mixI (z : Int) (h0 : 0 ≤ z) (h1 : z ≤ 18446744073709551615) : backI (mixI z) = z := by
  unfold backI mixI
  rw [Int.toNat_natCast, Mx.back_mix (show z.toNat < 18446744073709551616 by omega)]
  omega
theorem mix_backI (z : Int) (h0 : 0 ≤ z) (h1 : z ≤ 18446744073709551615) : mixI (backI z) = z := by
  unfold backI mixI
  rw [Int.toNat_natCast, Mx.mix_back (show z.toNat < 18446744073709551616 by omega)]
  omega
theorem mixI_inj (x y : Int) (h0 : 0 ≤ x) (h1 : x ≤ 18446744073709551615) (h2 : 0 ≤ y) (h3 : y ≤ 18446744073709551615) : mixI x = mixI y ↔ x = y :=
  ⟨fun h => by rw [← back_mixI x h0 h1, h, back_mixI y h2 h3], fun h => by rw [h]⟩

end Go.Proofs.Ytfoifcbaadnigaa

/-
  Contracts: priorities, hashes, which of two is above, which size is picked.
-/
set_option linter.unusedVariables false
set_option linter.unusedSimpArgs false
namespace Go.Proofs.Ytfoifcbaadnigaa
open Go.RowKit

/-- A key's priority. -/
def rkI (a : Int) : Int := mixI (IntKind.u64.wrap (IntKind.u64.wrap a + 7))
theorem rkI_rng (a : Int) : 0 ≤ rkI a ∧ rkI a ≤ 18446744073709551615 := mixI_rng _
theorem wrap_rng (z : Int) : 0 ≤ IntKind.u64.wrap z ∧ IntKind.u64.wrap z ≤ 18446744073709551615 := by rw [IntKind.wrap_u64]; omega

set_option maxHeartbeats 400000 in
theorem Rank_is (a : Int) (w : World) : Calls Try.prog 74 #[.int .i64 a] w fun e w' => e = .returned (.int .u64 (rkI a)) ∧ Ext w w' := by
  have hb := wrap_rng (IntKind.u64.wrap a + 7)
  have H := Lib.hid (Of_is (IntKind.u64.wrap (IntKind.u64.wrap a + 7)) w hb.1 hb.2)
  clear hb
  go_enter Try.func74, Try.ntmps74
  go_wp2_with fail
  refine H.out.mono ?_; rintro e w7 ⟨rfl, hx⟩
  go_wp2_with fail
  go_ret
  exact ⟨rfl, hx⟩

set_option maxHeartbeats 400000 in
theorem refRank_is (a : Int) (w : World) : Calls Try.prog 69 #[.int .i64 a] w fun e w' => e = .returned (.int .u64 (rkI a)) ∧ w = w' := by
  have hb := wrap_rng (IntKind.u64.wrap a + 7)
  have H := Lib.hid (ref_is (IntKind.u64.wrap (IntKind.u64.wrap a + 7)) w hb.1 hb.2)
  clear hb
  go_enter Try.func69, Try.ntmps69
  go_wp2_with fail
  refine H.out.mono ?_; rintro e w7 ⟨rfl, rfl⟩
  go_wp2_with fail
  go_ret
  exact ⟨rfl, rfl⟩

def hsI (a : Int) : Int := rkI a % 1048576
theorem hsI_rng (a : Int) : 0 ≤ hsI a ∧ hsI a < 1048576 := by unfold hsI; omega

set_option maxHeartbeats 400000 in
theorem Hash_is (a : Int) (w : World) : Calls Try.prog 58 #[.int .i64 a] w fun e w' => e = .returned (.int .i64 (hsI a)) ∧ Ext w w' := by
  have hb := rkI_rng a
  have hh := Lib.hid (show rkI a % 1048576 = hsI a from rfl)
  go_enter Try.func58, Try.ntmps58
  go_wp2_with fail
  refine (Rank_is a _).mono ?_; rintro e w7 ⟨rfl, hx⟩
  go_wp2_with fail
  rw [hh.out]
  go_ret
  exact ⟨rfl, hx⟩

/-- Which of two is above. -/
def Bef (a b : Int) : Prop := rkI a < rkI b ∨ (rkI a = rkI b ∧ a < b)
instance (a b : Int) : Decidable (Bef a b) := by unfold Bef; infer_instance
def bef (a b : Int) : Bool := decide (Bef a b)

/-- Sizes that may be. -/
def Sz (a : Int) : Prop := 1 ≤ a ∧ a ≤ 1073741824

def pk (a b : Int) : Bool := decide (mixI (a * 1048576 + b) % (a + b) < a)

theorem mixI_1 : (mixI 1 != 0) = true := by decide +kernel

end Go.Proofs.Ytfoifcbaadnigaa
