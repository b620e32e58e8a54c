/-
  Contracts of the document's answers: a number moved, mixed, and got back.
-/
import Derived.Test.YtlnmebjekdkedaaMixOf
set_option linter.unusedVariables false
set_option linter.unusedSimpArgs false
namespace Go.Proofs.Ytlnmebjekdkedaa
open Go.RowKit

def half (x i : Nat) : Nat := x / 2 ^ i
theorem half_le (x i : Nat) : half x i ≤ x := Nat.div_le_self _ _
theorem half_succ (x i : Nat) : ((half x i : Nat) : Int) / 2 = (half x (i + 1) : Nat) := by
  unfold half
  rw [Nat.pow_succ, ← Nat.div_div_eq_div_mul]
  rfl
theorem xor_int (x y : Nat) (hx : x < 18446744073709551616) (hy : y < 18446744073709551616) : bits .xor .u64 (x : Int) (y : Int) = ((x ^^^ y : Nat) : Int) := bits_xor_u64_nat x y hx hy

set_option maxHeartbeats 400000 in
theorem move_is (x k : Nat) (w : World) (hk : k ≤ 100) (h : x < 18446744073709551616) :
    Calls Try.prog 21 #[.int .u64 x, .int .i64 k] w fun e w' => e = .returned (.int .u64 (half x k : Nat)) ∧ w = w' := by
  go_enter Try.func21, Try.ntmps21
  go_wp2_with fail
  go_loop [0, 5, 6, 7, 8, 9, 10, 11, 12] (fun s0 s5 _ _ _ _ _ _ _ => ∃ i : Nat, i ≤ k ∧ s5 = .int .i64 i ∧ s0 = .int .u64 (half x i : Nat)) (fun _ s5 _ _ _ _ _ _ _ => k - (intOf s5).toNat)
  case atStart => exact ⟨0, by omega, rfl, by simp [half]⟩
  case round =>
    obtain ⟨i, hi, rfl, rfl⟩ := hrel
    have hb : ((half x i : Nat) : Int) ≤ 18446744073709551615 := by have := half_le x i; omega
    have hs := Lib.hid (half_succ x i)
    by_cases hlt : i < k
    · go_wp2_with fail
      go_round
      case rel => exact ⟨i + 1, by omega, by go_num, by rw [hs.out]⟩
      case measure => simp [intOf]; omega
    · have hik := Lib.hid (show i = k by omega)
      go_wp2_with fail
      go_ret
      exact ⟨by rw [hik.out]; rfl, rfl⟩

theorem un_succ (k y i : Nat) (hy : y < 18446744073709551616) : bits .xor .u64 (y : Int) ((half (Mx.un k y i) k : Nat) : Int) = (Mx.un k y (i + 1) : Nat) := by
  rw [xor_int _ _ hy (by have := half_le (Mx.un k y i) k; have : Mx.un k y i < 18446744073709551616 := Mx.un_lt hy i; omega)]
  rfl

set_option maxHeartbeats 400000 in
theorem unmove_is (y k : Nat) (w : World) (hk : k ≤ 100) (h : y < 18446744073709551616) :
    Calls Try.prog 22 #[.int .u64 y, .int .i64 k] w fun e w' => e = .returned (.int .u64 (Mx.un k y 4 : Nat)) ∧ w = w' := by
  have HU := Lib.hid (fun i => (Mx.un_lt (k := k) h i : Mx.un k y i < 18446744073709551616))
  have HS := Lib.hid (fun i => un_succ k y i h)
  go_enter Try.func22, Try.ntmps22
  go_wp2_with fail
  go_loop [5, 6, 8, 9, 10, 11, 12, 13, 14, 15, 16] (fun s5 s6 _ _ _ _ _ _ _ _ _ => ∃ i : Nat, i ≤ 4 ∧ s6 = .int .i64 i ∧ s5 = .int .u64 (Mx.un k y i : Nat)) (fun _ s6 _ _ _ _ _ _ _ _ _ => 4 - (intOf s6).toNat)
  case atStart => exact ⟨0, by omega, rfl, rfl⟩
  case round =>
    obtain ⟨i, hi, rfl, rfl⟩ := hrel
    by_cases hlt : i < 4
    · go_wp2_with fail
      refine (move_is (Mx.un k y i) k _ hk (HU.out i)).mono ?_; rintro e w7 ⟨rfl, rfl⟩
      go_wp2_with fail
      go_round
      case rel => exact ⟨i + 1, by omega, by go_num, by rw [HS.out i]⟩
      case measure => simp [intOf]; omega
    · have hik := Lib.hid (show i = 4 by omega)
      go_wp2_with fail
      go_ret
      exact ⟨by rw [hik.out]; rfl, rfl⟩

/-- The rounds of an inverse. -/
def inv (c : Int) : Nat → Int
  | 0 => c
  | i + 1 => IntKind.u64.wrap (inv c i * IntKind.u64.wrap (2 - IntKind.u64.wrap (c * inv c i)))

set_option maxHeartbeats 400000 in
theorem inverse_is (c : Int) (w : World) :
    Calls Try.prog 23 #[.int .u64 c] w fun e w' => e = .returned (.int .u64 (inv c 6)) ∧ w = w' := by
  go_enter Try.func23, Try.ntmps23
  go_wp2_with fail
  go_loop [3, 4, 6, 7, 8, 9, 10, 11, 12, 13, 14, 15] (fun s3 s4 _ _ _ _ _ _ _ _ _ _ => ∃ i : Nat, i ≤ 6 ∧ s4 = .int .i64 i ∧ s3 = .int .u64 (inv c i)) (fun _ s4 _ _ _ _ _ _ _ _ _ _ => 6 - (intOf s4).toNat)
  case atStart => exact ⟨0, by omega, rfl, rfl⟩
  case round =>
    obtain ⟨i, hi, rfl, rfl⟩ := hrel
    by_cases hlt : i < 6
    · go_wp2_with fail
      go_round
      case rel => exact ⟨i + 1, by omega, by go_num, rfl⟩
      case measure => simp [intOf]; omega
    · have hik := Lib.hid (show i = 6 by omega)
      go_wp2_with fail
      go_ret
      exact ⟨by rw [hik.out]; rfl, rfl⟩

theorem inv_c1 : inv 13787848793156543929 6 = 10871156337175269513 := by decide +kernel
theorem inv_c2 : inv 10723151780598845931 6 = 3573116690164977347 := by decide +kernel

theorem fold_half (k x : Nat) (h : x < 18446744073709551616) : bits .xor .u64 (x : Int) ((half x k : Nat) : Int) = (Mx.fold k x : Nat) := by
  rw [xor_int _ _ h (by have := half_le x k; omega)]
  rfl

theorem mul_c1 (x : Nat) : IntKind.u64.wrap ((x : Int) * 13787848793156543929) = (Mx.mul Mx.c1 x : Nat) := by rw [← c1_int]; exact mul_int _ _
theorem mul_c2 (x : Nat) : IntKind.u64.wrap ((x : Int) * 10723151780598845931) = (Mx.mul Mx.c2 x : Nat) := by rw [← c2_int]; exact mul_int _ _
theorem d1_int : ((Mx.d1 : Nat) : Int) = 10871156337175269513 := by simp only [Mx.d1]; rfl
theorem d2_int : ((Mx.d2 : Nat) : Int) = 3573116690164977347 := by simp only [Mx.d2]; rfl
theorem mul_d1 (x : Nat) : IntKind.u64.wrap ((x : Int) * inv 13787848793156543929 6) = (Mx.mul Mx.d1 x : Nat) := by rw [inv_c1, ← d1_int]; exact mul_int _ _
theorem mul_d2 (x : Nat) : IntKind.u64.wrap ((x : Int) * inv 10723151780598845931 6) = (Mx.mul Mx.d2 x : Nat) := by rw [inv_c2, ← d2_int]; exact mul_int _ _

set_option maxHeartbeats 1000000 in
theorem ref_walk (x : Nat) (h : x < 18446744073709551616) (w : World) :
    Calls Try.prog 10 #[.int .u64 x] w fun e w' => e = .returned (.int .u64 (Mx.mix x : Nat)) ∧ w = w' := by
  have H0 := Lib.hid ((fold_half 30 x h).trans (by rw [← stp_1]; rfl : (Mx.fold 30 x : Int) = (stp x 1 : Nat)))
  have H1 := Lib.hid ((mul_c1 (stp x 1)).trans (by rw [stp_2] : (Mx.mul Mx.c1 (stp x 1) : Int) = (stp x 2 : Nat)))
  have H2 := Lib.hid ((fold_half 27 (stp x 2) (stp_lt x h 2)).trans (by rw [stp_3] : (Mx.fold 27 (stp x 2) : Int) = (stp x 3 : Nat)))
  have H3 := Lib.hid ((mul_c2 (stp x 3)).trans (by rw [stp_4] : (Mx.mul Mx.c2 (stp x 3) : Int) = (stp x 4 : Nat)))
  have H4 := Lib.hid ((fold_half 31 (stp x 4) (stp_lt x h 4)).trans (by rw [stp_5, stp_end] : (Mx.fold 31 (stp x 4) : Int) = (Mx.mix x : Nat)))
  have L2 := Lib.hid (stp_lt x h 2)
  have L4 := Lib.hid (stp_lt x h 4)
  go_enter Try.func10, Try.ntmps10
  go_wp2_with fail
  refine (move_is x 30 _ (by omega) h).mono ?_; rintro e w7 ⟨rfl, rfl⟩
  go_wp2_with fail
  rw [H0.out, H1.out]
  refine (move_is (stp x 2) 27 _ (by omega) L2.out).mono ?_; rintro e w7 ⟨rfl, rfl⟩
  go_wp2_with fail
  rw [H2.out, H3.out]
  refine (move_is (stp x 4) 31 _ (by omega) L4.out).mono ?_; rintro e w7 ⟨rfl, rfl⟩
  go_wp2_with fail
  rw [H4.out]
  go_ret
  exact ⟨rfl, rfl⟩

theorem ref_is (z : Int) (w : World) (h0 : 0 ≤ z) (h1 : z ≤ 18446744073709551615) :
    Calls Try.prog 10 #[.int .u64 z] w fun e w' => e = .returned (.int .u64 (mixI z)) ∧ w = w' := by
  obtain ⟨x, rfl⟩ := Int.eq_ofNat_of_zero_le h0
  exact ref_walk x (by omega) w

def backI (z : Int) : Int := (Mx.back z.toNat : Nat)

set_option maxHeartbeats 1000000 in
theorem back_walk (y : Nat) (h : y < 18446744073709551616) (w : World) :
    Calls Try.prog 17 #[.int .u64 y] w fun e w' => e = .returned (.int .u64 (backI y)) ∧ w = w' := by
  obtain ⟨a, ha⟩ : ∃ a, a = Mx.un 31 y 4 := ⟨_, rfl⟩
  obtain ⟨b, hb⟩ : ∃ b, b = Mx.mul Mx.d2 a := ⟨_, rfl⟩
  obtain ⟨c, hc⟩ : ∃ c, c = Mx.un 27 b 4 := ⟨_, rfl⟩
  obtain ⟨d, hd⟩ : ∃ d, d = Mx.mul Mx.d1 c := ⟨_, rfl⟩
  have M2 := Lib.hid ((mul_d2 a).trans (by rw [hb] : (Mx.mul Mx.d2 a : Int) = (b : Nat)))
  have M1 := Lib.hid ((mul_d1 c).trans (by rw [hd] : (Mx.mul Mx.d1 c : Int) = (d : Nat)))
  have LB := Lib.hid (show b < 18446744073709551616 by rw [hb]; exact Mx.mul_lt _ _)
  have LD := Lib.hid (show d < 18446744073709551616 by rw [hd]; exact Mx.mul_lt _ _)
  have HE := Lib.hid (show ((Mx.un 30 d 4 : Nat) : Int) = backI y by unfold backI Mx.back; rw [hd, hc, hb, ha]; rfl)
  have HA := Lib.hid ha
  have HC := Lib.hid hc
  clear ha hb hc hd
  go_enter Try.func17, Try.ntmps17
  go_wp2_with fail
  refine (unmove_is y 31 _ (by omega) h).mono ?_; rintro e w7 ⟨rfl, rfl⟩
  rw [← HA.out]
  go_wp2_with fail
  refine (inverse_is _ _).mono ?_; rintro e w7 ⟨rfl, rfl⟩
  go_wp2_with fail
  rw [M2.out]
  refine (unmove_is b 27 _ (by omega) LB.out).mono ?_; rintro e w7 ⟨rfl, rfl⟩
  rw [← HC.out]
  go_wp2_with fail
  refine (inverse_is _ _).mono ?_; rintro e w7 ⟨rfl, rfl⟩
  go_wp2_with fail
  rw [M1.out]
  refine (unmove_is d 30 _ (by omega) LD.out).mono ?_; rintro e w7 ⟨rfl, rfl⟩
  rw [HE.out]
  go_wp2_with fail
  go_ret
  exact ⟨rfl, rfl⟩

theorem back_is (z : Int) (w : World) (h0 : 0 ≤ z) (h1 : z ≤ 18446744073709551615) :
    Calls Try.prog 17 #[.int .u64 z] w fun e w' => e = .returned (.int .u64 (backI z)) ∧ w = w' := by
  obtain ⟨x, rfl⟩ := Int.eq_ofNat_of_zero_le h0
  exact back_walk x (by omega) w
theorem backI_rng (z : Int) : 0 ≤ backI z ∧ backI z ≤ 18446744073709551615 := by
  unfold backI
  have h : Mx.back z.toNat < 18446744073709551616 := Mx.back_lt
  omega
theorem back_mixI (z : Int) (h0 : 0 ≤ z) (h1 : z ≤ 18446744073709551615) : backI (mixI z) = z := by
  unfold backI mixI
  rw [Int.toNat_natCast, Mx.back_mix (show z.toNat < 18446744073709551616 by omega)]
  omega
theorem mix_backI (z : Int) (h0 : 0 ≤ z) (h1 : z ≤ 18446744073709551615) : mixI (backI z) = z := by
  unfold backI mixI
  rw [Int.toNat_natCast, Mx.mix_back (show z.toNat < 18446744073709551616 by omega)]
  omega
theorem mixI_inj (x y : Int) (h0 : 0 ≤ x) (h1 : x ≤ 18446744073709551615) (h2 : 0 ≤ y) (h3 : y ≤ 18446744073709551615) : mixI x = mixI y ↔ x = y :=
  ⟨fun h => by rw [← back_mixI x h0 h1, h, back_mixI y h2 h3], fun h => by rw [h]⟩

end Go.Proofs.Ytlnmebjekdkedaa
