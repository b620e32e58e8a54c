/-
  What mixing is, on natural numbers, and how each step of it is taken back.
-/
set_option linter.unusedVariables false
set_option linter.unusedSimpArgs false
namespace Go.Proofs.Ytlnmebjekdkedaa.Mx
/-- 2^64. -/
def top : Nat := 18446744073709551616
def fold (k x : Nat) : Nat := x ^^^ x / 2 ^ k
def mul (c x : Nat) : Nat := c * x % top
def un (k y : Nat) : Nat → Nat
  | 0 => y
  | i + 1 => y ^^^ un k y i / 2 ^ k

theorem xor_div (a b k : Nat) : (a ^^^ b) / 2 ^ k = a / 2 ^ k ^^^ b / 2 ^ k := by
  simp only [← Nat.shiftRight_eq_div_pow]
  exact Nat.shiftRight_xor_distrib
theorem div_div (a j k : Nat) : a / 2 ^ j / 2 ^ k = a / 2 ^ (j + k) := by rw [Nat.div_div_eq_div_mul, Nat.pow_add]
theorem xor_lt {a b : Nat} (ha : a < top) (hb : b < top) : a ^^^ b < top := Nat.xor_lt_two_pow (n := 64) ha hb
theorem fold_lt {k x : Nat} (h : x < top) : fold k x < top := xor_lt h (Nat.lt_of_le_of_lt (Nat.div_le_self _ _) h)
theorem mul_lt (c x : Nat) : mul c x < top := Nat.mod_lt _ (by decide)
theorem un_lt {k y : Nat} (h : y < top) : ∀ i, un k y i < top
  | 0 => h
  | i + 1 => xor_lt h (Nat.lt_of_le_of_lt (Nat.div_le_self _ _) (un_lt h i))
theorem xx (a b : Nat) : a ^^^ (a ^^^ b) = b := by rw [← Nat.xor_assoc, Nat.xor_self, Nat.zero_xor]

theorem un_fold (k x : Nat) : ∀ i, un k (fold k x) i = x ^^^ x / 2 ^ (k * (i + 1))
  | 0 => by simp [un, fold]
  | i + 1 => by
    unfold un
    rw [un_fold k x i, xor_div, div_div, fold, Nat.xor_assoc, xx]
    congr 3
theorem fold_un (k y : Nat) : ∀ i, fold k (un k y i) = y ^^^ y / 2 ^ (k * (i + 1))
  | 0 => by simp [un, fold]
  | i + 1 => by
    have h := fold_un k y i
    have h2 : fold k (un k y (i + 1)) = y ^^^ (un k y i ^^^ un k y (i + 1)) / 2 ^ k := by
      unfold fold
      rw [xor_div]
      show (y ^^^ un k y i / 2 ^ k) ^^^ un k y (i + 1) / 2 ^ k = _
      rw [Nat.xor_assoc]
    rw [h2]
    have h3 : un k y i ^^^ un k y (i + 1) = fold k (un k y i) ^^^ y := by
      unfold fold
      show un k y i ^^^ (y ^^^ un k y i / 2 ^ k) = _
      rw [Nat.xor_assoc, Nat.xor_comm y]
    rw [h3, h, Nat.xor_comm (y ^^^ _) y, xx, div_div]
    rfl
theorem small {k x : Nat} (h : x < top) (hk : 64 ≤ k) : x / 2 ^ k = 0 :=
  Nat.div_eq_of_lt (Nat.lt_of_lt_of_le h (Nat.pow_le_pow_right (by decide) hk : 2 ^ 64 ≤ 2 ^ k))
theorem un_fold4 {k x : Nat} (h : x < top) (hk : 64 ≤ k * 5) : un k (fold k x) 4 = x := by rw [un_fold, small h hk, Nat.xor_zero]
theorem fold_un4 {k x : Nat} (h : x < top) (hk : 64 ≤ k * 5) : fold k (un k x 4) = x := by rw [fold_un, small h hk, Nat.xor_zero]
theorem mul_mul {c d x : Nat} (h : x < top) (hc : d * c % top = 1) : mul d (mul c x) = x := by
  unfold mul
  rw [Nat.mul_mod_mod, ← Nat.mul_assoc, ← Nat.mod_mul_mod, hc, Nat.one_mul]
  exact Nat.mod_eq_of_lt h

def c1 : Nat := 13787848793156543929
def c2 : Nat := 10723151780598845931
def d1 : Nat := 10871156337175269513
def d2 : Nat := 3573116690164977347
def mix (x : Nat) : Nat := fold 31 (mul c2 (fold 27 (mul c1 (fold 30 x))))
def back (y : Nat) : Nat := un 30 (mul d1 (un 27 (mul d2 (un 31 y 4)) 4)) 4
theorem mix_lt {x : Nat} (h : x < top) : mix x < top := fold_lt (mul_lt _ _)
theorem back_lt {x : Nat} : back x < top := un_lt (mul_lt _ _) _
theorem back_mix {x : Nat} (h : x < top) : back (mix x) = x := by
  unfold back mix
  rw [un_fold4 (mul_lt _ _) (by decide), mul_mul (fold_lt (mul_lt _ _)) (by decide), un_fold4 (mul_lt _ _) (by decide), mul_mul (fold_lt h) (by decide), un_fold4 h (by decide)]
theorem mix_back {x : Nat} (h : x < top) : mix (back x) = x := by
  unfold back mix
  rw [fold_un4 (mul_lt _ _) (by decide), mul_mul (un_lt (mul_lt _ _) _) (by decide), fold_un4 (mul_lt _ _) (by decide), mul_mul (un_lt h _) (by decide), fold_un4 h (by decide)]
theorem mix_inj {x y : Nat} (hx : x < top) (hy : y < top) : (mix x = mix y) ↔ x = y :=
  ⟨fun h => by rw [← back_mix hx, h, back_mix hy], fun h => by rw [h]⟩
end Go.Proofs.Ytlnmebjekdkedaa.Mx
