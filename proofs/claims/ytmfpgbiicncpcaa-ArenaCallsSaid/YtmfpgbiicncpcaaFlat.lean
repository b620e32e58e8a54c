/-
  Rows of cells, one behind another; what grows leaves alone.
-/
import Derived.Test.YtmfpgbiicncpcaaBox
import Derived.Test.YtmfpgbiicncpcaaProg
import Derived.WalkKit
import Derived.WalkSpells
import Derived.WalkLawsBesides
import Derived.Outline
import Derived.OpenShut
import Derived.Laws.Wrap64
import Derived.Lib.Hide
set_option linter.unusedVariables false
set_option linter.unusedSimpArgs false
namespace Go.Proofs.Ytmfpgbiicncpcaa
open Go.RowKit

/-- Rows of cells, one behind another. -/
def flat {α : Type} (f : α → List Value) (xs : List α) : List Value := xs.flatMap f
theorem flat_length {α : Type} {f : α → List Value} {s : Nat} (hf : ∀ x, (f x).length = s) (xs : List α) : (flat f xs).length = xs.length * s := by
  induction xs with
  | nil => simp [flat]
  | cons x xs ih =>
    have : flat f (x :: xs) = f x ++ flat f xs := by simp [flat]
    rw [this, List.length_append, hf, ih, List.length_cons, Nat.add_mul]
    omega
theorem flat_get {α : Type} {f : α → List Value} {s : Nat} (hf : ∀ x, (f x).length = s) : ∀ (xs : List α) (i j : Nat) (x : α), xs[i]? = some x → j < s → (flat f xs)[i * s + j]? = (f x)[j]? := by
  intro xs
  induction xs with
  | nil => intro i j x h; simp at h
  | cons y xs ih =>
    intro i j x h hj
    have e : flat f (y :: xs) = f y ++ flat f xs := by simp [flat]
    rw [e]
    cases i with
    | zero =>
      simp at h
      subst h
      rw [Nat.zero_mul, Nat.zero_add, List.getElem?_append_left (by rw [hf]; exact hj)]
    | succ i =>
      rw [List.getElem?_append_right (by rw [hf, Nat.succ_mul]; omega), hf, show (i + 1) * s + j - s = i * s + j by rw [Nat.succ_mul]; omega]
      exact ih i j x (by simpa using h) hj
theorem flat_append {α : Type} (f : α → List Value) (xs ys : List α) : flat f xs ++ flat f ys = flat f (xs ++ ys) := by simp [flat]
theorem flat_take {α : Type} {f : α → List Value} {s : Nat} (hf : ∀ x, (f x).length = s) (xs : List α) : ∀ k, (flat f xs).take (k * s) = flat f (xs.take k) := by
  induction xs with
  | nil => intro k; simp [flat]
  | cons x xs ih =>
    intro k
    have e : flat f (x :: xs) = f x ++ flat f xs := by simp [flat]
    cases k with
    | zero => simp [flat]
    | succ k =>
      rw [e, List.take_append, hf, List.take_of_length_le (by rw [hf, Nat.succ_mul]; omega), show (k + 1) * s - s = k * s by rw [Nat.succ_mul]; omega, ih k]
      simp [flat]

theorem flat_one {α : Type} {f : α → List Value} (hf : ∀ x, ∀ u ∈ f x, u.oneCell' = true) (xs : List α) : ∀ u ∈ flat f xs, u.oneCell' = true := by
  intro u hu
  obtain ⟨x, _, hx⟩ := List.mem_flatMap.1 hu
  exact hf x u hx
theorem flat_snoc {α : Type} (f : α → List Value) (xs : List α) (x : α) : flat f xs ++ f x = flat f (xs ++ [x]) := by simp [flat]
theorem addr_zero (g j : Nat) : (⟨g, 0, none⟩ : Addr).add j = ⟨g, j, none⟩ := by
  unfold Addr.add
  split <;> simp_all
theorem Bx.grown {W W' : World} {b : Nat} {cs : Array Value} {r : Option Nat} (h : Bx W b cs) (hg : W.grownBy W' r) (hr : r ≠ some b) : Bx W' b cs := by
  have e := hg.block b h.lt (fun e => hr (by rw [e]))
  exact ⟨Nat.lt_of_lt_of_le h.lt hg.size, fun j => (World.cell?_of_block (a := ⟨b, j, none⟩) e).trans (h.cell j), fun j => by
    have := h.free j
    unfold World.frozen? at this ⊢
    rw [e]
    exact this⟩
theorem Bx.set {W : World} {b : Nat} {cs : Array Value} (h : Bx W b cs) {j : Nat} (hj : j < cs.size) (u : Value) : Bx (W.setCell ⟨b, j, none⟩ u) b (cs.setIfInBounds j u) := by
  refine ⟨by simpa [World.setCell] using h.lt, fun i => ?_, fun i => by rw [World.frozen?_setCell]; exact h.free i⟩
  have h0 := (h.cell j).trans (Array.getElem?_eq_getElem hj)
  by_cases e : j = i
  · subst e
    rw [World.cell?_setCell_same _ _ _ h0]
    simp [hj]
  · rw [World.cell?_setCell_other _ _ _ _ (fun x => e (by injection x)), h.cell i]
    simp [Array.getElem?_setIfInBounds, e]
theorem own_only {b : Nat} {W W' : World} {base : Nat} {e : TypeId} {size n : Nat} {v : Value} {xs : List Value} (h : W.ownsRow base e size v n xs) (ho : Only b W W') (hne : v.ownBlock ≠ some b) : W'.ownsRow base e size v n xs := by
  refine ⟨h.1, ?_⟩
  rcases h.2 with h' | ⟨g, cap, cur, rfl, hb, hg, hr⟩
  · exact .inl h'
  · refine .inr ⟨g, cap, cur, rfl, hb, ?_, hr⟩
    rw [← hg]
    exact ho.block g (Array.getElem?_eq_some_iff.1 hg).1 (fun e => hne (by rw [← e]; rfl))

theorem Rd.grown {W W' : World} {size n : Nat} {A : Option Addr} {xs : List Value} {r : Option Nat} (h : Rd W size A n xs) (hg : W.grownBy W' r) (hne : ∀ q, A = some q → r ≠ some q.block) : Rd W' size A n xs :=
  ⟨h.1, fun j u hu => by
    obtain ⟨ad, ha, hc⟩ := h.2 j u hu
    refine ⟨ad, ha, ?_⟩
    have hlt := World.block_lt_of_cell? W _ hc
    rw [← hc]
    refine World.cell?_of_block (hg.block _ hlt (fun e => hne ad ha ?_))
    rw [addr_block] at e
    exact e.symm⟩
theorem own_ext {W W' : World} {base : Nat} {e : TypeId} {size n : Nat} {v : Value} {xs : List Value} (h : W.ownsRow base e size v n xs) (hx : Ext W W') : W'.ownsRow base e size v n xs := by
  refine ⟨h.1, ?_⟩
  rcases h.2 with h' | ⟨g, cap, cur, rfl, hb, hg, hr⟩
  · exact .inl h'
  · refine .inr ⟨g, cap, cur, rfl, hb, ?_, hr⟩
    rw [← hg]
    exact hx.block g (Array.getElem?_eq_some_iff.1 hg).1

theorem Rd.of_flat {α : Type} {f : α → List Value} {s : Nat} (hf : ∀ x, (f x).length = s) (hs : 0 < s) {w : World} {ad : Addr} {xs : List α}
    (h : ∀ i x, xs[i]? = some x → ∀ j, j < s → w.cell? (ad.add (i * s + j)) = (f x)[j]?) : Rd w s (some ad) xs.length (flat f xs) := by
  refine ⟨flat_length hf xs, fun j u hu => ⟨ad, rfl, ?_⟩⟩
  have hj : j < xs.length * s := by
    have := (List.getElem?_eq_some_iff.1 hu).1
    rwa [flat_length hf] at this
  have hi : j / s < xs.length := by
    rw [Nat.div_lt_iff_lt_mul hs]
    exact hj
  have hv : xs[j / s]? = some xs[j / s] := List.getElem?_eq_getElem hi
  have e : j = j / s * s + j % s := by
    have := Nat.div_add_mod j s
    rw [Nat.mul_comm] at this
    exact this.symm
  have hm := Nat.mod_lt j hs
  have h1 := h _ _ hv (j % s) hm
  rw [← flat_get hf xs _ _ _ hv hm, ← e] at h1
  rw [h1]
  exact hu


end Go.Proofs.Ytmfpgbiicncpcaa
