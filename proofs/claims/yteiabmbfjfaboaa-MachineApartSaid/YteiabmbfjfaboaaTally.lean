/-
  What picks come to for processes that add: each is as far as it was picked for, and each word is the sum of what was added to it.
-/
import Derived.Test.YteiabmbfjfaboaaPRow
set_option linter.unusedVariables false
set_option linter.unusedSimpArgs false
namespace Go.Proofs.Yteiabmbfjfaboaa
open Go.RowKit

/-- A process that adds n times to a word, behind c picks. -/
def Far (p : Pc) (a : Int) (n c : Nat) : Prop := p.prog = (addsP a n).prog ∧ p.at_ = ((min c n : Nat) : Int) ∧ p.done = decide (n < c) ∧ p.took = ((min c (n + 1) : Nat) : Int)
theorem far_zero (a : Int) (n : Nat) : Far (addsP a n) a n 0 := ⟨rfl, by simp [addsP], by simp [addsP], by simp [addsP]⟩
theorem adds_get (a : Int) (n c : Nat) (h : c ≤ n) : (addsP a n).prog[c]? = some (if c < n then addI a else endI) := by
  unfold addsP
  dsimp only
  by_cases hc : c < n
  · rw [List.getElem?_append_left (by simpa using hc), if_pos hc]
    simp [hc]
  · obtain rfl : c = n := by omega
    rw [List.getElem?_append_right (by simp), if_neg hc]
    simp
theorem far_step {p : Pc} {a : Int} {n c : Nat} (h : Far p a n c) (hn : n ≤ 63) (ws : List Int) :
    Far (stp ws p).2 a n (c + 1) ∧ (stp ws p).1 = if c < n then ws.set a.toNat (IntKind.u64.wrap (ith ws a.toNat + 1)) else ws := by
  obtain ⟨h1, h2, h3, h4⟩ := h
  by_cases hc : n < c
  · have hd : p.done = true := by rw [h3]; simpa using hc
    have e : stp ws p = (ws, p) := by unfold stp; rw [if_pos (.inl hd)]
    rw [e, if_neg (by omega)]
    refine ⟨⟨h1, by rw [h2]; congr 1; omega, by rw [h3]; simp; omega, by rw [h4]; congr 1; omega⟩, rfl⟩
  · have hd : ¬ (p.done = true ∨ p.took = 1099511627776) := by
      rw [h3, h4]
      simp
      omega
    have hlen : p.prog.length = n + 1 := by rw [h1, addsP_length]
    have hi : p.ins = if c < n then addI a else endI := by
      unfold Pc.ins
      rw [h2, h1, Int.toNat_natCast, Nat.min_eq_left (by omega), List.getD_eq_getElem?_getD, adds_get a n c (by omega)]
      rfl
    rw [stp_on hd]
    dsimp only
    by_cases hcn : c < n
    · rw [if_pos hcn] at hi ⊢
      rw [hi]
      have hnx : nextOf (addI a) p.rs p.at_ p.prog.length = ((c + 1 : Nat) : Int) := by
        simp only [nextOf, addI]
        rw [if_neg (by omega), if_neg (by omega), h2]
        omega
      rw [hnx]
      refine ⟨⟨h1, ?_, ?_, ?_⟩, ?_⟩
      · simp only [Pc.on]
        rw [if_neg (by rw [hlen]; omega)]
        omega
      · simp only [Pc.on]
        rw [hlen]
        simp
        omega
      · simp only [Pc.on]
        rw [h4]
        omega
      · simp [wordsOf, addI]
    · obtain rfl : c = n := by omega
      rw [if_neg hcn] at hi ⊢
      rw [hi]
      have hnx : nextOf endI p.rs p.at_ p.prog.length = (p.prog.length : Int) := by simp [nextOf, endI]
      rw [hnx]
      refine ⟨⟨h1, ?_, ?_, ?_⟩, ?_⟩
      · simp only [Pc.on]
        rw [if_pos trivial, h2]
        omega
      · simp [Pc.on]
      · simp only [Pc.on]
        rw [h4]
        omega
      · simp [wordsOf, endI]

theorem sum_bump (f g : Nat → Nat) (i d : Nat) (h : g i = f i + d) (ho : ∀ k, k ≠ i → g k = f k) : ∀ n, ((List.range n).map g).sum = ((List.range n).map f).sum + if i < n then d else 0 := by
  intro n
  induction n with
  | zero => simp
  | succ n ih =>
    rw [List.range_succ, List.map_append, List.map_append, List.sum_append, List.sum_append, ih]
    by_cases e : n = i
    · subst e
      simp [h]
      omega
    · have := ho n e
      simp only [List.map_cons, List.map_nil, List.sum_cons, List.sum_nil, this]
      by_cases h' : i < n
      · rw [if_pos h', if_pos (by omega)]
        omega
      · rw [if_neg h', if_neg (by omega)]
        omega
theorem sum_le (f : Nat → Nat) (b : Nat) (h : ∀ i, f i ≤ b) : ∀ n, ((List.range n).map f).sum ≤ n * b := by
  intro n
  induction n with
  | zero => simp
  | succ n ih =>
    rw [List.range_succ, List.map_append, List.sum_append, Nat.succ_mul]
    have := h n
    simp
    omega

/-- What the i-th of some processes that add has added to a word. -/
def part (specs : List (Int × Nat)) (cnt : Nat → Nat) (j : Nat) (i : Nat) : Nat :=
  match specs[i]? with
  | some x => if x.1 = (j : Int) then min (cnt i) x.2 else 0
  | none => 0
def tot (specs : List (Int × Nat)) (cnt : Nat → Nat) (j : Nat) : Nat := ((List.range specs.length).map (part specs cnt j)).sum
/-- All of them, and all words, behind as many picks of each. -/
def Tally (specs : List (Int × Nat)) (cnt : Nat → Nat) (s : List Int × List Pc) : Prop :=
  s.1.length = 64 ∧ s.2.length = specs.length ∧ (∀ i x, specs[i]? = some x → ∃ p, s.2[i]? = some p ∧ Far p x.1 x.2 (cnt i)) ∧ ∀ j, j < 64 → ith s.1 j = (tot specs cnt j : Int)
def Small (specs : List (Int × Nat)) : Prop := specs.length ≤ 8 ∧ ∀ x ∈ specs, 0 ≤ x.1 ∧ x.1 ≤ 63 ∧ x.2 ≤ 63
theorem part_le {specs : List (Int × Nat)} (h : Small specs) (cnt : Nat → Nat) (j i : Nat) : part specs cnt j i ≤ 63 := by
  unfold part
  split
  · rename_i x hx
    have := (h.2 x (List.mem_of_getElem? hx)).2.2
    split <;> omega
  · omega
theorem tot_le {specs : List (Int × Nat)} (h : Small specs) (cnt : Nat → Nat) (j : Nat) : tot specs cnt j ≤ 504 := by
  have := sum_le (part specs cnt j) 63 (part_le h cnt j) specs.length
  have := h.1
  unfold tot
  omega
def bump (cnt : Nat → Nat) (i : Nat) : Nat → Nat := fun k => if k = i then cnt i + 1 else cnt k
theorem tot_bump {specs : List (Int × Nat)} (cnt : Nat → Nat) (j i : Nat) {x : Int × Nat} (hx : specs[i]? = some x) :
    tot specs (bump cnt i) j = tot specs cnt j + if x.1 = (j : Int) ∧ cnt i < x.2 then 1 else 0 := by
  have hi : i < specs.length := (List.getElem?_eq_some_iff.1 hx).1
  unfold tot
  rw [sum_bump (part specs cnt j) (part specs (bump cnt i) j) i (if x.1 = (j : Int) ∧ cnt i < x.2 then 1 else 0) ?_ ?_, if_pos hi]
  · unfold part bump
    rw [hx]
    simp only [if_true]
    by_cases h1 : x.1 = (j : Int)
    · by_cases h2 : cnt i < x.2
      · simp [h1, h2]
        omega
      · simp [h1, h2]
        omega
    · simp [h1]
  · intro k hk
    unfold part bump
    rw [if_neg hk]
theorem ith_set_eq (zs : List Int) (i : Nat) (v : Int) (h : i < zs.length) : ith (zs.set i v) i = v := by
  unfold ith
  simp [List.getD_eq_getElem?_getD, h]
theorem tally_pick {specs : List (Int × Nat)} (hs : Small specs) {cnt : Nat → Nat} {s : List Int × List Pc} (h : Tally specs cnt s) (i : Nat) {x : Int × Nat} (hx : specs[i]? = some x) : Tally specs (bump cnt i) (pick s (i : Int)) := by
  obtain ⟨h1, h2, h3, h4⟩ := h
  obtain ⟨p, hp, hf⟩ := h3 i x hx
  obtain ⟨ha0, ha1, hn⟩ := hs.2 x (List.mem_of_getElem? hx)
  obtain ⟨f1, f2⟩ := far_step hf hn s.1
  have hi : i < specs.length := (List.getElem?_eq_some_iff.1 hx).1
  rw [pick_at s i p hp]
  refine ⟨by rw [stp_words]; exact h1, by simpa using h2, fun k y hy => ?_, fun j hj => ?_⟩
  · by_cases e : i = k
    · subst e
      rw [hx] at hy
      obtain rfl := Option.some.inj hy
      refine ⟨_, List.getElem?_set_self (by omega), ?_⟩
      simpa [bump] using f1
    · obtain ⟨q, hq, hg⟩ := h3 k y hy
      refine ⟨q, by rw [List.getElem?_set_ne e]; exact hq, ?_⟩
      simpa [bump, show k ≠ i from fun e' => e e'.symm] using hg
  · dsimp only
    rw [f2, tot_bump cnt j i hx]
    have hle := tot_le hs cnt j
    by_cases hc : cnt i < x.2
    · rw [if_pos hc]
      by_cases e : x.1.toNat = j
      · subst e
        rw [ith_set_eq _ _ _ (by omega), h4 _ hj, if_pos ⟨by omega, hc⟩, IntKind.wrap_u64]
        omega
      · rw [ith_set_ne _ _ _ _ e, h4 j hj, if_neg (fun h' => e (by omega))]
        simp
    · rw [if_neg hc, h4 j hj, if_neg (fun h' => hc h'.2)]
      simp
theorem tally_runs {specs : List (Int × Nat)} (hs : Small specs) (l : List Int) : ∀ {cnt : Nat → Nat} {s : List Int × List Pc}, Tally specs cnt s → Tally specs (fun i => if i < specs.length then cnt i + l.count (i : Int) else cnt i) (runs s l) := by
  induction l with
  | nil =>
    intro cnt s h
    have : (fun i => if i < specs.length then cnt i + ([] : List Int).count (i : Int) else cnt i) = cnt := by funext i; simp
    rw [this]
    exact h
  | cons x l ih =>
    intro cnt s h
    show Tally specs _ (runs (pick s x) l)
    by_cases hx : 0 ≤ x ∧ x < specs.length
    · obtain ⟨i, rfl⟩ := Int.eq_ofNat_of_zero_le hx.1
      have hi : i < specs.length := by omega
      have := ih (tally_pick hs h i (List.getElem?_eq_getElem hi))
      have e : (fun k => if k < specs.length then bump cnt i k + l.count (k : Int) else bump cnt i k) = (fun k => if k < specs.length then cnt k + ((i : Int) :: l).count (k : Int) else cnt k) := by
        funext k
        by_cases hk : k = i
        · subst hk
          simp [bump, hi]
          omega
        · have : ¬ (i : Int) = (k : Int) := by omega
          simp [bump, hk, List.count_cons, this]
      rw [e] at this
      exact this
    · have e1 : pick s x = s := by
        unfold pick
        split
        · rw [List.getElem?_eq_none (by rw [h.2.1]; omega)]
        · rfl
      rw [e1]
      have := ih h
      have e : (fun k => if k < specs.length then cnt k + l.count (k : Int) else cnt k) = (fun k => if k < specs.length then cnt k + (x :: l).count (k : Int) else cnt k) := by
        funext k
        by_cases hk : k < specs.length
        · have : ¬ x = (k : Int) := by omega
          simp [hk, List.count_cons, this]
        · simp [hk]
      rw [e] at this
      exact this
theorem ith_zeros (N j : Nat) : ith (List.replicate N 0) j = 0 := by
  simp only [ith, List.getD_eq_getElem?_getD, List.getElem?_replicate]
  split <;> rfl
/-- Behind any picks of processes that add, from words that are all 0. -/
theorem tally_all {specs : List (Int × Nat)} (hs : Small specs) (l : List Int) :
    Tally specs (fun i => if i < specs.length then l.count (i : Int) else 0) (runs (List.replicate 64 0, specs.map fun x => addsP x.1 x.2) l) := by
  have h0 : Tally specs (fun _ => 0) (List.replicate 64 0, specs.map fun x => addsP x.1 x.2) := by
    refine ⟨by simp, by simp, fun i x hx => ⟨_, by rw [List.getElem?_map, hx]; rfl, far_zero x.1 x.2⟩, fun j hj => ?_⟩
    have e : tot specs (fun _ => 0) j = 0 := by
      have := sum_le (part specs (fun _ => 0) j) 0 (fun i => by unfold part; split <;> simp) specs.length
      unfold tot
      omega
    rw [e]
    exact ith_zeros 64 j
  have := tally_runs hs l h0
  simpa using this

end Go.Proofs.Yteiabmbfjfaboaa
