/-
  What picks come to for a process beside others that work with other words; for processes that swap one word.
-/
import Derived.Test.YteiabmbfjfaboaaPRow
set_option linter.unusedVariables false
set_option linter.unusedSimpArgs false
namespace Go.Proofs.Yteiabmbfjfaboaa
open Go.RowKit

theorem ith_set_at (zs : List Int) (i : Nat) (v : Int) (h : i < zs.length) : ith (zs.set i v) i = v := by
  unfold ith
  simp [List.getD_eq_getElem?_getD, h]
theorem ith_set_off (zs : List Int) (i j : Nat) (v : Int) (h : i ≠ j) : ith (zs.set i v) j = ith zs j := by
  unfold ith
  simp [List.getD_eq_getElem?_getD, List.getElem?_set_ne h]

/-- What a process that is on word 1 alone does hangs on word 1 alone. -/
theorem stp_local {ws ws' : List Int} {p : Pc} (h : ith ws 1 = ith ws' 1) (hl : ws.length = 64) (hl' : ws'.length = 64) (hi : p.ins.i = 1) :
    (stp ws p).2 = (stp ws' p).2 ∧ ith (stp ws p).1 1 = ith (stp ws' p).1 1 := by
  by_cases hd : p.done = true ∨ p.took = 1099511627776
  · have e : ∀ us, stp us p = (us, p) := fun us => by unfold stp; rw [if_pos hd]
    rw [e, e]
    exact ⟨rfl, h⟩
  · rw [stp_on hd, stp_on hd]
    have er : regOf p.ins p.rs ws = regOf p.ins p.rs ws' := by
      unfold regOf
      rw [hi]
      simp only [Int.toNat_one, h]
    refine ⟨by rw [er], ?_⟩
    dsimp only
    unfold wordsOf
    rw [hi]
    simp only [Int.toNat_one]
    split
    · rw [ith_set_at _ _ _ (by omega), ith_set_at _ _ _ (by omega)]
    split
    · rw [h]
      split
      · rw [ith_set_at _ _ _ (by omega), ith_set_at _ _ _ (by omega)]
      · exact h
    split
    · rw [ith_set_at _ _ _ (by omega), ith_set_at _ _ _ (by omega), h]
    · exact h
/-- A process that adds to another word leaves word 1 as it is. -/
theorem stp_other {ws : List Int} {q : Pc} {a : Int} {n : Nat} (hq : q.prog = (addsP a n).prog) (ha : 2 ≤ a) : ith (stp ws q).1 1 = ith ws 1 := by
  by_cases hd : q.done = true ∨ q.took = 1099511627776
  · unfold stp
    rw [if_pos hd]
  · rw [stp_on hd]
    dsimp only
    have hi : q.ins = addI a ∨ q.ins.k = 8 := by
      unfold Pc.ins
      rw [List.getD_eq_getElem?_getD]
      cases hx : q.prog[q.at_.toNat]? with
      | none => exact .inr rfl
      | some x =>
        rw [hq] at hx
        have := List.mem_of_getElem? hx
        simp [addsP] at this
        rcases this with ⟨_, rfl⟩ | rfl
        · exact .inl rfl
        · exact .inr rfl
    rcases hi with hi | hi
    · rw [hi]
      simp only [wordsOf, addI]
      rw [if_neg (by omega), if_neg (by omega), if_pos trivial, ith_set_off _ _ _ _ (by omega)]
    · simp [wordsOf, hi]

/-- The first process beside others, and alone. -/
def Beside (s s' : List Int × List Pc) : Prop :=
  s.1.length = 64 ∧ s'.1.length = 64 ∧ ith s.1 1 = ith s'.1 1 ∧ (∃ p, s.2[0]? = some p ∧ s'.2 = [p] ∧ p.May ∧ ∀ x ∈ p.prog, x.i = 1) ∧ ∀ i q, 0 < i → s.2[i]? = some q → ∃ a n, q.prog = (addsP a n).prog ∧ 2 ≤ a
theorem beside_zero {s s' : List Int × List Pc} (h : Beside s s') : Beside (pick s 0) (pick s' 0) := by
  obtain ⟨h1, h2, h3, ⟨p, hp, hs, hm, hx⟩, h5⟩ := h
  have hi : p.ins.i = 1 := by
    obtain ⟨i, _, _, hg, _⟩ := ins_of hm
    exact hx _ (List.mem_of_getElem? hg)
  have e1 : pick s 0 = ((stp s.1 p).1, s.2.set 0 (stp s.1 p).2) := pick_at s 0 p hp
  have e2 : pick s' 0 = ((stp s'.1 p).1, s'.2.set 0 (stp s'.1 p).2) := pick_at s' 0 p (by rw [hs]; rfl)
  obtain ⟨l1, l2⟩ := stp_local h3 h1 h2 hi
  rw [e1, e2]
  refine ⟨by rw [stp_words]; exact h1, by rw [stp_words]; exact h2, l2, ⟨(stp s.1 p).2, ?_, ?_, stp_may hm, ?_⟩, fun i q hi hq => ?_⟩
  · exact List.getElem?_set_self (List.getElem?_eq_some_iff.1 hp).1
  · rw [hs, l1]
    rfl
  · rw [stp_prog]
    exact hx
  · dsimp only at hq
    rw [List.getElem?_set_ne (by omega)] at hq
    exact h5 i q hi hq
theorem beside_other {s s' : List Int × List Pc} (h : Beside s s') {x : Int} (hx : x ≠ 0) : Beside (pick s x) s' := by
  obtain ⟨h1, h2, h3, ⟨p, hp, hs, hm, hall⟩, h5⟩ := h
  unfold pick
  split
  · split
    · rename_i h0 q hq
      have hi : 0 < x.toNat := by omega
      obtain ⟨a, n, hq1, ha⟩ := h5 x.toNat q hi hq
      refine ⟨by rw [stp_words]; exact h1, h2, by dsimp only; rw [stp_other hq1 ha]; exact h3, ⟨p, ?_, hs, hm, hall⟩, fun i r hi' hr => ?_⟩
      · dsimp only
        rw [List.getElem?_set_ne (by omega)]
        exact hp
      · dsimp only at hr
        by_cases e : x.toNat = i
        · subst e
          rw [List.getElem?_set_self (List.getElem?_eq_some_iff.1 hq).1] at hr
          obtain rfl := Option.some.inj hr
          exact ⟨a, n, by rw [stp_prog]; exact hq1, ha⟩
        · rw [List.getElem?_set_ne e] at hr
          exact h5 i r hi' hr
    · exact ⟨h1, h2, h3, ⟨p, hp, hs, hm, hall⟩, h5⟩
  · exact ⟨h1, h2, h3, ⟨p, hp, hs, hm, hall⟩, h5⟩
theorem beside_runs (l : List Int) : ∀ {s s' : List Int × List Pc}, Beside s s' → Beside (runs s l) (runs s' (List.replicate (l.count 0) 0)) := by
  induction l with
  | nil => intro s s' h; exact h
  | cons x l ih =>
    intro s s' h
    by_cases hx : x = 0
    · subst hx
      rw [List.count_cons_self, List.replicate_succ]
      exact ih (beside_zero h)
    · rw [List.count_cons_of_ne hx]
      exact ih (beside_other h hx)

/-- A process that swaps word 5 from 0 to 1, once. -/
def lockP : Pc := ⟨[⟨3, 0, 5, 0, 0⟩, endI], 0, fun j => if j = 0 then 1 else 0, false, 0⟩
theorem lockP_may : lockP.May := by
  refine ⟨by simp [lockP], by simp [lockP], by simp [lockP], fun x hx => ?_⟩
  simp [lockP] at hx
  rcases hx with rfl | rfl
  · exact ⟨⟨by simp, by simp⟩, ⟨by simp, by simp⟩, ⟨by simp, by simp⟩, by simp, by simp⟩
  · exact ⟨⟨by simp, by simp⟩, ⟨by simp, by simp⟩, ⟨by simp, by simp⟩, by simp, by simp⟩
/-- A process that swapped, or failed to. -/
def Went (p : Pc) (got : Bool) : Prop := p.prog = lockP.prog ∧ 0 < p.took ∧ p.at_ = 1 ∧ (p.done = true ∨ p.took = 1) ∧ p.rs 0 = if got then 1 else 0
/-- All of N processes, behind picks of which that one was the first. -/
def Locks (N : Nat) (first : Option Nat) (s : List Int × List Pc) : Prop :=
  s.1.length = 64 ∧ s.2.length = N ∧ ith s.1 5 = (if first.isSome then 1 else 0) ∧ (∀ f, first = some f → f < N) ∧
    ∀ i, i < N → ∃ p, s.2[i]? = some p ∧ ((p = lockP ∧ first ≠ some i) ∨ (first.isSome ∧ Went p (decide (first = some i))))
theorem locks_zero (N : Nat) : Locks N none (List.replicate 64 0, List.replicate N lockP) :=
  ⟨by simp, by simp, by simp only [ith, List.getD_eq_getElem?_getD, List.getElem?_replicate]; rfl, by simp, fun i hi => ⟨lockP, by simp [List.getElem?_replicate, hi], .inl ⟨rfl, by simp⟩⟩⟩
theorem went_step {p : Pc} {g : Bool} (h : Went p g) (ws : List Int) : Went (stp ws p).2 g ∧ (stp ws p).1 = ws := by
  obtain ⟨h1, h2, h3, h4, h5⟩ := h
  by_cases hd : p.done = true ∨ p.took = 1099511627776
  · have e : stp ws p = (ws, p) := by unfold stp; rw [if_pos hd]
    rw [e]
    exact ⟨⟨h1, h2, h3, h4, h5⟩, rfl⟩
  · have ht : p.took = 1 := by
      rcases h4 with h | h
      · exact absurd (.inl h) hd
      · exact h
    have hi : p.ins = endI := by
      unfold Pc.ins
      rw [h3, h1]
      rfl
    rw [stp_on hd, hi]
    have hnx : nextOf endI p.rs p.at_ p.prog.length = (p.prog.length : Int) := by simp [nextOf, endI]
    rw [hnx]
    refine ⟨⟨h1, ?_, ?_, ?_, ?_⟩, by simp [wordsOf, endI]⟩
    · simp only [Pc.on]
      omega
    · simp only [Pc.on, if_true]
      exact h3
    · left
      simp [Pc.on]
    · simp only [Pc.on]
      rw [show regOf endI p.rs ws = p.rs 0 by simp [regOf, endI], show (endI.r).toNat = 0 by rfl, upd_self]
      exact h5
theorem lock_step (ws : List Int) : (stp ws lockP).1 = (if ith ws 5 = 0 then ws.set 5 1 else ws) ∧ Went (stp ws lockP).2 (decide (ith ws 5 = 0)) := by
  have hi : lockP.ins = ⟨3, 0, 5, 0, 0⟩ := rfl
  have hd : ¬ (lockP.done = true ∨ lockP.took = 1099511627776) := by simp [lockP]
  rw [stp_on hd, hi]
  have hnx : nextOf ⟨3, 0, 5, 0, 0⟩ lockP.rs lockP.at_ lockP.prog.length = 1 := by simp [nextOf, lockP]
  rw [hnx]
  refine ⟨?_, rfl, ?_, ?_, ?_, ?_⟩
  · simp only [wordsOf, lockP]
    simp
  · simp [Pc.on, lockP]
  · simp [Pc.on, lockP]
  · right
    simp [Pc.on, lockP]
  · simp only [Pc.on]
    rw [show ((0 : Int).toNat) = 0 by rfl, upd_eq]
    by_cases h : ith ws 5 = 0 <;> simp [regOf, h]
/-- The first pick of a process. -/
def firstOf (N : Nat) (first : Option Nat) (x : Int) : Option Nat := if first.isNone ∧ 0 ≤ x ∧ x < N then some x.toNat else first
theorem locks_pick {N : Nat} {first : Option Nat} {s : List Int × List Pc} (h : Locks N first s) (x : Int) : Locks N (firstOf N first x) (pick s x) := by
  obtain ⟨h1, h2, h3, h4, h5⟩ := h
  by_cases hx : 0 ≤ x ∧ x < N
  · obtain ⟨i, rfl⟩ := Int.eq_ofNat_of_zero_le hx.1
    have hi : i < N := by omega
    obtain ⟨p, hp, hc⟩ := h5 i hi
    rw [pick_at s i p hp]
    rcases hc with ⟨rfl, hne⟩ | ⟨hs, hw⟩
    · obtain ⟨s1, s2⟩ := lock_step s.1
      cases first with
      | none =>
        have hz : ith s.1 5 = 0 := h3
        have ef : firstOf N none (i : Int) = some i := by simp [firstOf, hi]
        rw [ef]
        rw [if_pos hz] at s1
        simp only [hz, decide_true] at s2
        refine ⟨by rw [stp_words]; exact h1, by simpa using h2, ?_, ?_, fun k hk => ?_⟩
        · dsimp only
          rw [s1, ith_set_at _ _ _ (by omega)]
          rfl
        · intro f hf
          obtain rfl := Option.some.inj hf
          exact hi
        · by_cases e : i = k
          · subst e
            exact ⟨_, List.getElem?_set_self (by omega), .inr ⟨rfl, by simpa using s2⟩⟩
          · obtain ⟨q, hq, hc⟩ := h5 k hk
            refine ⟨q, by rw [List.getElem?_set_ne e]; exact hq, ?_⟩
            rcases hc with ⟨h', _⟩ | ⟨h', _⟩
            · exact .inl ⟨h', fun e' => e (Option.some.inj e')⟩
            · cases h'
      | some f =>
        have hz : ith s.1 5 = 1 := h3
        have ef : firstOf N (some f) (i : Int) = some f := by simp [firstOf]
        rw [ef]
        rw [if_neg (by omega)] at s1
        simp only [hz] at s2
        refine ⟨by rw [stp_words]; exact h1, by simpa using h2, by dsimp only; rw [s1]; exact h3, h4, fun k hk => ?_⟩
        by_cases e : i = k
        · subst e
          refine ⟨_, List.getElem?_set_self (by omega), .inr ⟨rfl, ?_⟩⟩
          have : decide (some f = some i) = false := by simpa using hne
          rw [this]
          simpa using s2
        · obtain ⟨q, hq, hc⟩ := h5 k hk
          exact ⟨q, by rw [List.getElem?_set_ne e]; exact hq, hc⟩
    · obtain ⟨w1, w2⟩ := went_step hw s.1
      have ef : firstOf N first (i : Int) = first := by
        cases first with
        | none => cases hs
        | some f => simp [firstOf]
      rw [ef]
      refine ⟨by rw [stp_words]; exact h1, by simpa using h2, by dsimp only; rw [w2]; exact h3, h4, fun k hk => ?_⟩
      by_cases e : i = k
      · subst e
        exact ⟨_, List.getElem?_set_self (by omega), .inr ⟨hs, w1⟩⟩
      · obtain ⟨q, hq, hc⟩ := h5 k hk
        exact ⟨q, by rw [List.getElem?_set_ne e]; exact hq, hc⟩
  · have e1 : pick s x = s := by
      unfold pick
      split
      · rw [List.getElem?_eq_none (by omega)]
      · rfl
    have ef : firstOf N first x = first := by
      unfold firstOf
      rw [if_neg (fun h' => hx h'.2)]
    rw [e1, ef]
    exact ⟨h1, h2, h3, h4, h5⟩
theorem locks_runs (N : Nat) (l : List Int) : ∀ {first : Option Nat} {s : List Int × List Pc}, Locks N first s → Locks N (l.foldl (firstOf N) first) (runs s l) := by
  induction l with
  | nil => intro first s h; exact h
  | cons x l ih => intro first s h; exact ih (locks_pick h x)

end Go.Proofs.Yteiabmbfjfaboaa
