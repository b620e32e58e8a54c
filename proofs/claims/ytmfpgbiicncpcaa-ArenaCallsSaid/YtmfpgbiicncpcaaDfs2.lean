/-
  What is reached does not hang on the order in which references are told.
-/
import Derived.Test.YtmfpgbiicncpcaaReach
set_option linter.unusedVariables false
set_option linter.unusedSimpArgs false
namespace Go.Proofs.Ytmfpgbiicncpcaa
open Go.RowKit

/-- Reached from references. -/
inductive From (ns : List Nd) (refs : List Int) : Int → Prop
  | root {r : Int} {p : Nat} {x : Nd} : r ∈ refs → gotF ns r = some (p, x) → From ns refs p
  | step {p : Nat} {x : Nd} {r : Int} {q : Nat} {y : Nd} : From ns refs p → ns[p]? = some x → r ∈ x.kids → gotF ns r = some (q, y) → From ns refs q

theorem From.mono {ns : List Nd} {l l' : List Int} (h : ∀ r ∈ l, r ∈ l') {y : Int} (hy : From ns l y) : From ns l' y := by
  induction hy with
  | root hr hg => exact .root (h _ hr) hg
  | step _ hx hr hg ih => exact .step ih hx hr hg

/-- All whose kids are met too. -/
def Shut (ns : List Nd) (met met' : List Int) : Prop := ∀ (p : Nat) (x : Nd), (p : Int) ∈ met' → (p : Int) ∉ met → ns[p]? = some x → ∀ r ∈ x.kids, ∀ (q : Nat) (y : Nd), gotF ns r = some (q, y) → (q : Int) ∈ met'

theorem visit_sub (ns : List Nd) (d : Nat) (met : List Int) (r : Int) : ∀ y ∈ met, y ∈ visit ns d met r := fun y hy => by
  obtain ⟨l, e, _⟩ := visit_pre ns d met r
  rw [e]
  exact List.mem_append.2 (.inl hy)
theorem visits_sub (ns : List Nd) (d : Nat) (refs met : List Int) : ∀ y ∈ met, y ∈ visits ns d met refs := fun y hy => by
  obtain ⟨l, e, _⟩ := visits_pre ns d refs met
  rw [e]
  exact List.mem_append.2 (.inl hy)

theorem visit_full {ns : List Nd} (d : Nat) : ∀ (met : List Int) (r : Int), Met ns met → ns.length < d + met.length →
    (∀ (p : Nat) (x : Nd), gotF ns r = some (p, x) → (p : Int) ∈ visit ns d met r) ∧ Shut ns met (visit ns d met r) := by
  induction d with
  | zero => intro met r hM hl; have := hM.len; omega
  | succ d ih =>
    intro met r hM hl
    have hs : ∀ (refs met : List Int), Met ns met → ns.length < d + met.length → (∀ r ∈ refs, ∀ (p : Nat) (x : Nd), gotF ns r = some (p, x) → (p : Int) ∈ visits ns d met refs) ∧ Shut ns met (visits ns d met refs) := by
      intro refs
      induction refs with
      | nil => intro met _ _; exact ⟨by simp, fun p x h1 h2 => absurd h1 h2⟩
      | cons q refs ihr =>
        intro met hM hl
        obtain ⟨l1, e1, m1⟩ := visit_pre ns d met q
        obtain ⟨a1, b1⟩ := ih met q hM hl
        have hM1 : Met ns (visit ns d met q) := by rw [e1]; exact m1 hM
        have hl1 : ns.length < d + (visit ns d met q).length := by rw [e1, List.length_append]; omega
        obtain ⟨a2, b2⟩ := ihr (visit ns d met q) hM1 hl1
        have e : visits ns d met (q :: refs) = visits ns d (visit ns d met q) refs := rfl
        rw [e]
        refine ⟨fun r hr p x hg => ?_, fun p x h1 h2 hx r hr q' y hg => ?_⟩
        · rcases List.mem_cons.1 hr with rfl | hr
          · exact visits_sub ns d refs _ _ (a1 p x hg)
          · exact a2 r hr p x hg
        · by_cases h3 : (p : Int) ∈ visit ns d met q
          · exact visits_sub ns d refs _ _ (b1 p x h3 h2 hx r hr q' y hg)
          · exact b2 p x h1 h3 hx r hr q' y hg
    cases hg : gotF ns r with
    | none =>
      rw [visit_gone d met hg]
      exact ⟨(fun p x h => by cases h), fun p x h1 h2 => absurd h1 h2⟩
    | some px =>
      obtain ⟨p, x⟩ := px
      by_cases hm : (p : Int) ∈ met
      · rw [visit_met d met hg hm]
        exact ⟨(fun p' x' h => by injection h with h; injection h with h1 h2; subst h1; exact hm), fun p x h1 h2 => absurd h1 h2⟩
      · rw [visit_new d met hg hm]
        obtain ⟨a, b⟩ := hs x.kids (met ++ [(p : Int)]) (hM.snoc hg hm) (by simp; omega)
        refine ⟨fun p' x' h => ?_, fun p' x' h1 h2 hx r' hr q y hq => ?_⟩
        · injection h with h
          injection h with h1 h2
          subst h1
          exact visits_sub ns d x.kids _ _ (by simp)
        · by_cases e : p' = p
          · subst e
            have hx2 := (gotF_some.1 hg).at_
            rw [hx] at hx2
            obtain rfl := Option.some.inj hx2
            exact a r' hr q y hq
          · exact b p' x' h1 (by simp only [List.mem_append, List.mem_singleton]; rintro (h | h); exact h2 h; omega) hx r' hr q y hq
theorem visits_full {ns : List Nd} (d : Nat) (refs : List Int) : ∀ (met : List Int), Met ns met → ns.length < d + met.length →
    (∀ r ∈ refs, ∀ (p : Nat) (x : Nd), gotF ns r = some (p, x) → (p : Int) ∈ visits ns d met refs) ∧ Shut ns met (visits ns d met refs) := by
  induction refs with
  | nil => intro met _ _; exact ⟨by simp, fun p x h1 h2 => absurd h1 h2⟩
  | cons q refs ihr =>
    intro met hM hl
    obtain ⟨l1, e1, m1⟩ := visit_pre ns d met q
    obtain ⟨a1, b1⟩ := visit_full d met q hM hl
    have hM1 : Met ns (visit ns d met q) := by rw [e1]; exact m1 hM
    have hl1 : ns.length < d + (visit ns d met q).length := by rw [e1, List.length_append]; omega
    obtain ⟨a2, b2⟩ := ihr (visit ns d met q) hM1 hl1
    have e : visits ns d met (q :: refs) = visits ns d (visit ns d met q) refs := rfl
    rw [e]
    refine ⟨fun r hr p x hg => ?_, fun p x h1 h2 hx r hr q' y hg => ?_⟩
    · rcases List.mem_cons.1 hr with rfl | hr
      · exact visits_sub ns d refs _ _ (a1 p x hg)
      · exact a2 r hr p x hg
    · by_cases h3 : (p : Int) ∈ visit ns d met q
      · exact visits_sub ns d refs _ _ (b1 p x h3 h2 hx r hr q' y hg)
      · exact b2 p x h1 h3 hx r hr q' y hg

theorem visit_from {ns : List Nd} (all : List Int) (d : Nat) : ∀ (met : List Int) (r : Int), (∀ y ∈ met, From ns all y) → (∀ (p : Nat) (x : Nd), gotF ns r = some (p, x) → From ns all p) → ∀ y ∈ visit ns d met r, From ns all y := by
  induction d with
  | zero => intro met r h _ y hy; exact h y hy
  | succ d ih =>
    intro met r h hr
    have hs : ∀ (refs met : List Int), (∀ y ∈ met, From ns all y) → (∀ r ∈ refs, ∀ (p : Nat) (x : Nd), gotF ns r = some (p, x) → From ns all p) → ∀ y ∈ visits ns d met refs, From ns all y := by
      intro refs
      induction refs with
      | nil => intro met h _ y hy; exact h y hy
      | cons q refs ihr =>
        intro met h hr
        exact ihr (visit ns d met q) (ih met q h (hr q (by simp))) (fun r hr' => hr r (by simp [hr']))
    cases hg : gotF ns r with
    | none => rw [visit_gone d met hg]; exact h
    | some px =>
      obtain ⟨p, x⟩ := px
      by_cases hm : (p : Int) ∈ met
      · rw [visit_met d met hg hm]; exact h
      · rw [visit_new d met hg hm]
        have hp := hr p x hg
        refine hs x.kids _ (fun y hy => ?_) fun r' hr' q y hq => .step hp (gotF_some.1 hg).at_ hr' hq
        rcases List.mem_append.1 hy with hy | hy
        · exact h y hy
        · simp at hy
          subst hy
          exact hp
theorem visits_from {ns : List Nd} (all : List Int) (d : Nat) (refs : List Int) : ∀ (met : List Int), (∀ y ∈ met, From ns all y) → (∀ r ∈ refs, ∀ (p : Nat) (x : Nd), gotF ns r = some (p, x) → From ns all p) → ∀ y ∈ visits ns d met refs, From ns all y := by
  induction refs with
  | nil => intro met h _ y hy; exact h y hy
  | cons q refs ihr =>
    intro met h hr
    exact ihr (visit ns d met q) (visit_from all d met q h (hr q (by simp))) (fun r hr' => hr r (by simp [hr']))

theorem reached_iff (ns : List Nd) (refs : List Int) (y : Int) : y ∈ reached ns refs ↔ From ns refs y := by
  have hf := visits_full (ns := ns) (ns.length + 1) refs [] (Met.nil ns) (by simp)
  constructor
  · intro h
    exact visits_from refs (ns.length + 1) refs [] (by simp) (fun r hr p x hg => .root hr hg) y h
  · intro h
    induction h with
    | root hr hg => exact hf.1 _ hr _ _ hg
    | step _ hx hr hg ih => exact hf.2 _ _ ih (by simp) hx _ hr _ _ hg
theorem reached_met (ns : List Nd) (refs : List Int) : Met ns (reached ns refs) := visits_met (Met.nil ns)
theorem reached_swap (ns : List Nd) (x y : Int) : (reached ns [x, y]).length = (reached ns [y, x]).length ∧ ∀ z ∈ reached ns [y, x], z ∈ reached ns [x, y] := by
  have h : ∀ (x y z : Int), z ∈ reached ns [x, y] → z ∈ reached ns [y, x] := fun x y z hz => by
    rw [reached_iff] at hz ⊢
    exact hz.mono (by intro r hr; simp at hr ⊢; exact hr.symm)
  refine ⟨?_, h y x⟩
  have h1 := (reached_met ns [x, y]).nodup.length_le_of_subset (h x y)
  have h2 := (reached_met ns [y, x]).nodup.length_le_of_subset (h y x)
  omega
theorem reached_front (ns : List Nd) (x y : Int) : ∃ l, reached ns [x, y] = reached ns [x] ++ l := by
  obtain ⟨l, e, _⟩ := visit_pre ns (ns.length + 1) (visit ns (ns.length + 1) [] x) y
  exact ⟨l, e⟩

end Go.Proofs.Ytmfpgbiicncpcaa
