/-
  What is reached, in the order in which it is met.
-/
import Derived.Test.YtmfpgbiicncpcaaGet
import Derived.Test.YtmfpgbiicncpcaaFree
set_option linter.unusedVariables false
set_option linter.unusedSimpArgs false
namespace Go.Proofs.Ytmfpgbiicncpcaa
open Go.RowKit

/-- The place and the node of a reference. -/
def gotF (ns : List Nd) (r : Int) : Option (Nat × Nd) :=
  if Node r then (match ns[(r % 65536 - 1).toNat]? with | some x => if x.k ≠ 0 ∧ x.g = r / 65536 then some ((r % 65536 - 1).toNat, x) else none | none => none) else none
theorem gotF_some {ns : List Nd} {r : Int} {p : Nat} {x : Nd} : gotF ns r = some (p, x) ↔ Got ns r p x := by
  unfold gotF
  constructor
  · intro h
    split at h
    · rename_i hn
      split at h
      · rename_i y hy
        split at h
        · rename_i hk
          injection h with h
          injection h with h1 h2
          subst h1 h2
          exact ⟨hn, by have := hn.1; omega, hy, hk.1, hk.2⟩
        · cases h
      · cases h
    · cases h
  · rintro ⟨h1, h2, h3, h4, h5⟩
    have e : (r % 65536 - 1).toNat = p := by omega
    rw [if_pos h1, e, h3]
    dsimp only
    rw [if_pos ⟨h4, h5⟩]
theorem gotF_none {ns : List Nd} {r : Int} : gotF ns r = none ↔ Gone ns r := by
  constructor
  · intro h p x hg
    rw [gotF_some.2 hg] at h
    cases h
  · intro h
    cases hq : gotF ns r with
    | none => rfl
    | some q => exact absurd (gotF_some.1 hq) (h q.1 q.2)

def visit (ns : List Nd) : Nat → List Int → Int → List Int
  | 0, met, _ => met
  | d + 1, met, r => match gotF ns r with
    | none => met
    | some (p, x) => if (p : Int) ∈ met then met else x.kids.foldl (visit ns d) (met ++ [(p : Int)])
def visits (ns : List Nd) (d : Nat) (met refs : List Int) : List Int := refs.foldl (visit ns d) met
theorem visits_nil (ns : List Nd) (d : Nat) (met : List Int) : visits ns d met [] = met := rfl
theorem visits_snoc (ns : List Nd) (d : Nat) (met l : List Int) (r : Int) : visits ns d met (l ++ [r]) = visit ns d (visits ns d met l) r := by simp [visits]
theorem visit_gone {ns : List Nd} {r : Int} (d : Nat) (met : List Int) (h : gotF ns r = none) : visit ns (d + 1) met r = met := by simp [visit, h]
theorem visit_met {ns : List Nd} {r : Int} {p : Nat} {x : Nd} (d : Nat) (met : List Int) (h : gotF ns r = some (p, x)) (hm : (p : Int) ∈ met) : visit ns (d + 1) met r = met := by simp [visit, h, hm]
theorem visit_new {ns : List Nd} {r : Int} {p : Nat} {x : Nd} (d : Nat) (met : List Int) (h : gotF ns r = some (p, x)) (hm : (p : Int) ∉ met) : visit ns (d + 1) met r = visits ns d (met ++ [(p : Int)]) x.kids := by simp [visit, h, hm, visits]

/-- Places that were met: each once, of nodes that are not free. -/
structure Met (ns : List Nd) (met : List Int) : Prop where
  nodup : met.Nodup
  made : ∀ y ∈ met, ∃ (p : Nat) (x : Nd), y = p ∧ ns[p]? = some x ∧ x.k ≠ 0
theorem Met.nil (ns : List Nd) : Met ns [] := ⟨by simp, by simp⟩
theorem Met.snoc {ns : List Nd} {met : List Int} {r : Int} {p : Nat} {x : Nd} (h : Met ns met) (hg : gotF ns r = some (p, x)) (hm : (p : Int) ∉ met) : Met ns (met ++ [(p : Int)]) := by
  have hg' := gotF_some.1 hg
  refine ⟨List.nodup_append.2 ⟨h.nodup, by simp, fun a ha b hb => ?_⟩, fun y hy => ?_⟩
  · simp at hb
    subst hb
    exact fun e => hm (e ▸ ha)
  · rcases List.mem_append.1 hy with hy | hy
    · exact h.made y hy
    · simp at hy
      exact ⟨p, x, hy, hg'.at_, hg'.kind⟩
theorem Met.len {ns : List Nd} {met : List Int} (h : Met ns met) : met.length ≤ ns.length := by
  have h2 : met ⊆ (List.range ns.length).map Int.ofNat := fun y hy => by
    obtain ⟨p, x, rfl, hx, _⟩ := h.made y hy
    exact List.mem_map.2 ⟨p, by simpa using (List.getElem?_eq_some_iff.1 hx).1, rfl⟩
  have := h.nodup.length_le_of_subset h2
  simpa using this

/-- What a visit keeps: what was met stays in front; and each that may be met stays so. -/
theorem visit_pre (ns : List Nd) (d : Nat) : ∀ (met : List Int) (r : Int), ∃ l, visit ns d met r = met ++ l ∧ (Met ns met → Met ns (met ++ l)) := by
  induction d with
  | zero => intro met r; exact ⟨[], by simp [visit], by simp⟩
  | succ d ih =>
    intro met r
    have hs : ∀ (refs met : List Int), ∃ l, visits ns d met refs = met ++ l ∧ (Met ns met → Met ns (met ++ l)) := by
      intro refs
      induction refs with
      | nil => intro met; exact ⟨[], by simp [visits], by simp⟩
      | cons q refs ihr =>
        intro met
        obtain ⟨l1, e1, m1⟩ := ih met q
        obtain ⟨l2, e2, m2⟩ := ihr (met ++ l1)
        refine ⟨l1 ++ l2, ?_, fun hm => ?_⟩
        · show visits ns d (visit ns d met q) refs = _
          rw [e1, e2, List.append_assoc]
        · rw [← List.append_assoc]
          exact m2 (m1 hm)
    cases hg : gotF ns r with
    | none => exact ⟨[], by rw [visit_gone d met hg]; simp, by simp⟩
    | some q =>
      obtain ⟨p, x⟩ := q
      by_cases hm : (p : Int) ∈ met
      · exact ⟨[], by rw [visit_met d met hg hm]; simp, by simp⟩
      · obtain ⟨l, e, m⟩ := hs x.kids (met ++ [(p : Int)])
        refine ⟨[(p : Int)] ++ l, by rw [visit_new d met hg hm, e, List.append_assoc], fun h => ?_⟩
        rw [← List.append_assoc]
        exact m (h.snoc hg hm)
theorem visits_pre (ns : List Nd) (d : Nat) (refs : List Int) : ∀ (met : List Int), ∃ l, visits ns d met refs = met ++ l ∧ (Met ns met → Met ns (met ++ l)) := by
  induction refs with
  | nil => intro met; exact ⟨[], by simp [visits], by simp⟩
  | cons q refs ihr =>
    intro met
    obtain ⟨l1, e1, m1⟩ := visit_pre ns d met q
    obtain ⟨l2, e2, m2⟩ := ihr (met ++ l1)
    refine ⟨l1 ++ l2, ?_, fun hm => ?_⟩
    · show visits ns d (visit ns d met q) refs = _
      rw [e1, e2, List.append_assoc]
    · rw [← List.append_assoc]
      exact m2 (m1 hm)
theorem visits_met {ns : List Nd} {d : Nat} {refs met : List Int} (h : Met ns met) : Met ns (visits ns d met refs) := by
  obtain ⟨l, e, m⟩ := visits_pre ns d refs met
  rw [e]
  exact m h
theorem visits_len (ns : List Nd) (d : Nat) (refs met : List Int) : met.length ≤ (visits ns d met refs).length := by
  obtain ⟨l, e, _⟩ := visits_pre ns d refs met
  rw [e]
  simp

end Go.Proofs.Ytmfpgbiicncpcaa
