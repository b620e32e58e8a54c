/-
  What a step answers, told by the rows between two keys.
-/
import Derived.Test.YthgaogbpkedjcaaSpAlive
import Derived.Test.YthgaogbpkedjcaaSpRow
set_option linter.unusedVariables false
set_option linter.unusedSimpArgs false
namespace Go.Proofs.Ythgaogbpkedjcaa
open Go.RowKit

theorem w64r (z : Int) (h1 : -9223372036854775808 ≤ z) (h2 : z ≤ 9223372036854775807) : wrap64 z = z := by unfold wrap64; omega
theorem wfi {z : Int} (h : (Lit.int .i64 z).wf = true) : -9223372036854775808 ≤ z ∧ z ≤ 9223372036854775807 := by
  simp only [Lit.wf, IntKind.min, IntKind.max, IntKind.signed, IntKind.bits, Bool.and_eq_true, decide_eq_true_eq, if_true] at h
  omega
theorem inn_ge {l : Row} (hs : Srt l) (a b : Int) : inn l a b = inn (ge l a) a b := by
  conv => lhs; rw [← lo_ge hs a]
  rw [inn_app, inn_low (fun x hx => (mem_lo.1 hx).2), List.nil_append]
theorem at_ge {l : Row} (hs : Srt l) (a : Int) : l[(lo l a).length]? = (ge l a)[0]? := by
  conv => lhs; rw [← lo_ge hs a]
  rw [List.getElem?_append_right (by rw [lo_ge hs a]; exact Nat.le_refl _)]
  congr 1
  rw [lo_ge hs a]; omega
/-- The first one between two keys, or that there is none. -/
theorem inn_first {l : Row} (hs : Srt l) (a b : Int) : (inn l a b = [] ∧ ∀ x, l[(lo l a).length]? = some x → b < x.1) ∨ (∃ x r, l[(lo l a).length]? = some x ∧ inn l a b = x :: r ∧ a ≤ x.1 ∧ x.1 ≤ b ∧ (x.1 = b → r = []) ∧ (x.1 < b → r = inn l (x.1 + 1) b)) := by
  rw [at_ge hs a, inn_ge hs a b]
  have hg : Srt (ge l a) := hs.filter _
  have hga : ∀ x ∈ ge l a, a ≤ x.1 := fun x hx => (mem_ge.1 hx).2
  have hin : ∀ c, a ≤ c → inn l c b = inn (ge l a) c b := fun c hc => by
    conv => lhs; rw [← lo_ge hs a]
    rw [inn_app, inn_low (fun x hx => by have := (mem_lo.1 hx).2; omega), List.nil_append]
  generalize hG : ge l a = g at *
  cases g with
  | nil => exact .inl ⟨rfl, fun x hx => by simp at hx⟩
  | cons x r =>
    have hx := hga x (List.mem_cons_self)
    have hr : ∀ y ∈ r, x.1 < y.1 := (List.pairwise_cons.1 hg).1
    by_cases hb : b < x.1
    · refine .inl ⟨inn_high fun y hy => ?_, fun y hy => ?_⟩
      · rcases List.mem_cons.1 hy with rfl | hy
        · exact hb
        · have := hr y hy; omega
      · simp at hy
        subst hy
        exact hb
    · refine .inr ⟨x, inn r a b, rfl, ?_, hx, by omega, fun e => inn_high fun y hy => ?_, fun e => ?_⟩
      · obtain ⟨x1, x2⟩ := x
        rw [inn_cons, if_pos ⟨hx, by simp only at hb ⊢; omega⟩]; rfl
      · have := hr y hy; omega
      · rw [hin _ (by omega)]
        obtain ⟨x1, x2⟩ := x
        simp only at *
        rw [inn_cons, if_neg (by omega), List.nil_append]
        unfold inn
        apply List.filter_congr
        intro y hy
        have h1 := hr y hy
        show (decide (a ≤ y.1) && decide (y.1 ≤ b)) = (decide (x1 + 1 ≤ y.1) && decide (y.1 ≤ b))
        rw [decide_eq_decide.2 (⟨fun _ => by omega, fun _ => by omega⟩ : a ≤ y.1 ↔ x1 + 1 ≤ y.1)]

/-- What a step answers. -/
theorem stepO_inn {l : Row} (hs : Srt l) {z a b : Int} {w : World} {e : Ending} {w' : World} (h : StepO l[(lo l a).length]? z a b w e w') :
    (inn l a b = [] ∧ StepA z a b true 0 0 0 w e w') ∨ (∃ x r, inn l a b = x :: r ∧ x.1 = b ∧ r = [] ∧ StepA z a b true x.1 x.2 0 w e w') ∨ (∃ x r, inn l a b = x :: r ∧ x.1 < b ∧ a ≤ x.1 ∧ r = inn l (x.1 + 1) b ∧ StepA z (x.1 + 1) b false x.1 x.2 0 w e w') := by
  rcases inn_first hs a b with ⟨h1, h2⟩ | ⟨x, r, h1, h2, h3, h4, h5, h6⟩
  · refine .inl ⟨h1, ?_⟩
    cases ho : l[(lo l a).length]? with
    | none => rw [ho] at h; exact h
    | some x =>
      rw [ho] at h
      have := h2 x ho
      simp only [StepO] at h
      rw [if_pos this] at h
      exact h
  · rw [h1] at h
    simp only [StepO] at h
    rw [if_neg (by omega)] at h
    by_cases hb : x.1 = b
    · rw [if_pos hb] at h
      exact .inr (.inl ⟨x, r, h2, hb, h5 hb, h⟩)
    · rw [if_neg hb] at h
      exact .inr (.inr ⟨x, r, h2, by omega, h3, h6 (by omega), h⟩)

/-- What a step's answer says of the keys between. -/
def NextI (l : Row) (a b a2 : Int) (q : Bool) (x y : Int) : Prop := (inn l a b = [] ∧ q = true ∧ x = 0 ∧ y = 0) ∨ (∃ r, inn l a b = (x, y) :: r ∧ (q = true ∨ (q = false ∧ a2 = x + 1 ∧ a ≤ x ∧ x < b)))
theorem step_any {l : Row} (hs : Srt l) {z a b : Int} {w : World} {e : Ending} {w' : World} (h : StepO l[(lo l a).length]? z a b w e w') : ∃ a2 q x y, StepA z a2 b q x y 0 w e w' ∧ NextI l a b a2 q x y := by
  rcases stepO_inn hs h with ⟨h1, h2⟩ | ⟨x, r, h1, h2, h3, h4⟩ | ⟨x, r, h1, h2, h3, h4, h5⟩
  · exact ⟨_, _, _, _, h2, .inl ⟨h1, rfl, rfl, rfl⟩⟩
  · exact ⟨_, _, _, _, h4, .inr ⟨r, h1, .inl rfl⟩⟩
  · exact ⟨_, _, _, _, h5, .inr ⟨r, h1, .inr ⟨rfl, rfl, h3, h2⟩⟩⟩

end Go.Proofs.Ythgaogbpkedjcaa
