/-
  A region that draws its order, walked by hand: S holds between its operations until a certain one (a call) has come up; behind that nothing is asked.
-/
import Derived.Test.YtfoifcbaadnigaaGF
set_option linter.unusedVariables false
set_option linter.unusedSimpArgs false
namespace Go.Proofs.Ytfoifcbaadnigaa
open Go.RowKit

section
variable {P : Program} {ops : Array Oper} {md : Region.Mode} {S : World → Prop} {Q : Exit → Act → World → Prop}

/-- Any world. -/
def AnyW (_ : World) : Prop := True
/-- Whatever comes up next; S behind each, until number n has come up. -/
def AnyT (P : Program) (md : Region.Mode) (ops : Array Oper) (Q : Exit → Act → World → Prop) (S : World → Prop) (n : Nat) : Nat → Array Bool → Act → World → Prop
  | 0, li, a, w => Region.ready md ops li = [] ∧ Q .normal a w
  | f + 1, li, a, w => (Region.ready md ops li = [] → Q .normal a w) ∧ (∀ i ∈ Region.ready md ops li, i ≠ n → wpOp P ops Q i (fun a' w' => S w' ∧ AnyT P md ops Q S n f (li.setIfInBounds i true) a' w') a w) ∧
      (n ∈ Region.ready md ops li → wpOp P ops Q n (fun a' w' => wpAnyH P md ops Q AnyW f (li.setIfInBounds n true) a' w') a w)
theorem AnyT.any {n : Nat} : ∀ (f : Nat) (li : Array Bool) (a : Act) (w : World), AnyT P md ops Q S n f li a w → wpAny P md ops Q f li a w
  | 0, _, _, _, h => h
  | f + 1, _, _, _, h => ⟨h.1, fun i hi => by
    by_cases e : i = n
    · subst e
      exact wpOp_mono (fun a' w' h' => wpAny_of_held f _ a' w' h') (h.2.2 hi)
    · exact wpOp_mono (fun a' w' h' => AnyT.any f _ a' w' h'.2) (h.2.1 i hi e)⟩
theorem ready_off {li : Array Bool} {i j : Nat} {x : Oper} (hi : i ∈ Region.ready md ops li) (hj : j ∈ Region.ready md ops li) (hx : ops[j]? = some x) : ∀ d ∈ x.after, Region.binds md d = true → d.on ≠ i := by
  obtain ⟨_, y, hy, hall⟩ := mem_ready.1 hj
  rw [hx] at hy
  injection hy with hy
  subst hy
  intro d hd hb he
  have h1 := hall d hd hb
  rw [he, getD_both (mem_ready.1 hi).1] at h1
  cases h1
/-- Number n waits for number i. -/
def waits (md : Region.Mode) (ops : Array Oper) (n i : Nat) : Bool := match ops[n]? with
  | some x => x.after.any (fun e => Region.binds md e && e.on == i)
  | none => false
theorem waits_off {li : Array Bool} {i n : Nat} (h : waits md ops n i = true) (hi : i ∈ Region.ready md ops li) (hn : n ∈ Region.ready md ops li) : False := by
  obtain ⟨_, x, hx, _⟩ := mem_ready.1 hn
  unfold waits at h
  rw [hx] at h
  simp only [Array.any_eq_true', Bool.and_eq_true, beq_iff_eq] at h
  obtain ⟨e, he, hb, ho⟩ := h
  exact ready_off hi hn hx e he hb ho
theorem AnyT.first {n i : Nat} {o : Oper} {v : Value} (ho : ops[i]? = some o) (hin : i ≠ n) (hsel : ∀ (j : Nat) (x : Oper) cs b, ops[j]? = some x → x.op ≠ .select cs b) (hQ : ∀ c a w, Q (.panic c) (a.put o.dst v) w → Q (.panic c) a w) : ∀ (f : Nat) (li : Array Bool) (a : Act) (w : World),
      (∀ j x, ops[j]? = some x → j ≠ i → li.getD j true = false → (∀ e ∈ x.after, Region.binds md e = true → e.on ≠ i) → o.apart ops x = true) → i ∈ Region.ready md ops li → YieldsIf P ops S o v a → S w → (waits md ops n i = true ∨ YieldsIf P ops AnyW o v a) →
      AnyT P md ops Q S n f (li.setIfInBounds i true) (a.put o.dst v) w → AnyT P md ops Q S n (f + 1) li a w := by
  intro f
  induction f with
  | zero =>
    intro li a w _ hr hy hS _ H
    refine ⟨fun e => absurd hr (by rw [e]; exact List.not_mem_nil), fun j hj hjn => ?_, fun hn => ?_⟩
    · by_cases e : j = i
      · subst e; exact hy.wpOp ho hS ⟨hS, H⟩
      · have := ready_mono hj e
        rw [H.1] at this
        cases this
    · have := ready_mono hn (Ne.symm hin)
      rw [H.1] at this
      cases this
  | succ f ih =>
    intro li a w hfree hr hy hS hT H
    refine ⟨fun e => absurd hr (by rw [e]; exact List.not_mem_nil), fun j hj hjn => ?_, fun hn => ?_⟩
    · by_cases e : j = i
      · subst e; exact hy.wpOp ho hS ⟨hS, H⟩
      · obtain ⟨hju, x, hx, _⟩ := mem_ready.1 hj
        have hfree' : ∀ k y, ops[k]? = some y → k ≠ i → (li.setIfInBounds j true).getD k true = false → (∀ e ∈ y.after, Region.binds md e = true → e.on ≠ i) → o.apart ops y = true := fun k y hk hki hun hno => by
          refine hfree k y hk hki ?_ hno
          by_cases hjk : j = k
          · subst hjk; exact hju
          · rw [getD_set_ne true hjk] at hun; exact hun
        have hi' : i ∈ Region.ready md ops (li.setIfInBounds j true) := ready_mono hr (Ne.symm e)
        have hap := hfree j x hx e hju (ready_off hr hj hx)
        rcases hT with hT | hT
        · have h2 := wpOp_putIf hx hap (fun cs b => hsel i o cs b ho) (fun cs b => hsel j x cs b hx) hQ hy (H.2.1 j (ready_mono hj e) hjn)
          refine wpOp_mono (fun a' w' h3 => ⟨h3.2.1, ih _ a' w' hfree' hi' h3.1 h3.2.1 (.inl hT) ?_⟩) h2
          rw [Array.setIfInBounds_comm _ _ e]
          exact h3.2.2
        · have h2 := wpOp_putIf hx hap (fun cs b => hsel i o cs b ho) (fun cs b => hsel j x cs b hx) hQ hT (H.2.1 j (ready_mono hj e) hjn)
          refine wpOp_mono (fun a' w' h3 => ⟨h3.2.1, ih _ a' w' hfree' hi' ?_ h3.2.1 (.inr h3.1) ?_⟩) h2
          · exact h3.1.imp (fun ⟨p, q⟩ => ⟨p, fun W _ => q W trivial⟩) id
          · rw [Array.setIfInBounds_comm _ _ e]
            exact h3.2.2
    · rcases hT with hT | hT
      · exact (waits_off hT hr hn).elim
      · obtain ⟨hju, x, hx, _⟩ := mem_ready.1 hn
        have hap := hfree n x hx (Ne.symm hin) hju (ready_off hr hn hx)
        have h2 := wpOp_putIf hx hap (fun cs b => hsel i o cs b ho) (fun cs b => hsel n x cs b hx) hQ hT (H.2.2 (ready_mono hn (Ne.symm hin)))
        refine wpOp_mono (fun a' w' h3 => wpAnyH_first ho hsel hQ f _ a' w' (fun k y hk hki hun hno => ?_) (ready_mono hr hin) h3.1 trivial ?_) h2
        · refine hfree k y hk hki ?_ hno
          by_cases hjk : n = k
          · subst hjk; exact hju
          · rw [getD_set_ne true hjk] at hun; exact hun
        · rw [Array.setIfInBounds_comm _ _ (Ne.symm hin)]
          exact h3.2
theorem AnyT.take {n i : Nat} {o : Oper} {v : Value} {f : Nat} {li : Array Bool} {a : Act} {w : World} (ho : ops[i]? = some o) (hin : i ≠ n) (hs : Region.noSelect ops = true) (hf : Region.free md ops li i = true) (hr : (Region.ready md ops li).contains i = true)
    (hQ : ∀ c a w, Q (.panic c) (a.put o.dst v) w → Q (.panic c) a w) (hy : YieldsIf P ops S o v a) (hS : S w) (hT : waits md ops n i = true ∨ YieldsIf P ops AnyW o v a)
    (h : AnyT P md ops Q S n f (li.setIfInBounds i true) (a.put o.dst v) w) : AnyT P md ops Q S n (f + 1) li a w :=
  AnyT.first ho hin (Region.noSelect_spec hs) hQ f li a w (Region.free_spec ho hf) (by simpa using hr) hy hS hT h
/-- Number n alone may come up. -/
theorem AnyT.turn {n : Nat} {o : Oper} {f : Nat} {li : Array Bool} {a : Act} {w : World} (hr : Region.ready md ops li = [n]) (ho : ops[n]? = some o) (hw : Region.wanted o (yielded ops a.tmps) = true)
    (h : Oper.wp P o a w (fun a' w' => wpAnyH P md ops Q AnyW f (li.setIfInBounds n true) a' w') Q) : AnyT P md ops Q S n (f + 1) li a w := by
  refine ⟨fun e => (by rw [hr] at e; cases e), fun i hi hin => ?_, fun _ => wpOp_of_wp ho hw h⟩
  rw [hr] at hi
  exact absurd (by simpa using hi) hin
theorem wp_region_turn {id : Nat} {a : Act} {w : World} (n : Nat) (hm : P.follows .mixedOrders = true) (h : AnyT P .any ops Q S n ops.size (Array.replicate ops.size false) a { w with drawn := w.drawn + 1 }) : (Code.region id ops true).wp P Q a w :=
  wp_region_any hm (AnyT.any _ _ _ _ h)
end

end Go.Proofs.Ytfoifcbaadnigaa
