/-
  A drawing region of two calls in a chain and two allocs, in whatever order ('x, y := f(..), g(..)' of boxed variables).
-/
import Derived.Test.YtjiehlhnocgneaaGB
import Derived.OrdersHeld
set_option linter.unusedVariables false
set_option linter.unusedSimpArgs false
namespace Go.Proofs.Ytjiehlhnocgneaa
open Go.RowKit

section
variable {P : Program} {ops : Array Oper} {md : Region.Mode} {S : World → Prop} {Q : Exit → Act → World → Prop} {w : World}

theorem wpOp_of_wp {i : Nat} {o : Oper} {K : Act → World → Prop} {a : Act} {w : World} (ho : ops[i]? = some o) (hw : Region.wanted o (yielded ops a.tmps) = true) (h : Oper.wp P o a w K Q) : wpOp P ops Q i K a w := by
  unfold wpOp
  simp only [ho, hw, if_true]
  exact .inl h

/-- What a slot holds that an alloc has filled, or not yet. -/
def Slot (w W : World) (p : Bool) (v : Value) (c : Array Value) : Prop := (p = false ∧ v = undef) ∨ (p = true ∧ ∃ b, v = .pointer (some ⟨b, 0, none⟩) ∧ Bx W b c ∧ w.heap.size ≤ b)
theorem Slot.to {w W W' : World} {p : Bool} {v : Value} {c : Array Value} (h : Slot w W p v c) (hx : Ext W W') : Slot w W' p v c := by
  rcases h with h | ⟨h, b, h1, h2, h3⟩
  · exact .inl h
  · exact .inr ⟨h, b, h1, h2.to hx, h3⟩
theorem Slot.ne {w W : World} {p : Bool} {v : Value} {c : Array Value} (h : Slot w W p v c) : v ≠ .pointer (some ⟨W.heap.size, 0, none⟩) := by
  rcases h with ⟨_, rfl⟩ | ⟨h, b, rfl, h2, h3⟩
  · intro e; cases e
  · intro e
    injection e with e
    injection e with e
    injection e with e
    have := h2.lt
    omega

theorem held_xy (iA iB i1 i2 : Nat) (vA vB : Value) (c1 c2 : Array Value) (t1 t2 : TypeId) (f : Nat) (lf : Bool → Bool → Bool → Bool → Array Bool) (fr : Value → Value → Value → Value → Act)
    (hlA : ∀ kB p q, (lf false kB p q).setIfInBounds iA true = lf true kB p q) (hlB : ∀ kA p q, (lf kA false p q).setIfInBounds iB true = lf kA true p q)
    (hl1 : ∀ kA kB q, (lf kA kB false q).setIfInBounds i1 true = lf kA kB true q) (hl2 : ∀ kA kB p, (lf kA kB p false).setIfInBounds i2 true = lf kA kB p true)
    (hr : ∀ kA kB p q, (kB = true → kA = true) → ¬ (kA = true ∧ kB = true ∧ p = true ∧ q = true) → Region.ready md ops (lf kA kB p q) ≠ [] ∧ ∀ j ∈ Region.ready md ops (lf kA kB p q), (j = iA ∧ kA = false) ∨ (j = iB ∧ kA = true ∧ kB = false) ∨ (j = i1 ∧ p = false) ∨ (j = i2 ∧ q = false))
    (hA : ∀ v1 v2 W (K : Act → World → Prop), Ext w W → (∀ W', Ext W W' → K (fr vA undef v1 v2) W') → wpOp P ops Q iA K (fr undef undef v1 v2) W)
    (hB : ∀ v1 v2 W (K : Act → World → Prop), Ext w W → (∀ W', Ext W W' → K (fr vA vB v1 v2) W') → wpOp P ops Q iB K (fr vA undef v1 v2) W)
    (h1 : ∀ uA uB v2 W (K : Act → World → Prop), K (fr uA uB (.pointer (some ⟨W.heap.size, 0, none⟩)) v2) (W.alloc (.cells c1 t1)) → wpOp P ops Q i1 K (fr uA uB undef v2) W)
    (h2 : ∀ uA uB v1 W (K : Act → World → Prop), K (fr uA uB v1 (.pointer (some ⟨W.heap.size, 0, none⟩))) (W.alloc (.cells c2 t2)) → wpOp P ops Q i2 K (fr uA uB v1 undef) W)
    (hend : ∀ W b1 b2, Ext w W → b1 ≠ b2 → w.heap.size ≤ b1 → w.heap.size ≤ b2 → Bx W b1 c1 → Bx W b2 c2 → wpAnyH P md ops Q (fun W => Ext w W) f (lf true true true true) (fr vA vB (.pointer (some ⟨b1, 0, none⟩)) (.pointer (some ⟨b2, 0, none⟩))) W)
    {li : Array Bool} {a : Act} {W : World} (hli : li = lf false false false false) (ha : a = fr undef undef undef undef) (hW : Ext w W) : wpAnyH P md ops Q (fun W => Ext w W) (f + 4) li a W := by
  have key : ∀ (n : Nat) (kA kB p q : Bool), (kB = true → kA = true) → kA.toNat + kB.toNat + p.toNat + q.toNat + n = 4 → ∀ (W : World) (v1 v2 : Value), Ext w W → Slot w W p v1 c1 → Slot w W q v2 c2 → (∀ b, v1 = .pointer (some ⟨b, 0, none⟩) → v2 ≠ .pointer (some ⟨b, 0, none⟩)) →
      wpAnyH P md ops Q (fun W => Ext w W) (f + n) (lf kA kB p q) (fr (bif kA then vA else undef) (bif kB then vB else undef) v1 v2) W := by
    intro n
    induction n with
    | zero =>
      intro kA kB p q hk hn W v1 v2 hW s1 s2 hne
      obtain ⟨rfl, rfl, rfl, rfl⟩ : kA = true ∧ kB = true ∧ p = true ∧ q = true := by
        cases kA <;> cases kB <;> cases p <;> cases q <;> simp at hn ⊢
      rcases s1 with ⟨h, _⟩ | ⟨_, b1, rfl, hb1, hs1⟩
      · cases h
      rcases s2 with ⟨h, _⟩ | ⟨_, b2, rfl, hb2, hs2⟩
      · cases h
      exact hend W b1 b2 hW (fun e => hne b1 rfl (by rw [e])) hs1 hs2 hb1 hb2
    | succ n ih =>
      intro kA kB p q hk hn W v1 v2 hW s1 s2 hne
      have hnot : ¬ (kA = true ∧ kB = true ∧ p = true ∧ q = true) := by
        rintro ⟨rfl, rfl, rfl, rfl⟩
        simp at hn
      obtain ⟨hr1, hr2⟩ := hr kA kB p q hk hnot
      refine ⟨fun h0 => absurd h0 hr1, fun j hj => ?_⟩
      rcases hr2 j hj with ⟨rfl, rfl⟩ | ⟨rfl, rfl, rfl⟩ | ⟨rfl, rfl⟩ | ⟨rfl, rfl⟩
      · obtain rfl : kB = false := by cases kB <;> simp_all
        refine hA v1 v2 W _ hW fun W' hx => ⟨hW.step hx, ?_⟩
        rw [hlA]
        exact ih true false p q (fun h => by cases h) (by simp at hn ⊢; omega) W' v1 v2 (hW.step hx) (s1.to hx) (s2.to hx) hne
      · refine hB v1 v2 W _ hW fun W' hx => ⟨hW.step hx, ?_⟩
        rw [hlB]
        exact ih true true p q (fun _ => rfl) (by simp at hn ⊢; omega) W' v1 v2 (hW.step hx) (s1.to hx) (s2.to hx) hne
      · obtain rfl : v1 = undef := by
          rcases s1 with ⟨_, h⟩ | ⟨h, _⟩
          · exact h
          · cases h
        have hx : Ext W (W.alloc (.cells c1 t1)) := (Ext.refl W).new _
        refine h1 _ _ v2 W _ ⟨hW.step hx, ?_⟩
        rw [hl1]
        exact ih kA kB true q hk (by simp at hn ⊢; omega) _ _ v2 (hW.step hx) (.inr ⟨rfl, _, rfl, Bx.new W c1 t1, hW.size⟩) (s2.to hx) (fun b e => by
          injection e with e; injection e with e; injection e with e
          subst e
          exact s2.ne)
      · obtain rfl : v2 = undef := by
          rcases s2 with ⟨_, h⟩ | ⟨h, _⟩
          · exact h
          · cases h
        have hx : Ext W (W.alloc (.cells c2 t2)) := (Ext.refl W).new _
        refine h2 _ _ v1 W _ ⟨hW.step hx, ?_⟩
        rw [hl2]
        exact ih kA kB p true hk (by simp at hn ⊢; omega) _ v1 _ (hW.step hx) (s1.to hx) (.inr ⟨rfl, _, rfl, Bx.new W c2 t2, hW.size⟩) (fun b e h => by
          injection h with h; injection h with h; injection h with h
          exact s1.ne (by rw [h]; exact e))
  subst hli; subst ha
  exact key 4 false false false false (fun h => by cases h) rfl W undef undef hW (.inl ⟨rfl, rfl⟩) (.inl ⟨rfl, rfl⟩) (fun b e => by cases e)
end
end Go.Proofs.Ytjiehlhnocgneaa
