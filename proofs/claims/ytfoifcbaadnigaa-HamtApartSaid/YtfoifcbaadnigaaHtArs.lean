/-
  Slices that are an arena, and a reference its table; rows behind a store; one operation that alone may come up.
-/
import Derived.Test.YtfoifcbaadnigaaHtAlive
import Derived.OrdersHeld
import Derived.Test.YtfoifcbaadnigaaGF
set_option linter.unusedVariables false
set_option linter.unusedSimpArgs false
namespace Go.Proofs.Ytfoifcbaadnigaa
open Go.RowKit

theorem RdR.past {W W' : World} {v : Value} {l : Row} {b : Nat} {u x : Value} (h : RdR W v l) (hB : Bx W b #[u, x]) (hu : ∀ k z, u ≠ .int k z) (hx : ∀ k z, x ≠ .int k z) (ho : Only b W W') : RdR W' v l := by
  obtain ⟨A, c, h1, h2, h3⟩ := h
  refine ⟨A, c, h1, ?_, h3⟩
  cases l with
  | nil => exact Rd.nil _ _ _
  | cons y l =>
    obtain ⟨ad, rfl, hi, _⟩ := h2.item (k := 0) (x := y) rfl
    refine ho.rd h2 fun q hq e => ?_
    injection hq with hq
    subst hq
    obtain ⟨qb, qo, qs⟩ := ad
    simp only at e
    subst e
    cases qs with
    | none =>
      have h0 := hB.cell (qo + 0)
      rw [show (⟨qb, qo, none⟩ : Addr).add (0 * 2) = ⟨qb, qo + 0, none⟩ from rfl] at hi
      rw [hi] at h0
      exact noInt hu hx _ _ _ h0.symm
    | some s =>
      unfold World.cell? at hi
      have hs : ((⟨qb, qo, some s⟩ : Addr).add (0 * 2)).spot.isSome = true := by unfold Addr.add; split <;> simp_all
      simp only [hs, if_true] at hi
      split at hi <;> cases hi

/-- A row is read by its contract. -/
theorem RdR.put {W : World} {v : Value} {l : Row} (h : RdR W v l) (hl : l.length ≤ 1000) (hs : Srt l) (key u : Int) : ∀ W', Ext W W' → Calls Try.prog 12 #[v, .int .i64 key, .int .i64 u] W' fun e w' => ∃ v', e = .returned v' ∧ RdR w' v' (putR l key u) ∧ Ext W' w' := by
  intro W' hx
  obtain ⟨A, c, rfl, h2, h3, h4⟩ := h
  refine (rfPut_is A l.length c l key u W' (h2.to hx) hl hs).mono ?_
  rintro e w' ⟨A', c', rfl, q1, q2, q3, q4⟩
  exact ⟨_, rfl, ⟨A', c', rfl, q1, q2, q3⟩, q4⟩

section
variable {P : Program} {ops : Array Oper} {S : World → Prop} {Q : Exit → Act → World → Prop} {md : Region.Mode}
theorem held_one {i : Nat} {o : Oper} {fuel : Nat} {li : Array Bool} {a : Act} {w : World} (hr : Region.ready md ops li = [i]) (ho : ops[i]? = some o) (hw : Region.wanted o (yielded ops a.tmps) = true)
    (h : Oper.wp P o a w (fun a' w' => S w' ∧ wpAnyH P md ops Q S fuel (li.setIfInBounds i true) a' w') Q) : wpAnyH P md ops Q S (fuel + 1) li a w := by
  refine wpAnyH_all hr (by simp) (fun j hj => ?_)
  obtain rfl : j = i := by simpa using hj
  unfold wpOp
  simp only [ho, hw, if_true]
  exact .inl h
end
theorem wp_store_ar {o : Oper} {a : Act} {w : World} {K : Act → World → Prop} {Q : Exit → Act → World → Prop} (x y : Operand) (ho : o.op = .store 26 x y)
    (b : Nat) (hx : a.eval x = .pointer (some ⟨b, 0, none⟩)) (u v : Value) (hy : a.eval y = .agg #[u, v]) (hu : u.oneCell' = true) (hv : v.oneCell' = true) (cs : Array Value) (hB : Bx w b cs) (hc : 2 ≤ cs.size)
    (h : ∀ W, Bx W b ((cs.setIfInBounds 0 u).setIfInBounds 1 v) → Only b w W → K (a.put o.dst undef) W) : Oper.wp Try.prog o a w K Q := by
  have ht : w.there b 0 (#[u, v] : Array Value).size := fun j hj => by
    rw [Nat.zero_add]
    have hj2 : j < 2 := hj
    refine ⟨?_, hB.free j⟩
    rw [hB.cell j, Array.getElem?_eq_getElem (by omega)]; rfl
  unfold Oper.wp execOp
  simp only [ho, hx, hy, Sem.run_bind, run_storeAt_mid (P := Try.prog) w b 0 26 #[u, v] ht (by kernel_rfl) (by simp [hu, hv]), Sem.run_pure, Result.andThen_ok]
  exact h _ ((hB.set (j := 0) (by omega) u).set (j := 1) (by simp; omega) v) (setCells_only b _ 0 w w (Only.refl b w))


/-- In a world two slices are an arena with some free nodes at least, and a reference the table of a row. -/
def SmT (W : World) (x y : Value) (z : Int) (l : Row) (f : Nat) : Prop :=
  ∃ (A : Option Addr) (n c : Nat) (B : Option Addr) (m d : Nat) (ns : List Nd) (fs : List Int), x = .slice A n c ∧ y = .slice B m d ∧ Av W A n B m ns fs ∧ TabV ns z l ∧ f ≤ fs.length
theorem SmT.to {W W' : World} {x y : Value} {z : Int} {l : Row} {f : Nat} (h : SmT W x y z l f) (hx : Ext W W') : SmT W' x y z l f := by
  obtain ⟨A, n, c, B, m, d, ns, fs, h1, h2, h3, h4⟩ := h
  exact ⟨A, n, c, B, m, d, ns, fs, h1, h2, h3.to hx, h4⟩
theorem SmT.less {W : World} {x y : Value} {z : Int} {l : Row} {f g : Nat} (h : SmT W x y z l f) (hg : g ≤ f) : SmT W x y z l g := by
  obtain ⟨A, n, c, B, m, d, ns, fs, h1, h2, h3, h4, h5⟩ := h
  exact ⟨A, n, c, B, m, d, ns, fs, h1, h2, h3, h4, Nat.le_trans hg h5⟩
theorem SmT.past {W W' : World} {x y : Value} {b : Nat} {z : Int} {l : Row} {f : Nat} {u v : Value} (h : SmT W x y z l f) (hB : Bx W b #[u, v]) (hu : ∀ k z, u ≠ .int k z) (hv : ∀ k z, v ≠ .int k z) (ho : Only b W W') : SmT W' x y z l f := by
  obtain ⟨A, n, c, B, m, d, ns, fs, h1, h2, h3, h4⟩ := h
  exact ⟨A, n, c, B, m, d, ns, fs, h1, h2, ⟨h3.ar.past hB (noInt hu hv) ho, h3.may⟩, h4⟩
/-- What the putting of a key answers. -/
def PutT (l : Row) (f : Nat) (w : World) (e : Ending) (w' : World) : Prop :=
  ∃ (A : Option Addr) (n c : Nat) (B : Option Addr) (m d : Nat) (z : Int), e = .returned (.tuple #[.agg #[.slice A n c, .slice B m d], .int .u64 z, .int .i64 0]) ∧ SmT w' (.slice A n c) (.slice B m d) z l f ∧ Ext w w'
theorem smt_put {W : World} {A B : Option Addr} {n c m d : Nat} {z : Int} {l : Row} {f : Nat} (h : SmT W (.slice A n c) (.slice B m d) z l (f + 11)) (hl : Sm l) (key v : Int) (hk : 0 ≤ key ∧ key < 60) : ∀ W', Ext W W' →
    Calls Try.prog 11 #[.agg #[.slice A n c, .slice B m d], .int .u64 z, .int .i64 key, .int .i64 v] W' (PutT (putR l key v) f W') := by
  intro W' hx
  obtain ⟨A', n', c', B', m', d', ns, fs, e1, e2, h3, h4, h5⟩ := h
  injection e1 with e11 e12 e13; injection e2 with e21 e22 e23
  subst e11; subst e12; subst e13; subst e21; subst e22; subst e23
  refine (tv_put h3 h4 hl key v hk (by omega) W' hx).mono ?_
  rintro e w3 ⟨A', n', c', B', m', d', ns', fs', z, rfl, hA3, hG3, hT3, hx3⟩
  exact ⟨A', n', c', B', m', d', z, rfl, ⟨A', n', c', B', m', d', ns', fs', rfl, rfl, hA3, hT3, by have := hG3.few; omega⟩, hx3⟩
theorem smt_is {W : World} {A B : Option Addr} {n c m d : Nat} {z : Int} {l : Row} {f : Nat} (h : SmT W (.slice A n c) (.slice B m d) z l f) (hl : Sm l) {L : Option Addr} {k cL : Nat} (hr : RdR W (.slice L k cL) l) : ∀ W', Ext W W' →
    Calls Try.prog 13 #[.agg #[.slice A n c, .slice B m d], .int .u64 z, .slice L k cL, .int .i64 0] W' fun e w' => e = .returned (.bool true) ∧ Ext W' w' := by
  intro W' hx
  obtain ⟨A', n', c', B', m', d', ns, fs, e1, e2, h3, h4, h5⟩ := h
  injection e1 with e11 e12 e13; injection e2 with e21 e22 e23
  subst e11; subst e12; subst e13; subst e21; subst e22; subst e23
  exact tv_is h3 h4 hl hr W' hx

end Go.Proofs.Ytfoifcbaadnigaa
