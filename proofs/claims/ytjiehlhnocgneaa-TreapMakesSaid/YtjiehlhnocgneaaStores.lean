/-
  Stores into a block of the call's own that is known whole: one cell; the two cells of an arena.
-/
import Derived.Test.YtjiehlhnocgneaaGB
import Derived.Laws.IdiomCopy
set_option linter.unusedVariables false
set_option linter.unusedSimpArgs false
namespace Go.Proofs.Ytjiehlhnocgneaa
open Go.RowKit

theorem run_storeVar_cell {P : Program} (w : World) (b j : Nat) (ty : TypeId) (v : Value) (cs : Array Value) (hB : Bx w b cs) (hj : j < cs.size) (hi : (P.info? ty).map (·.size) = some 1) (h1 : v.oneCell' = true) :
    (storeVar ty ⟨b, j, none⟩ v).run P w = .ok () (w.setCell ⟨b, j, none⟩ v) := by
  have hc : v.cells = #[v] := by cases v <;> first | rfl | cases h1
  have h0 := (hB.cell j).trans (Array.getElem?_eq_getElem hj)
  have hf := hB.free j
  cases hq : P.info? ty with
  | none => simp [hq] at hi
  | some i =>
    have hs : i.size = 1 := by simpa [hq] using hi
    have := run_storeCells_cells (P := P) b j [v] 0 w (fun k hk => by
      obtain rfl : k = 0 := by simp at hk; omega
      simpa using (by rw [h0]; rfl : (w.cell? ⟨b, j, none⟩).isSome = true)) (fun k hk => by
      obtain rfl : k = 0 := by simp at hk; omega
      simpa using hf) (fun x hx => by simp at hx; subst hx; exact h1)
    simp only [Nat.add_zero, World.setCells] at this
    simp [storeVar, sizeOf, typeInfo, hq, hc, hs, this]

/-- THE OPERATION: one cell is stored into a block of the call's own. -/
theorem wpList_store_cell {P : Program} {ops : Array Oper} {rest : List Oper} {o : Oper} {a : Act} {w : World} {Q : Exit → Act → World → Prop} (hgd : Region.wanted o (yielded ops a.tmps) = true) (ty : TypeId) (x y : Operand) (ho : o.op = .store ty x y)
    (b j : Nat) (hx : a.eval x = .pointer (some ⟨b, j, none⟩)) (v : Value) (hy : a.eval y = v) (h1 : v.oneCell' = true) (hi : (P.info? ty).map (·.size) = some 1) (cs : Array Value) (hB : Bx w b cs) (hj : j < cs.size)
    (h : ∀ W, Bx W b (cs.setIfInBounds j v) → Only b w W → wpList P ops Q rest (a.put o.dst undef) W) : wpList P ops Q (o :: rest) a w :=
  Go.BigFrame.wpList_want hgd fun K hK => by
    unfold Oper.wp execOp
    simp only [ho, hx, hy, Instr.storeAt, Instr.sureAddr, Sem.run_bind, Sem.run_pure, Result.andThen_ok, run_storeVar_cell w b j ty v cs hB hj hi h1]
    exact hK _ _ (h _ (hB.set hj v) ((Only.refl b w).set j v))

/-- THE OPERATION: an arena by value is stored into the first two cells of a block of the call's own. -/
theorem wpList_store_ar {ops : Array Oper} {rest : List Oper} {o : Oper} {a : Act} {w : World} {Q : Exit → Act → World → Prop} (hgd : Region.wanted o (yielded ops a.tmps) = true) (x y : Operand) (ho : o.op = .store 25 x y)
    (b : Nat) (hx : a.eval x = .pointer (some ⟨b, 0, none⟩)) (u v : Value) (hy : a.eval y = .agg #[u, v]) (hu : u.oneCell' = true) (hv : v.oneCell' = true) (cs : Array Value) (hB : Bx w b cs) (hc : 2 ≤ cs.size)
    (h : ∀ W, Bx W b ((cs.setIfInBounds 0 u).setIfInBounds 1 v) → Only b w W → wpList Try.prog ops Q rest (a.put o.dst undef) W) : wpList Try.prog ops Q (o :: rest) a w := by
  have ht : w.there b 0 (#[u, v] : Array Value).size := fun j hj => by
    rw [Nat.zero_add]
    have hj2 : j < 2 := hj
    refine ⟨?_, hB.free j⟩
    rw [hB.cell j, Array.getElem?_eq_getElem (by omega)]; rfl
  exact Go.BigFrame.wpList_want hgd fun K hK => by
    unfold Oper.wp execOp
    simp only [ho, hx, hy, Sem.run_bind, run_storeAt_mid (P := Try.prog) w b 0 25 #[u, v] ht (by kernel_rfl) (by simp [hu, hv]), Sem.run_pure, Result.andThen_ok]
    refine hK _ _ (h _ ?_ (setCells_only b _ 0 w w (Only.refl b w)))
    exact (hB.set (j := 0) (by omega) u).set (j := 1) (by simp; omega) v
/-- One cell that holds a reference is read. -/
theorem oneCell_slice (A : Option Addr) (n c : Nat) : (Value.slice A n c).oneCell' = true := rfl
theorem oneCell_int (k : IntKind) (z : Int) : (Value.int k z).oneCell' = true := rfl
end Go.Proofs.Ytjiehlhnocgneaa
