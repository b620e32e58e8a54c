/-
  Nodes of an arena as cells; whole nodes read and stored, whatever they are.
-/
import Derived.Test.YtmfpgbiicncpcaaFlat
import Derived.Test.YtmfpgbiicncpcaaRef
import Derived.Laws.StructEq
import Derived.Laws.Cells
import Derived.Deep.MidRow
import Derived.Deep.WholeRow
import Derived.BigFrame
set_option linter.unusedVariables false
set_option linter.unusedSimpArgs false
namespace Go.Proofs.Ytmfpgbiicncpcaa
open Go.RowKit

/-- A node. -/
structure Nd where
  k : Int
  g : Int
  n : Int
  v : Int
  s : Int
  r0 : Int
  r1 : Int
  r2 : Int
  r3 : Int
  r4 : Int
  r5 : Int
  r6 : Int
  r7 : Int
  r8 : Int
  pre : Int
  suf : Int
deriving DecidableEq
def Nd.kids (x : Nd) : List Int := [x.r0, x.r1, x.r2, x.r3, x.r4, x.r5, x.r6, x.r7, x.r8]
def Nd.cells (x : Nd) : List Value := [.int .i64 x.k, .int .i64 x.g, .int .i64 x.n, .int .i64 x.v, .int .i64 x.s, .int .u64 x.r0, .int .u64 x.r1, .int .u64 x.r2, .int .u64 x.r3, .int .u64 x.r4, .int .u64 x.r5, .int .u64 x.r6, .int .u64 x.r7, .int .u64 x.r8, .int .i64 x.pre, .int .i64 x.suf]
def Nd.arr (x : Nd) : Array Value := #[.int .i64 x.k, .int .i64 x.g, .int .i64 x.n, .int .i64 x.v, .int .i64 x.s, .int .u64 x.r0, .int .u64 x.r1, .int .u64 x.r2, .int .u64 x.r3, .int .u64 x.r4, .int .u64 x.r5, .int .u64 x.r6, .int .u64 x.r7, .int .u64 x.r8, .int .i64 x.pre, .int .i64 x.suf]
/-- A free node of a generation. -/
def bare (g : Int) : Nd := ⟨0, g, 0, 0, 0, 0, 0, 0, 0, 0, 0, 0, 0, 0, 0, 0⟩
theorem Nd.cells_length (x : Nd) : x.cells.length = 16 := rfl
theorem Nd.arr_size (x : Nd) : x.arr.size = 16 := rfl
theorem Nd.arr_list (x : Nd) : x.arr.toList = x.cells := rfl
theorem Nd.cells_one (x : Nd) : ∀ u ∈ x.cells, u.oneCell' = true := by
  intro u hu
  simp [Nd.cells] at hu
  rcases hu with rfl | rfl | rfl | rfl | rfl | rfl | rfl | rfl | rfl | rfl | rfl | rfl | rfl | rfl | rfl | rfl <;> rfl
theorem Nd.arr_one (x : Nd) : x.arr.all (·.oneCell') = true := by simp [Nd.arr, Value.oneCell']
theorem Nd.arr_get (x : Nd) (j : Nat) : x.arr[j]? = x.cells[j]? := by simp [Nd.arr, Nd.cells]

/-! ### A whole node out of memory -/
theorem run_loadVar_any {P : Program} (w : World) (a : Addr) (ty : TypeId) (cs : Array Value) (d : TypeDesc) (hc : ∀ j v, cs[j]? = some v → w.cell? (a.add j) = some v)
    (hu : P.underlying ty = some d) (hd : d.isRow = true) (hi : (P.info? ty).map (·.size) = some cs.size) :
    (loadVar ty a).run P w = .ok (.agg cs) w := by
  have hl : (loadCells a cs.toList.length).run P w = .ok cs.toList.toArray w :=
    run_loadCells_list (P := P) w a cs.toList (fun j v hv => hc j v (by simpa using hv))
  cases hq : P.info? ty with
  | none => simp [hq] at hi
  | some i =>
    have hs : i.size = cs.size := by simpa [hq] using hi
    have hagg : (isAgg ty).run P w = .ok true w := by
      unfold isAgg
      rw [Sem.run_bind, run_underlying hu w]
      cases d <;> simp_all
    simp only [Array.length_toList, Array.toArray_toList] at hl
    simp [loadVar, Sem.run_bind, hagg, sizeOf, typeInfo, hq, hs, hl]

/-- In w the cells of node x lie from a on. -/
def NdAt (w : World) (a : Addr) (x : Nd) : Prop := ∀ j v, x.cells[j]? = some v → w.cell? (a.add j) = some v
theorem NdAt.to {w w' : World} {a : Addr} {x : Nd} (h : NdAt w a x) (e : Ext w w') : NdAt w' a x := fun j v hv => e.cellOf (h j v hv)
theorem NdAt.load {w : World} {a : Addr} {x : Nd} (h : NdAt w a x) : (Instr.loadAt 30 (.pointer (some a))).run Try.prog w = .ok (.agg x.arr) w := by
  simp only [Instr.loadAt, Instr.sureAddr, Sem.run_bind, Sem.run_pure, Result.andThen_ok]
  exact run_loadVar_any w a _ x.arr _ (fun j v hv => h j v (by rw [← Nd.arr_get]; exact hv)) Try.underlying30 rfl (by kernel_rfl)
theorem NdAt.cells {w : World} {a : Addr} {x : Nd} (h : NdAt w a x) : (loadCellsFrom a 0 16 #[]).run Try.prog w = .ok x.arr w := by
  have := run_loadCells_list (P := Try.prog) w a x.cells (fun j v hv => h j v hv)
  simpa [loadCells, Nd.cells, Nd.arr] using this
theorem NdAt.of {w : World} {A : Option Addr} {n : Nat} {ns : List Nd} (h : Rd w 16 A n (flat Nd.cells ns)) {i : Nat} {x : Nd} (hx : ns[i]? = some x) : ∃ ad, A = some ad ∧ NdAt w (ad.add (i * 16)) x := by
  obtain ⟨ad, ha, _⟩ := h.2 (i * 16 + 0) (.int .i64 x.k) ((flat_get Nd.cells_length ns i 0 x hx (by omega)).trans rfl)
  refine ⟨ad, ha, fun j v hv => ?_⟩
  have hj : j < 16 := by
    have := (List.getElem?_eq_some_iff.1 hv).1
    rwa [Nd.cells_length] at this
  obtain ⟨ad', ha', hc⟩ := h.2 (i * 16 + j) v ((flat_get Nd.cells_length ns i j x hx hj).trans hv)
  rw [ha] at ha'
  injection ha' with ha'
  subst ha'
  rw [addr_add]
  exact hc
theorem Bx.node {w : World} {b : Nat} {x : Nd} (h : Bx w b x.arr) : NdAt w ⟨b, 0, none⟩ x := fun j v hv => by
  have hadd : (⟨b, 0, none⟩ : Addr).add j = ⟨b, j, none⟩ := by unfold Addr.add; split <;> simp_all
  rw [hadd, h.cell j, Nd.arr_get]
  exact hv

/-- THE OPERATION: a whole node is read. -/
theorem wpList_load_nd {ops : Array Oper} {rest : List Oper} {o : Oper} {a : Act} {w : World} {Q : Exit → Act → World → Prop} (hgd : Region.wanted o (yielded ops a.tmps) = true) (x : Operand) (ho : o.op = .load 30 x)
    (A : Addr) (hx : a.eval x = .pointer (some A)) (n : Nd) (hn : NdAt w A n)
    (h : wpList Try.prog ops Q rest (a.put o.dst (.agg n.arr)) w) : wpList Try.prog ops Q (o :: rest) a w :=
  Go.BigFrame.wpList_want hgd fun K hK => by
    unfold Oper.wp execOp
    simp only [ho, hx, Sem.run_bind, hn.load, Sem.run_pure, Result.andThen_ok]
    exact hK _ _ h
/-- THE OPERATION: a whole node goes into the variable that was made last. -/
theorem wpList_store_nd {ops : Array Oper} {rest : List Oper} {o : Oper} {a : Act} {w W : World} {Q : Exit → Act → World → Prop} (hgd : Region.wanted o (yielded ops a.tmps) = true) (x y : Operand) (ho : o.op = .store 30 x y)
    (hx : a.eval x = .pointer (some ⟨W.heap.size, 0, none⟩)) (n : Nd) (hy : a.eval y = .agg n.arr) (c : Array Value) (hw : w = W.alloc (.cells c 30)) (hc : c.size = 16)
    (h : wpList Try.prog ops Q rest (a.put o.dst undef) (W.alloc (.cells n.arr 30))) : wpList Try.prog ops Q (o :: rest) a w := by
  subst hw
  exact Go.BigFrame.wpList_want hgd fun K hK => by
    unfold Oper.wp execOp
    simp only [ho, hx, hy, Sem.run_bind, run_storeAt_new (P := Try.prog) W 30 c n.arr (by kernel_rfl) hc n.arr_one, Sem.run_pure, Result.andThen_ok]
    exact hK _ _ h

/-- THE OPERATION: a whole array or struct is read. -/
theorem wpList_load_agg {ops : Array Oper} {rest : List Oper} {o : Oper} {a : Act} {w : World} {Q : Exit → Act → World → Prop} (ty : TypeId) (hgd : Region.wanted o (yielded ops a.tmps) = true) (x : Operand) (ho : o.op = .load ty x)
    (A : Addr) (hx : a.eval x = .pointer (some A)) (cs : Array Value) (hn : (Instr.loadAt ty (.pointer (some A))).run Try.prog w = .ok (.agg cs) w)
    (h : wpList Try.prog ops Q rest (a.put o.dst (.agg cs)) w) : wpList Try.prog ops Q (o :: rest) a w :=
  Go.BigFrame.wpList_want hgd fun K hK => by
    unfold Oper.wp execOp
    simp only [ho, hx, Sem.run_bind, hn, Sem.run_pure, Result.andThen_ok]
    exact hK _ _ h
/-- A whole row of references is read. -/
theorem run_loadKids {w : World} {a : Addr} {zs : List Int} {n c : Nat} (h : Rd w 1 (some a) n (Us zs)) (hn : zs.length = 9) : (Instr.loadAt 28 (.pointer (some a))).run Try.prog w = .ok (.agg (Us zs).toArray) w := by
  simp only [Instr.loadAt, Instr.sureAddr, Sem.run_bind, Sem.run_pure, Result.andThen_ok]
  have hi : (Try.prog.info? 28).map (·.size) = some 9 := by kernel_rfl
  have hs : (Us zs).toArray.size = 9 := by simp [Us, hn]
  exact run_loadVar_any (P := Try.prog) w a _ (Us zs).toArray _ (fun j v hv => h.cells j v (by simpa using hv)) Try.underlying28 rfl (by rw [hs]; exact hi)

/-- THE OPERATION: one of a row of values is read. -/
theorem wpList_index_agg {ops : Array Oper} {rest : List Oper} {o : Oper} {a : Act} {w : World} {Q : Exit → Act → World → Prop} (ty : TypeId) (hgd : Region.wanted o (yielded ops a.tmps) = true) (x y : Operand) (ho : o.op = .index ty x y)
    (u i v : Value) (hx : a.eval x = u) (hy : a.eval y = i) (hn : (Instr.index ty u i).run Try.prog w = .ok v w)
    (h : wpList Try.prog ops Q rest (a.put o.dst v) w) : wpList Try.prog ops Q (o :: rest) a w :=
  Go.BigFrame.wpList_want hgd fun K hK => by
    unfold Oper.wp execOp
    simp only [ho, hx, hy, Sem.run_bind, hn, Sem.run_pure, Result.andThen_ok]
    exact hK _ _ h
theorem run_indexKids {w : World} {zs : List Int} (hn : zs.length = 9) {k : Nat} (hk : k < 9) : (Instr.index 28 (.agg (Us zs).toArray) (.int .i64 k)).run Try.prog w = .ok (.int .u64 (ith zs k)) w := by
  have h1 : ¬ ((k : Int) < 0) := by omega
  have h2 : ¬ ((9 : Int) ≤ (k : Int)) := by omega
  have hc : (Us zs)[k]? = some (.int .u64 (ith zs k)) := by rw [Us_get, ith_of zs (by omega)]; rfl
  simp [Instr.index, run_underlying Try.underlying28, asIntOf, h1, h2, part, isAgg, run_underlying Try.underlying27, hc, go_sem]
  omega

end Go.Proofs.Ytmfpgbiicncpcaa
