/-
  The lesser of a length and eight.
-/
import Derived.Test.YtfoifcbaadnigaaGA
set_option linter.unusedVariables false
set_option linter.unusedSimpArgs false
namespace Go.Proofs.Ytfoifcbaadnigaa
open Go.RowKit
theorem wpList_min8 {P : Program} {ops : Array Oper} {rest : List Oper} {o : Oper} {a : Act} {w : World} {Q : Exit → Act → World → Prop} (hgd : o.guard = none) (x : Operand) (t : TypeId)
    (ho : o.op = .call { callee := .builtin .min, args := #[x, .const (.int .i64 8)], argTypes := #[t, t] }) (n m : Nat) (hx : a.eval x = .int .i64 n) (hm : min (n : Int) 8 = m)
    (h : wpList P ops Q rest (a.put o.dst (.int .i64 m)) w) : wpList P ops Q (o :: rest) a w := by
  refine wpList_plain hgd fun K hK => ?_
  unfold Oper.wp execOp
  simp only [ho, resolve, invoke, builtin, Sem.run_bind, Sem.run_pure, Result.andThen_ok, List.map_toArray, List.map_cons, List.map_nil, hx]
  have he : a.eval (Operand.const (Value.int .i64 8)) = .int .i64 8 := rfl
  have hv : (if (8 : Int) < (n : Int) then (8 : Int) else (n : Int)) = (m : Int) := by split <;> omega
  rw [he, run_min_int2, hv]
  exact hK _ _ h
end Go.Proofs.Ytfoifcbaadnigaa
