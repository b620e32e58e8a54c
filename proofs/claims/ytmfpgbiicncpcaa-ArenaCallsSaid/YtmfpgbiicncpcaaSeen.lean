/-
  A map of the call's own that tells which numbers were seen.
-/
import Derived.Test.YtmfpgbiicncpcaaFlat
import Derived.Maps.Own
import Derived.Maps.OwnOps
import Derived.Maps.OwnSet
import Derived.Maps.Views
import Derived.BigFrame
set_option linter.unusedVariables false
set_option linter.unusedSimpArgs false
namespace Go.Proofs.Ytmfpgbiicncpcaa
open Go.RowKit Go.Maps

/-- Block b is a map of the call's own, in which just these numbers are true. -/
def Seen (W : World) (k : TypeId) (q : IntKind) (b : Nat) (l : List Int) : Prop :=
  ∃ D : DataW Unit, W.ownsMap Try.prog k (plainElem Try.prog 4) b l.length D ∧ ∀ z, (Lit.int q z).wf = true → D.atKey (.int q z) (.lit (.bool false)) = .lit (.bool (decide (z ∈ l)))
theorem Seen.made (W : World) (k : TypeId) (q : IntKind) : Seen (W.alloc (.map #[] 0)) k q W.heap.size [] :=
  ⟨.map [], World.ownsMap_made _ _ _ _, fun z _ => by simp [DataW.atKey]⟩
theorem Seen.lt {W : World} {k : TypeId} {q : IntKind} {b : Nat} {l : List Int} (h : Seen W k q b l) : b < W.heap.size := by
  obtain ⟨D, h, _⟩ := h
  exact h.lt
theorem Seen.kept {W W' : World} {k : TypeId} {q : IntKind} {b : Nat} {l : List Int} {r : Option Nat} (h : Seen W k q b l) (hg : W.grownBy W' r) (hne : some b ≠ r) : Seen W' k q b l := by
  obtain ⟨D, h, ha⟩ := h
  exact ⟨D, h.kept hg hne, ha⟩
theorem Seen.to {W W' : World} {k : TypeId} {q : IntKind} {b : Nat} {l : List Int} (h : Seen W k q b l) (hx : Ext W W') : Seen W' k q b l :=
  h.kept (r := none) ⟨hx.os, hx.tape, hx.output, hx.size, fun i hi _ => hx.block i hi⟩ (by simp)
theorem Seen.look {W : World} {t k : TypeId} {q : IntKind} {b : Nat} {l : List Int} (h : Seen W k q b l) (ht : Try.prog.underlying t = some (.map k 4)) (hk : Try.prog.underlying k = some (.int q)) {z : Int} (hz : (Lit.int q z).wf = true) :
    (Instr.lookup t (.map (some b)) (.int q z) false).run Try.prog W = .ok (.bool (decide (z ∈ l))) W := by
  obtain ⟨D, h, ha⟩ := h
  have z0 : (zeroValue 4).run Try.prog W = .ok (.bool false) W := by kernel_rfl
  obtain ⟨v, ps, hrun, hv⟩ := h.lookup (int_keyed hk) ht z0 (plainElem_bool Try.underlying4 false) (keyOf_int_mk hk hz)
  rw [ha z hz] at hv
  have : v = .bool (decide (z ∈ l)) := by
    unfold plainElem at hv
    rw [Try.underlying4] at hv
    cases v <;> simp at hv
    rw [hv.1]
  rw [hrun, this]
/-- THE OPERATION: is a number seen? -/
theorem wpList_lookup_seen {ops : Array Oper} {rest : List Oper} {o : Oper} {a : Act} {w : World} {Q : Exit → Act → World → Prop} (hg : Region.wanted o (yielded ops a.tmps) = true) (m x : Operand) (t : TypeId) (hop : o.op = Op.lookup t m x false)
    (k : TypeId) (q : IntKind) (ht : Try.prog.underlying t = some (.map k 4)) (hk : Try.prog.underlying k = some (.int q)) (b : Nat) (l : List Int) (hm : a.eval m = .map (some b)) (hS : Seen w k q b l) (z : Int) (hx : a.eval x = .int q z) (hz : (Lit.int q z).wf = true)
    (h : wpList Try.prog ops Q rest (a.put o.dst (.bool (decide (z ∈ l)))) w) : wpList Try.prog ops Q (o :: rest) a w := by
  refine Go.BigFrame.wpList_want hg fun K' hK' => ?_
  unfold Oper.wp
  simp [execOp, hop, hm, hx, hS.look ht hk hz, Result.andThen]
  exact hK' _ _ (by simpa using h)
/-- THE OPERATION: a number is seen from now on. -/
theorem wpList_update_seen {ops : Array Oper} {rest : List Oper} {o : Oper} {a : Act} {w : World} {Q : Exit → Act → World → Prop} (hg : o.guard = none) (m x v : Operand) (t : TypeId) (hop : o.op = Op.mapUpdate t m x v)
    (k : TypeId) (q : IntKind) (ht : Try.prog.underlying t = some (.map k 4)) (hk : Try.prog.underlying k = some (.int q)) (b : Nat) (l : List Int) (hm : a.eval m = .map (some b)) (hS : Seen w k q b l) (hl : l.length < maxLen) (z : Int) (hx : a.eval x = .int q z) (hv : a.eval v = .bool true) (hz : (Lit.int q z).wf = true)
    (h : ∀ W, Seen W k q b (l ++ [z]) → Only b w W → wpList Try.prog ops Q rest (a.put o.dst undef) W) : wpList Try.prog ops Q (o :: rest) a w := by
  obtain ⟨D, hown, ha⟩ := hS
  refine wpList_mapUpdate_own w hg m x v t hop k 4 (int_keyed hk) ht _ b l.length D hm hown hl (.int q z) (.bool true) (.int q z) hx hv (keyOf_int_mk hk hz) (.lit (.bool true)) [] (plainElem_bool Try.underlying4 true) fun w' hown' hg' => h w' ⟨_, by simpa using hown', fun y hy => ?_⟩ hg'
  by_cases e : y = z
  · subst e
    rw [atKey_put_same hown.isMap (show WideAt.IsKeyLit (Lit.int q y) from trivial)]
    simp
  · rw [atKey_put_other (by intro h; injection h with _ h; exact e h), ha y hy]
    simp [e]

end Go.Proofs.Ytmfpgbiicncpcaa
