/-
  A row of instructions of the call's own, one of whose fields is turned.
-/
import Derived.Test.YteiabmbfjfaboaaPRow
set_option linter.unusedVariables false
set_option linter.unusedSimpArgs false
namespace Go.Proofs.Yteiabmbfjfaboaa
open Go.RowKit

/-- Block g is a row of the call's own that shows these instructions. -/
structure OwnI (W : World) (g : Nat) (is : List Ins) : Prop where
  lt : g < W.heap.size
  cell : ∀ i x, is[i]? = some x → ∀ j, j < 5 → W.cell? ⟨g, i * 5 + j, none⟩ = x.cells[j]?
  free : ∀ j, W.frozen? ⟨g, j, none⟩ = false
theorem OwnI.to {W W' : World} {g : Nat} {is : List Ins} (h : OwnI W g is) (hx : Ext W W') : OwnI W' g is :=
  ⟨Nat.lt_of_lt_of_le h.lt hx.size, fun i v hv j hj => (hx.cell (p := ⟨g, i * 5 + j, none⟩) h.lt).trans (h.cell i v hv j hj), fun j => (hx.frozen (p := ⟨g, j, none⟩) h.lt).trans (h.free j)⟩
theorem OwnI.prg {W : World} {g : Nat} {is : List Ins} (h : OwnI W g is) : Prg W (some ⟨g, 0, none⟩) is := by
  refine ⟨flat_length Ins.cells_length is, fun j u hu => ⟨_, rfl, ?_⟩⟩
  have hj : j < is.length * 5 := by
    have := (List.getElem?_eq_some_iff.1 hu).1
    rwa [flat_length Ins.cells_length] at this
  have hi : j / 5 < is.length := by omega
  have hv : is[j / 5]? = some is[j / 5] := List.getElem?_eq_getElem hi
  have e : j = j / 5 * 5 + j % 5 := by omega
  have h1 := h.cell _ _ hv (j % 5) (Nat.mod_lt _ (by omega))
  rw [e, flat_get Ins.cells_length is _ _ _ hv (Nat.mod_lt _ (by omega))] at hu
  rw [hu, ← e] at h1
  rw [addr_zero]
  exact h1
/-- The same instruction, on word 1. -/
def Ins.one (x : Ins) : Ins := ⟨x.k, x.r, 1, x.a, x.b⟩
theorem OwnI.one {W : World} {g : Nat} {is : List Ins} (h : OwnI W g is) {i : Nat} {x : Ins} (hx : is[i]? = some x) :
    OwnI (W.setCell ⟨g, i * 5 + 2, none⟩ (.int .i64 1)) g (is.set i x.one) := by
  have hi : i < is.length := (List.getElem?_eq_some_iff.1 hx).1
  refine ⟨Nat.lt_of_lt_of_le h.lt ((Only.refl g W).set _ _).size, fun k u hu j hj => ?_, fun j => by rw [World.frozen?_setCell]; exact h.free j⟩
  by_cases e : i = k
  · subst e
    rw [List.getElem?_set_self hi] at hu
    obtain rfl := Option.some.inj hu
    by_cases e0 : j = 2
    · subst e0
      exact World.cell?_setCell_same _ _ _ (h.cell i x hx 2 (by omega))
    · rw [World.cell?_setCell_other _ _ _ _ (fun e => by
        have := congrArg Addr.off e
        simp at this
        omega), h.cell i x hx j hj]
      match j, e0, hj with
      | 0, _, _ => rfl
      | 1, _, _ => rfl
      | 3, _, _ => rfl
      | 4, _, _ => rfl
  · rw [List.getElem?_set_ne e] at hu
    rw [World.cell?_setCell_other _ _ _ _ (fun x => by injection x with _ x; omega)]
    exact h.cell k u hu j hj
theorem OwnI.only {W W' : World} {g b : Nat} {is : List Ins} (h : OwnI W g is) (ho : Only b W W') (hn : g ≠ b) : OwnI W' g is := by
  have e := ho.block g h.lt (fun e => hn (Option.some.inj e))
  refine ⟨Nat.lt_of_lt_of_le h.lt ho.size, fun i x hx j hj => (World.cell?_of_block (a := ⟨g, i * 5 + j, none⟩) e).trans (h.cell i x hx j hj), fun j => by
    have := h.free j
    unfold World.frozen? at this ⊢
    rw [e]
    exact this⟩
/-- What an own row of instructions shows: nothing, or a block from base on. -/
def OwnJ (W : World) (base : Nat) (A : Option Addr) (is : List Ins) : Prop := is = [] ∨ ∃ g, A = some ⟨g, 0, none⟩ ∧ base ≤ g ∧ OwnI W g is
theorem OwnJ.mk {W : World} {base n c : Nat} {A : Option Addr} {is : List Ins} (h : W.ownsRow base 50 5 (.slice A n c) n (flat Ins.cells is)) (hn : is.length = n) : OwnJ W base A is := by
  by_cases h0 : 0 < n
  · obtain ⟨g, cap, he, hb, hlt⟩ := h.form h0
    injection he with h1 _ h3
    subst h1 h3
    refine .inr ⟨g, rfl, hb, hlt, fun i v hv j hj => ?_, h.frozenAt⟩
    have hi := (List.getElem?_eq_some_iff.1 hv).1
    rw [h.cellAt _ (by omega)]
    exact flat_get Ins.cells_length is i j v hv hj
  · exact .inl (List.eq_nil_of_length_eq_zero (by omega))
theorem OwnJ.prg {W : World} {base : Nat} {A : Option Addr} {is : List Ins} (h : OwnJ W base A is) : Prg W A is := by
  rcases h with rfl | ⟨g, rfl, _, h⟩
  · exact Rd.nil _ _ _
  · exact h.prg
theorem one_set (is : List Ins) (t : Nat) (x : Ins) (h : is[t]? = some x) : ((is.take t).map Ins.one ++ is.drop t).set t x.one = (is.take (t + 1)).map Ins.one ++ is.drop (t + 1) := by
  have hl : t < is.length := (List.getElem?_eq_some_iff.1 h).1
  have hu : is[t] = x := (List.getElem?_eq_some_iff.1 h).2
  have e : ((is.take t).map Ins.one).length = t := by simp; omega
  rw [List.drop_eq_getElem_cons hl, List.set_append_right _ _ (by omega), e, Nat.sub_self, List.set_cons_zero, List.take_add_one, h, List.map_append, List.append_assoc]
  rfl
/-- One field of a known block turned. -/
theorem Bx.field {W : World} {b : Nat} {cs : Array Value} (h : Bx W b cs) (j : Nat) (hj : j < cs.size) (u : Value) : Bx (W.setCell ⟨b, j, none⟩ u) b (cs.set j u hj) := by
  refine ⟨Nat.lt_of_lt_of_le h.lt ((Only.refl b W).set _ _).size, fun k => ?_, fun k => by rw [World.frozen?_setCell]; exact h.free k⟩
  by_cases e : j = k
  · subst e
    rw [World.cell?_setCell_same _ _ _ ((h.cell j).trans (Array.getElem?_eq_getElem hj))]
    simp
  · rw [World.cell?_setCell_other _ _ _ _ (fun x => by injection x with _ x; omega), h.cell k, Array.getElem?_set_ne]
    exact e

end Go.Proofs.Yteiabmbfjfaboaa
