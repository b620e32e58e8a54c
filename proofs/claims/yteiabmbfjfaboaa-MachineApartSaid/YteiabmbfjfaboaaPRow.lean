/-
  Rows of processes that a statement builds by append; what picks come to for processes that add.
-/
import Derived.Test.YteiabmbfjfaboaaAlive
set_option linter.unusedVariables false
set_option linter.unusedSimpArgs false
namespace Go.Proofs.Yteiabmbfjfaboaa
open Go.RowKit

theorem Rd.grown {W W' : World} {size n : Nat} {A : Option Addr} {xs : List Value} {r : Option Nat} (h : Rd W size A n xs) (hg : W.grownBy W' r) (hne : ∀ q, A = some q → r ≠ some q.block) : Rd W' size A n xs :=
  ⟨h.1, fun j u hu => by
    obtain ⟨ad, ha, hc⟩ := h.2 j u hu
    refine ⟨ad, ha, ?_⟩
    have hlt := World.block_lt_of_cell? W _ hc
    rw [← hc]
    refine World.cell?_of_block (hg.block _ hlt (fun e => hne ad ha ?_))
    rw [addr_block] at e
    exact e.symm⟩
theorem own_ext {W W' : World} {base : Nat} {e : TypeId} {size n : Nat} {v : Value} {xs : List Value} (h : W.ownsRow base e size v n xs) (hx : Ext W W') : W'.ownsRow base e size v n xs := by
  refine ⟨h.1, ?_⟩
  rcases h.2 with h' | ⟨g, cap, cur, rfl, hb, hg, hr⟩
  · exact .inl h'
  · refine .inr ⟨g, cap, cur, rfl, hb, ?_, hr⟩
    rw [← hg]
    exact hx.block g (Array.getElem?_eq_some_iff.1 hg).1

/-- In W the value v is a row of the call's own that shows these processes; their programs lie elsewhere. -/
def PRow (W : World) (base : Nat) (v : Value) (vs : List Pv) : Prop :=
  W.ownsRow base 27 8 v vs.length (flat Pv.cells vs) ∧ ∀ u ∈ vs, 0 < u.p.prog.length ∧ Prg W u.A u.p.prog ∧ ∀ q, u.A = some q → v.ownBlock ≠ some q.block
theorem PRow.nil (W : World) (base : Nat) : PRow W base (.slice none 0 0) [] := ⟨⟨rfl, .inl ⟨rfl, rfl⟩⟩, by simp⟩
theorem PRow.to {W W' : World} {base : Nat} {v : Value} {vs : List Pv} (h : PRow W base v vs) (hx : Ext W W') : PRow W' base v vs :=
  ⟨own_ext h.1 hx, fun u hu => ⟨(h.2 u hu).1, (h.2 u hu).2.1.to hx, (h.2 u hu).2.2⟩⟩
theorem PRow.push {W W1 w' : World} {base : Nat} {v v1 : Value} {vs : List Pv} {o : Obj} (h : PRow W base v vs) (hx : Ext W W1) (u : Pv) (h0 : 0 < u.p.prog.length) (hp : Prg W1 u.A u.p.prog) (hf : ∀ q, u.A = some q → W.heap.size ≤ q.block)
    (hown : w'.ownsRow base 27 8 v1 (vs.length + 1) (flat Pv.cells vs ++ u.cells)) (hg : (W1.alloc o).grownBy w' v.ownBlock) (hat : v1.ownBlock = v.ownBlock ∨ v1.ownBlock = some (W1.alloc o).heap.size) : PRow w' base v1 (vs ++ [u]) := by
  refine ⟨?_, fun x hx' => ?_⟩
  · rw [flat_snoc] at hown
    simpa using hown
  · have old : ∀ x ∈ vs ++ [u], 0 < x.p.prog.length ∧ Prg W1 x.A x.p.prog ∧ ∀ q, x.A = some q → v.ownBlock ≠ some q.block := fun x hx' => by
      rcases List.mem_append.1 hx' with h' | h'
      · exact ⟨(h.2 x h').1, (h.2 x h').2.1.to hx, (h.2 x h').2.2⟩
      · rw [List.mem_singleton.1 h']
        refine ⟨h0, hp, fun q hq e => ?_⟩
        have := (h.1.lt _ e).2
        have := hf q hq
        omega
    obtain ⟨hl, h1, h2⟩ := old x hx'
    refine ⟨hl, Rd.grown (h1.to ((Ext.refl W1).new o)) hg h2, fun q hq => ?_⟩
    rcases hat with e | e
    · rw [e]
      exact h2 q hq
    · rw [e]
      intro e'
      injection e' with e'
      obtain ⟨q', hq', hc⟩ := h1.2 0 _ (List.getElem?_eq_getElem (by rw [flat_length Ins.cells_length]; omega))
      rw [hq] at hq'
      injection hq' with hq'
      subst hq'
      have := World.block_lt_of_cell? W1 _ hc
      rw [addr_block] at this
      simp at e'
      omega
theorem PRow.row {W : World} {base : Nat} {A : Option Addr} {c : Nat} {vs : List Pv} {n : Nat} (h : PRow W base (.slice A n c) vs) : Row W A vs ∧ vs.length = n := by
  have hl : vs.length = n := by
    rcases h.1.2 with ⟨h', h0⟩ | ⟨g, cap, cur, h', _⟩
    · injection h' with _ h1 _
      omega
    · injection h' with _ h1 _
      omega
  exact ⟨⟨Rd.own (by have := h.1; rw [hl] at this ⊢; exact this), fun u hu => (h.2 u hu).2.1⟩, hl⟩

end Go.Proofs.Yteiabmbfjfaboaa
