/-
  A region that draws its order, and whose callees only read and make: one walk, in the text's order, in whatever later world.
-/
import Derived.Test.YtmfpgbiicncpcaaBox
import Derived.BigQuiet
set_option linter.unusedVariables false
set_option linter.unusedSimpArgs false
namespace Go.Proofs.Ytmfpgbiicncpcaa
open Go.RowKit

/-- A world in which all of w0's blocks are as they were. -/
structure Later (w0 : World) where
  w : World
  ext : Ext w0 w

instance (w0 : World) : Nonempty (Later w0) := ⟨⟨w0, Ext.refl _⟩⟩

theorem wp_region_later {P : Program} {id : Nat} {Q : Exit → Act → World → Prop} {a : Act} {w : World} {l : List Oper} (w0 : World) (h0 : Ext w0 w) (hm : P.follows .mixedOrders = true) (hB : Region.lexB .any l.toArray = true)
    (h : wpQuiet P l.toArray (fun w' => ∃ q : Later w0, w' = q.w) (fun a' => ∀ w', (∃ q : Later w0, w' = q.w) → Q .normal a' w') l a) : (Code.region id l.toArray true).wp P Q a w :=
  wp_region_quiet (C := fun w' => ∃ q : Later w0, w' = q.w) hm hB ⟨⟨w.drew, h0.drew⟩, rfl⟩ (by simpa using h)

theorem later_call {P : Program} {f : FuncId} {args : Array Value} {w0 : World} {q : Later w0} {v : Value} (h : ∀ W, Ext w0 W → Calls P f args W fun e w' => e = .returned v ∧ Ext W w') :
    Calls P f args q.w fun e w'' => e = .returned v ∧ ∃ q' : Later w0, w'' = q'.w :=
  (h q.w q.ext).mono fun _ w' ⟨he, hx⟩ => ⟨he, ⟨w', q.ext.step hx⟩, rfl⟩
theorem later_same {P : Program} {f : FuncId} {args : Array Value} {w0 : World} {q : Later w0} {v : Value} (h : ∀ W, Ext w0 W → Calls P f args W fun e w' => e = .returned v ∧ W = w') :
    Calls P f args q.w fun e w'' => e = .returned v ∧ ∃ q' : Later w0, w'' = q'.w :=
  (h q.w q.ext).mono fun _ w' ⟨he, hx⟩ => ⟨he, q, hx.symm⟩

end Go.Proofs.Ytmfpgbiicncpcaa
