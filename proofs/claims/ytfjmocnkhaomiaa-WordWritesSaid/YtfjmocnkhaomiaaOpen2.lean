/-
  Arguments opened: a slice of structs of four integers.
-/
import Derived.Test.YtfjmocnkhaomiaaOpen
import Derived.Deep.Slices
import Derived.Deep.Fields
namespace Go.Proofs.Ytfjmocnkhaomiaa
open Go.ChangeShapes Go.WideShapes Go.ChangeAt Go.RowKit Go.Joins Go.Deep

/-- The slice with address A shows at each of its n places i the four numbers V i, of these kinds. -/
def Recs (w : World) (k0 k1 k2 k3 : IntKind) (A : Option Addr) (n : Nat) (V : Nat → Int × Int × Int × Int) : Prop :=
  ∀ i, i < n → ∃ ad, A = some ad ∧ w.cell? (ad.add (i * 4)) = some (.int k0 (V i).1) ∧ w.cell? ((ad.add (i * 4)).add 1) = some (.int k1 (V i).2.1) ∧
    w.cell? ((ad.add (i * 4)).add 2) = some (.int k2 (V i).2.2.1) ∧ w.cell? ((ad.add (i * 4)).add 3) = some (.int k3 (V i).2.2.2)
theorem Recs.to {w w' : World} {k0 k1 k2 k3 : IntKind} {A : Option Addr} {n : Nat} {V : Nat → Int × Int × Int × Int} (h : Recs w k0 k1 k2 k3 A n V) (e : Ext w w') : Recs w' k0 k1 k2 k3 A n V := fun i hi => by
  obtain ⟨ad, ha, h0, h1, h2, h3⟩ := h i hi
  exact ⟨ad, ha, e.cellOf h0, e.cellOf h1, e.cellOf h2, e.cellOf h3⟩

section
variable {H : Type} {enc : TypeId × Value → H} {P : Program} {w : World} {base : Nat} {spare : Nat → Bool} {held : Bool}
theorem open_steps {r : Reach} {b0 : Nat} {t e : TypeId} {f0 f1 f2 f3 : Field} {k0 k1 k2 k3 : IntKind} {v : Value} {d : DataW H} {p : List MemPlace} (ht : P.underlying t = some (.slice e))
    (hs : P.underlying e = some (.struct #[f0, f1, f2, f3])) (hone : oneCellFields P #[f0, f1, f2, f3] = true) (hC : P.cellsOf e = 4)
    (u0 : P.underlying f0.type = some (.int k0)) (u1 : P.underlying f1.type = some (.int k1)) (u2 : P.underlying f2.type = some (.int k2)) (u3 : P.underlying f3.type = some (.int k3))
    (hv : Value.okWide P w r b0 t v) (h : DataW.Trod enc P w base spare held t v d p) :
    ∃ (A : Option Addr) (n c : Nat) (V : Nat → Int × Int × Int × Int), v = .slice A n c ∧ n ≤ c ∧ c ≤ maxLen ∧ Recs w k0 k1 k2 k3 A n V ∧
      ∀ i, i < n → (Lit.int k0 (V i).1).wf = true ∧ (Lit.int k1 (V i).2.1).wf = true ∧ (Lit.int k2 (V i).2.2.1).wf = true ∧ (Lit.int k3 (V i).2.2.2).wf = true := by
  obtain ⟨A, n, c, rfl⟩ := okWide_slice ht hv
  obtain ⟨fuel, hf⟩ := h
  rcases open_slice ht hf with ⟨hcs, _⟩ | ⟨a, l, c', m, n', D, Pl, hcs, hb, hl, hm, hmm, _, hx⟩
  · simp [Value.cells] at hcs
    obtain ⟨rfl, rfl, rfl⟩ := hcs
    exact ⟨none, 0, 0, fun _ => (0, 0, 0, 0), rfl, Nat.le_refl _, Nat.zero_le _, fun i hi => by omega, fun i hi => by omega⟩
  · simp [Value.cells] at hcs
    obtain ⟨rfl, rfl, rfl⟩ := hcs
    have hnm : n ≤ m := by rw [hmm]; split <;> omega
    obtain ⟨V, hV⟩ := choose_lt (α := Int × Int × Int × Int) (n := n) (p := fun i y => (w.cell? (a.add (i * 4)) = some (.int k0 y.1) ∧ w.cell? ((a.add (i * 4)).add 1) = some (.int k1 y.2.1) ∧
        w.cell? ((a.add (i * 4)).add 2) = some (.int k2 y.2.2.1) ∧ w.cell? ((a.add (i * 4)).add 3) = some (.int k3 y.2.2.2)) ∧
        (Lit.int k0 y.1).wf = true ∧ (Lit.int k1 y.2.1).wf = true ∧ (Lit.int k2 y.2.2.1).wf = true ∧ (Lit.int k3 y.2.2.2).wf = true) (fun i hi => by
      obtain ⟨cs', g1, g2⟩ := hx i (by omega)
      rw [hC] at g1
      obtain ⟨_, hlen, hat⟩ := World.cells?_some g1
      obtain ⟨y0, y1, y2, y3, q, _, _, z0, z1, z2, z3⟩ := trod_struct4 hs g2
      obtain ⟨o0, l0⟩ := hone_of hone 0 f0 rfl
      obtain ⟨o1, l1⟩ := hone_of hone 1 f1 rfl
      obtain ⟨o2, l2⟩ := hone_of hone 2 f2 rfl
      obtain ⟨o3, l3⟩ := hone_of hone 3 f3 rfl
      match cs', hlen with
      | [c0, c1, c2, c3], _ =>
        simp only [o0, l0, o1, l1, o2, l2, o3, l3, List.drop, List.take] at z0 z1 z2 z3
        obtain ⟨x0, e0, _, w0⟩ := DataW.trod_int u0 z0
        obtain ⟨x1, e1, _, w1⟩ := DataW.trod_int u1 z1
        obtain ⟨x2, e2, _, w2⟩ := DataW.trod_int u2 z2
        obtain ⟨x3, e3, _, w3⟩ := DataW.trod_int u3 z3
        simp at e0 e1 e2 e3
        subst e0 e1 e2 e3
        refine ⟨(x0, x1, x2, x3), ⟨?_, hat 1 (by omega), hat 2 (by omega), hat 3 (by omega)⟩, w0, w1, w2, w3⟩
        have := hat 0 (by omega)
        simpa [Addr.add] using this)
    refine ⟨some a, n, c, V, rfl, hl, hm, fun i hi => ?_, fun i hi => (hV i hi).2⟩
    exact ⟨a, rfl, (hV i hi).1⟩
end
end Go.Proofs.Ytfjmocnkhaomiaa
