/-
  The acts that HamtKeeps is handed.
-/
import Derived.Test.YtfoifcbaadnigaaArOpen
import Derived.Deep.Slices
set_option linter.unusedVariables false
set_option linter.unusedSimpArgs false
namespace Go.Proofs.Ytfoifcbaadnigaa
open Go.ChangeShapes Go.WideShapes Go.ChangeAt Go.RowKit Go.Joins Go.Deep
variable {H : Type} {enc : TypeId × Value → H} {w : World} {base : Nat} {spare : Nat → Bool} {held : Bool}
structure Ac where
  drop : Bool
  kind : Int
  at_ : Int
def Ac.cells (x : Ac) : List Value := [.bool x.drop, .int .i64 x.kind, .int .i64 x.at_]
theorem Ac.cells_length (x : Ac) : x.cells.length = 3 := rfl
def Ac.Ok (x : Ac) : Prop := (Lit.int .i64 x.kind).wf = true ∧ (Lit.int .i64 x.at_).wf = true
theorem cells_abool : Try.prog.cellsOf 4 = 1 := by kernel_rfl
theorem cells_act : Try.prog.cellsOf 34 = 3 := by kernel_rfl
set_option maxRecDepth 100000 in
theorem open_ac {fuel : Nat} {cs : List Value} {x : DataW H × List MemPlace} (h : DataW.trod enc Try.prog w base spare held fuel 34 cs = some x) : ∃ y : Ac, cs = y.cells ∧ y.Ok := by
  obtain ⟨xs, n, _, rfl, hl, hlen, hf⟩ := DataW.trod_struct Try.underlying34 h
  rw [cells_act] at hl
  match cs, hl with
  | [c0, c1, c2], _ =>
    have hx (i : Nat) (hi : i < 3) : xs[i]? = some (xs[i]'(by rw [hlen]; exact hi)) := List.getElem?_eq_getElem _
    have h0 := hf 0 _ rfl
    have h1 := hf 1 _ rfl
    have h2 := hf 2 _ rfl
    simp only [List.getElem_toArray, List.getElem_cons_zero, List.getElem_cons_succ] at h0 h1 h2
    rw [cells_abool, hx 0 (by omega)] at h0
    rw [cells_int64, hx 1 (by omega)] at h1
    rw [cells_int64, hx 2 (by omega)] at h2
    obtain ⟨b0, e0, _⟩ := DataW.trod_bool Try.underlying4 h0
    obtain ⟨a1, e1, _, w1⟩ := DataW.trod_int Try.underlying2 h1
    obtain ⟨a2, e2, _, w2⟩ := DataW.trod_int Try.underlying2 h2
    simp at e0 e1 e2
    subst e0 e1 e2
    exact ⟨⟨b0, a1, a2⟩, rfl, w1, w2⟩

set_option maxRecDepth 100000 in
theorem open_acts {fuel : Nat} {c0 : Value} {x : DataW H × List MemPlace} (h : DataW.trod enc Try.prog w base spare held fuel 22 [c0] = some x) :
    ∃ (A : Option Addr) (n c : Nat) (ns : List Ac), c0 = .slice A n c ∧ n ≤ c ∧ c ≤ maxLen ∧ Rd w 3 A n (flat Ac.cells ns) ∧ ∀ y ∈ ns, y.Ok := by
  rcases open_slice Try.underlying22 h with ⟨hcs, _⟩ | ⟨a, l, c', m, n', D, Pl, hcs, hb, hl, hm, hmm, _, hx⟩
  · simp at hcs
    subst hcs
    exact ⟨none, 0, 0, [], rfl, Nat.le_refl _, Nat.zero_le _, Rd.nil _ _ _, by simp⟩
  · simp at hcs
    subst hcs
    have hnm : l ≤ m := by rw [hmm]; split <;> omega
    haveI : Inhabited Ac := ⟨⟨false, 0, 0⟩⟩
    obtain ⟨V, hV⟩ := choose_lt (α := Ac) (n := l) (p := fun i y => (∀ j, j < 3 → w.cell? (a.add (i * 3 + j)) = y.cells[j]?) ∧ y.Ok) (fun i hi => by
      obtain ⟨cs', g1, g2⟩ := hx i (by omega)
      rw [cells_act] at g1
      obtain ⟨_, hlen, hat⟩ := World.cells?_some g1
      obtain ⟨y, rfl, hok⟩ := open_ac g2
      refine ⟨y, fun j hj => ?_, hok⟩
      rw [← addr_add]
      exact hat j hj)
    have hlen : ((List.range l).map V).length = l := by simp
    have hget : ∀ i y, ((List.range l).map V)[i]? = some y → i < l ∧ y = V i := fun i y hy => by
      rw [List.getElem?_map] at hy
      obtain ⟨i', hi', rfl⟩ := Option.map_eq_some_iff.1 hy
      have hil := (List.getElem?_eq_some_iff.1 hi').1
      have : i' = i := by
        have := (List.getElem?_eq_some_iff.1 hi').2
        simpa using this.symm
      subst this
      exact ⟨by simpa using hil, rfl⟩
    refine ⟨some a, l, c', (List.range l).map V, rfl, hl, hm, ?_, fun y hy => ?_⟩
    · have := Rd.of_flat (w := w) (ad := a) Ac.cells_length (by omega) (xs := (List.range l).map V) (fun i y hy j hj => by
        obtain ⟨hi, rfl⟩ := hget i y hy
        exact (hV i hi).1 j hj)
      rwa [hlen] at this
    · obtain ⟨i, hi, rfl⟩ := List.mem_map.1 hy
      exact (hV i (by simpa using hi)).2

set_option maxRecDepth 100000 in
theorem open_actrow {r : Reach} {b0 : Nat} {v : Value} {d : DataW H} {p : List MemPlace} (hv : Value.okWide Try.prog w r b0 22 v) (h : DataW.Trod enc Try.prog w base spare held 22 v d p) :
    ∃ (A : Option Addr) (n c : Nat) (l : List Ac), v = .slice A n c ∧ n ≤ c ∧ c ≤ maxLen ∧ Rd w 3 A n (flat Ac.cells l) ∧ ∀ y ∈ l, y.Ok := by
  obtain ⟨A, n, c, rfl⟩ := okWide_slice Try.underlying22 hv
  obtain ⟨fuel, hf⟩ := h
  obtain ⟨A', n', c', l, e, h1, h2, h3, h4⟩ := open_acts (c0 := .slice A n c) (by simpa [Value.cells] using hf)
  injection e with e1 e2 e3
  subst e1 e2 e3
  exact ⟨_, _, _, l, rfl, h1, h2, h3, h4⟩

end Go.Proofs.Ytfoifcbaadnigaa
