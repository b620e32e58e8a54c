/-
  Arguments opened: a process, and a row of them.
-/
import Derived.Test.YteiabmbfjfaboaaCopies
import Derived.Test.YteiabmbfjfaboaaOpen
import Derived.Deep.Slices
import Derived.Deep.Fields
import Derived.Laws.IdiomArrays
set_option linter.unusedVariables false
set_option linter.unusedSimpArgs false
namespace Go.Proofs.Yteiabmbfjfaboaa
open Go.ChangeShapes Go.WideShapes Go.ChangeAt Go.RowKit Go.Joins Go.Deep

theorem Rd.of_flat {α : Type} {f : α → List Value} {s : Nat} (hf : ∀ x, (f x).length = s) (hs : 0 < s) {w : World} {ad : Addr} {xs : List α}
    (h : ∀ i x, xs[i]? = some x → ∀ j, j < s → w.cell? (ad.add (i * s + j)) = (f x)[j]?) : Rd w s (some ad) xs.length (flat f xs) := by
  refine ⟨flat_length hf xs, fun j u hu => ⟨ad, rfl, ?_⟩⟩
  have hj : j < xs.length * s := by
    have := (List.getElem?_eq_some_iff.1 hu).1
    rwa [flat_length hf] at this
  have hi : j / s < xs.length := by
    rw [Nat.div_lt_iff_lt_mul hs]
    exact hj
  have hv : xs[j / s]? = some xs[j / s] := List.getElem?_eq_getElem hi
  have e : j = j / s * s + j % s := by
    have := Nat.div_add_mod j s
    rw [Nat.mul_comm] at this
    exact this.symm
  have hm := Nat.mod_lt j hs
  have h1 := h _ _ hv (j % s) hm
  rw [← flat_get hf xs _ _ _ hv hm, ← e] at h1
  rw [h1]
  exact hu

theorem cells_int : Try.prog.cellsOf 3 = 1 := by kernel_rfl
theorem cells_u64 : Try.prog.cellsOf 24 = 1 := by kernel_rfl
theorem cells_bool : Try.prog.cellsOf 4 = 1 := by kernel_rfl
theorem cells_instr : Try.prog.cellsOf 50 = 5 := by kernel_rfl
theorem cells_proc : Try.prog.cellsOf 27 = 8 := by kernel_rfl
theorem cells_regs : Try.prog.cellsOf 25 = 4 := by kernel_rfl
theorem cells_prog : Try.prog.cellsOf 23 = 1 := by kernel_rfl

section
variable {H : Type} {enc : TypeId × Value → H} {w : World} {base : Nat} {spare : Nat → Bool} {held : Bool}

theorem open_ins {fuel : Nat} {cs : List Value} {x : DataW H × List MemPlace} (h : DataW.trod enc Try.prog w base spare held fuel 50 cs = some x) : ∃ y : Ins, cs = y.cells := by
  obtain ⟨xs, n, _, rfl, hl, hlen, hf⟩ := DataW.trod_struct Try.underlying50 h
  rw [cells_instr] at hl
  match cs, hl with
  | [c0, c1, c2, c3, c4], _ =>
    have hx (i : Nat) (hi : i < 5) : xs[i]? = some (xs[i]'(by rw [hlen]; exact hi)) := List.getElem?_eq_getElem _
    have h0 := hf 0 _ rfl
    have h1 := hf 1 _ rfl
    have h2 := hf 2 _ rfl
    have h3 := hf 3 _ rfl
    have h4 := hf 4 _ rfl
    simp only [List.getElem_toArray, List.getElem_cons_zero, List.getElem_cons_succ] at h0 h1 h2 h3 h4
    rw [cells_int, hx 0 (by omega)] at h0
    rw [cells_int, hx 1 (by omega)] at h1
    rw [cells_int, hx 2 (by omega)] at h2
    rw [cells_u64, hx 3 (by omega)] at h3
    rw [cells_int, hx 4 (by omega)] at h4
    obtain ⟨a0, e0, _⟩ := DataW.trod_int Try.underlying3 h0
    obtain ⟨a1, e1, _⟩ := DataW.trod_int Try.underlying3 h1
    obtain ⟨a2, e2, _⟩ := DataW.trod_int Try.underlying3 h2
    obtain ⟨a3, e3, _⟩ := DataW.trod_int Try.underlying24 h3
    obtain ⟨a4, e4, _⟩ := DataW.trod_int Try.underlying3 h4
    simp at e0 e1 e2 e3 e4
    subst e0 e1 e2 e3 e4
    exact ⟨⟨a0, a1, a2, a3, a4⟩, rfl⟩

theorem open_prg {fuel : Nat} {c0 : Value} {x : DataW H × List MemPlace} (h : DataW.trod enc Try.prog w base spare held fuel 23 [c0] = some x) :
    ∃ (A : Option Addr) (c : Nat) (is : List Ins), c0 = .slice A is.length c ∧ is.length ≤ c ∧ c ≤ maxLen ∧ Prg w A is := by
  rcases open_slice Try.underlying23 h with ⟨hcs, _⟩ | ⟨a, l, c', m, n', D, Pl, hcs, hb, hl, hm, hmm, _, hx⟩
  · simp at hcs
    subst hcs
    exact ⟨none, 0, [], rfl, Nat.zero_le _, Nat.zero_le _, Rd.nil _ _ _⟩
  · simp at hcs
    subst hcs
    have hnm : l ≤ m := by rw [hmm]; split <;> omega
    haveI : Inhabited Ins := ⟨⟨0, 0, 0, 0, 0⟩⟩
    obtain ⟨V, hV⟩ := choose_lt (α := Ins) (n := l) (p := fun i y => ∀ j, j < 5 → w.cell? (a.add (i * 5 + j)) = y.cells[j]?) (fun i hi => by
      obtain ⟨cs', g1, g2⟩ := hx i (by omega)
      rw [cells_instr] at g1
      obtain ⟨_, hlen, hat⟩ := World.cells?_some g1
      obtain ⟨y, rfl⟩ := open_ins g2
      refine ⟨y, fun j hj => ?_⟩
      rw [← addr_add]
      exact hat j hj)
    have hlen : ((List.range l).map V).length = l := by simp
    refine ⟨some a, c', (List.range l).map V, by rw [hlen], by rw [hlen]; exact hl, hm, Rd.of_flat Ins.cells_length (by omega) (fun i y hy j hj => ?_)⟩
    rw [List.getElem?_map] at hy
    obtain ⟨i', hi', rfl⟩ := Option.map_eq_some_iff.1 hy
    have hil := (List.getElem?_eq_some_iff.1 hi').1
    have : i' = i := by
      have := (List.getElem?_eq_some_iff.1 hi').2
      simpa using this.symm
    subst this
    exact hV i' (by simpa using hil) j hj

theorem open_pv {fuel : Nat} {cs : List Value} {x : DataW H × List MemPlace} (h : DataW.trod enc Try.prog w base spare held fuel 27 cs = some x) :
    ∃ v : Pv, cs = v.cells ∧ v.p.prog.length ≤ v.c ∧ v.c ≤ maxLen ∧ Prg w v.A v.p.prog := by
  obtain ⟨xs, n, _, rfl, hl, hlen, hf⟩ := DataW.trod_struct Try.underlying27 h
  rw [cells_proc] at hl
  match cs, hl with
  | [c0, c1, c2, c3, c4, c5, c6, c7], _ =>
    have hx (i : Nat) (hi : i < 5) : xs[i]? = some (xs[i]'(by rw [hlen]; exact hi)) := List.getElem?_eq_getElem _
    have h0 := hf 0 _ rfl
    have h1 := hf 1 _ rfl
    have h2 := hf 2 _ rfl
    have h3 := hf 3 _ rfl
    have h4 := hf 4 _ rfl
    simp only [List.getElem_toArray, List.getElem_cons_zero, List.getElem_cons_succ] at h0 h1 h2 h3 h4
    rw [cells_prog, hx 0 (by omega)] at h0
    rw [cells_int, hx 1 (by omega)] at h1
    rw [cells_regs, hx 2 (by omega)] at h2
    rw [cells_bool, hx 3 (by omega)] at h3
    rw [cells_int, hx 4 (by omega)] at h4
    obtain ⟨A, c, is, e0, hc, hm, hp⟩ := open_prg (c0 := c0) (by simpa using h0)
    obtain ⟨a1, e1, _⟩ := DataW.trod_int Try.underlying3 h1
    obtain ⟨y0, y1, y2, y3, n2, _, z0, z1, z2, z3⟩ := trod_array4 (c0 := c2) (c1 := c3) (c2 := c4) (c3 := c5) Try.underlying25 cells_u64 (by simpa using h2)
    obtain ⟨r0, q0, _⟩ := DataW.trod_int Try.underlying24 z0
    obtain ⟨r1, q1, _⟩ := DataW.trod_int Try.underlying24 z1
    obtain ⟨r2, q2, _⟩ := DataW.trod_int Try.underlying24 z2
    obtain ⟨r3, q3, _⟩ := DataW.trod_int Try.underlying24 z3
    obtain ⟨b3, e3, _⟩ := DataW.trod_bool Try.underlying4 h3
    obtain ⟨a4, e4, _⟩ := DataW.trod_int Try.underlying3 h4
    simp at e0 e1 e3 e4 q0 q1 q2 q3
    subst e0 e1 e3 e4 q0 q1 q2 q3
    exact ⟨⟨A, c, ⟨is, a1, fun j => match j with | 0 => r0 | 1 => r1 | 2 => r2 | _ => r3, b3, a4⟩⟩, rfl, hc, hm, hp⟩

theorem open_proc {r : Reach} {b0 : Nat} {v : Value} {d : DataW H} {p : List MemPlace} (hv : Value.okWide Try.prog w r b0 27 v) (h : DataW.Trod enc Try.prog w base spare held 27 v d p) :
    ∃ (A : Option Addr) (c : Nat) (p : Pc), v = (.agg #[.slice A p.prog.length c, .int .i64 p.at_, .int .u64 (p.rs 0), .int .u64 (p.rs 1), .int .u64 (p.rs 2), .int .u64 (p.rs 3), .bool p.done, .int .i64 p.took]) ∧ p.prog.length ≤ c ∧ c ≤ maxLen ∧ Prg w A p.prog := by
  obtain ⟨cs, rfl, hsz⟩ := okWide_struct Try.underlying27 hv
  obtain ⟨fuel, hf⟩ := h
  obtain ⟨u, hu, h1, h2, h3⟩ := open_pv hf
  refine ⟨u.A, u.c, u.p, ?_, h1, h2, h3⟩
  obtain ⟨l⟩ := cs
  simp only [Value.cells] at hu
  have : l = u.cells := by simpa using hu
  rw [this]
  rfl

theorem open_procs {r : Reach} {b0 : Nat} {v : Value} {d : DataW H} {p : List MemPlace} (hv : Value.okWide Try.prog w r b0 34 v) (h : DataW.Trod enc Try.prog w base spare held 34 v d p) :
    ∃ (A : Option Addr) (n c : Nat) (vs : List Pv), v = .slice A n c ∧ vs.length = n ∧ n ≤ c ∧ c ≤ maxLen ∧ Row w A vs ∧ ∀ u ∈ vs, u.p.prog.length ≤ u.c := by
  obtain ⟨A, n, c, rfl⟩ := okWide_slice Try.underlying34 hv
  obtain ⟨fuel, hf⟩ := h
  rcases open_slice Try.underlying34 hf with ⟨hcs, _⟩ | ⟨a, l, c', m, n', D, Pl, hcs, hb, hl, hm, hmm, _, hx⟩
  · simp [Value.cells] at hcs
    obtain ⟨rfl, rfl, rfl⟩ := hcs
    exact ⟨none, 0, 0, [], rfl, rfl, Nat.le_refl _, Nat.zero_le _, ⟨Rd.nil _ _ _, by simp⟩, by simp⟩
  · simp [Value.cells] at hcs
    obtain ⟨rfl, rfl, rfl⟩ := hcs
    have hnm : n ≤ m := by rw [hmm]; split <;> omega
    haveI : Inhabited Pv := ⟨⟨none, 0, ⟨[], 0, fun _ => 0, false, 0⟩⟩⟩
    obtain ⟨V, hV⟩ := choose_lt (α := Pv) (n := n) (p := fun i y => (∀ j, j < 8 → w.cell? (a.add (i * 8 + j)) = y.cells[j]?) ∧ y.p.prog.length ≤ y.c ∧ Prg w y.A y.p.prog) (fun i hi => by
      obtain ⟨cs', g1, g2⟩ := hx i (by omega)
      rw [cells_proc] at g1
      obtain ⟨_, hlen, hat⟩ := World.cells?_some g1
      obtain ⟨y, rfl, h1, _, h3⟩ := open_pv g2
      refine ⟨y, fun j hj => ?_, h1, h3⟩
      rw [← addr_add]
      exact hat j hj)
    have hlen : ((List.range n).map V).length = n := by simp
    have hget : ∀ i y, ((List.range n).map V)[i]? = some y → i < n ∧ y = V i := fun i y hy => by
      rw [List.getElem?_map] at hy
      obtain ⟨i', hi', rfl⟩ := Option.map_eq_some_iff.1 hy
      have hil := (List.getElem?_eq_some_iff.1 hi').1
      have : i' = i := by
        have := (List.getElem?_eq_some_iff.1 hi').2
        simpa using this.symm
      subst this
      exact ⟨by simpa using hil, rfl⟩
    have hmem : ∀ u ∈ (List.range n).map V, ∃ i, i < n ∧ u = V i := fun u hu => by
      obtain ⟨i, hi, rfl⟩ := List.mem_map.1 hu
      exact ⟨i, by simpa using hi, rfl⟩
    refine ⟨some a, n, c, (List.range n).map V, rfl, hlen, hl, hm, ⟨Rd.of_flat Pv.cells_length (by omega) (fun i y hy j hj => ?_), fun u hu => ?_⟩, fun u hu => ?_⟩
    · obtain ⟨hi, rfl⟩ := hget i y hy
      exact (hV i hi).1 j hj
    · obtain ⟨i, hi, rfl⟩ := hmem u hu
      exact (hV i hi).2.2
    · obtain ⟨i, hi, rfl⟩ := hmem u hu
      exact (hV i hi).2.1
end
end Go.Proofs.Yteiabmbfjfaboaa
