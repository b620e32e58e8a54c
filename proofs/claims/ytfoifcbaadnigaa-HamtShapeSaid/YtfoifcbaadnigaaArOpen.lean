/-
  Arguments opened: a node, an arena, references.
-/
import Derived.Test.YtfoifcbaadnigaaGB
import Derived.Test.YtfoifcbaadnigaaGA
import Derived.Deep.Slices
import Derived.Deep.Fields
import Derived.OpenShut
set_option linter.unusedVariables false
set_option linter.unusedSimpArgs false
set_option maxRecDepth 100000
namespace Go.Proofs.Ytfoifcbaadnigaa
open Go.ChangeShapes Go.WideShapes Go.ChangeAt Go.RowKit Go.Joins Go.Deep

theorem cells_int : Try.prog.cellsOf 3 = 1 := by kernel_rfl
theorem cells_int64 : Try.prog.cellsOf 2 = 1 := by kernel_rfl
theorem cells_ref : Try.prog.cellsOf 31 = 1 := by kernel_rfl
theorem cells_kids : Try.prog.cellsOf 66 = 9 := by kernel_rfl
theorem cells_node : Try.prog.cellsOf 68 = 16 := by kernel_rfl
theorem cells_arena : Try.prog.cellsOf 26 = 2 := by kernel_rfl
theorem cells_nodes : Try.prog.cellsOf 23 = 1 := by kernel_rfl
theorem cells_ints : Try.prog.cellsOf 24 = 1 := by kernel_rfl
theorem u64_bounds {z : Int} (h : (Lit.int .u64 z).wf = true) : 0 ≤ z ∧ z ≤ 18446744073709551615 := by
  have h1 : IntKind.u64.min = 0 := by decide
  have h2 : IntKind.u64.max = 18446744073709551615 := by decide
  simpa only [Lit.wf, h1, h2, Bool.and_eq_true, decide_eq_true_eq] using h

section
variable {H : Type} {enc : TypeId × Value → H} {w : World} {base : Nat} {spare : Nat → Bool} {held : Bool}

set_option maxHeartbeats 1600000 in
theorem open_nd {fuel : Nat} {cs : List Value} {x : DataW H × List MemPlace} (h : DataW.trod enc Try.prog w base spare held fuel 68 cs = some x) : ∃ y : Nd, cs = y.cells ∧ y.Ok := by
  obtain ⟨xs, n, _, rfl, hl, hlen, hf⟩ := DataW.trod_struct Try.underlying68 h
  rw [cells_node] at hl
  match cs, hl with
  | [c0, c1, c2, c3, c4, c5, c6, c7, c8, c9, c10, c11, c12, c13, c14, c15], _ =>
    have hx (i : Nat) (hi : i < 8) : xs[i]? = some (xs[i]'(by rw [hlen]; exact hi)) := List.getElem?_eq_getElem _
    have h0 := hf 0 _ rfl
    have h1 := hf 1 _ rfl
    have h2 := hf 2 _ rfl
    have h3 := hf 3 _ rfl
    have h4 := hf 4 _ rfl
    have h6 := hf 6 _ rfl
    have h7 := hf 7 _ rfl
    have h5 := hf 5 _ rfl
    simp only [List.getElem_toArray, List.getElem_cons_zero, List.getElem_cons_succ] at h0 h1 h2 h3 h4 h5 h6 h7
    rw [cells_int, hx 0 (by omega)] at h0
    obtain ⟨a0, e0, _⟩ := DataW.trod_int Try.underlying3 h0
    rw [cells_int, hx 1 (by omega)] at h1
    obtain ⟨a1, e1, _⟩ := DataW.trod_int Try.underlying3 h1
    rw [cells_int64, hx 2 (by omega)] at h2
    obtain ⟨a2, e2, _⟩ := DataW.trod_int Try.underlying2 h2
    rw [cells_int64, hx 3 (by omega)] at h3
    obtain ⟨a3, e3, _⟩ := DataW.trod_int Try.underlying2 h3
    rw [cells_int64, hx 4 (by omega)] at h4
    obtain ⟨a4, e4, _⟩ := DataW.trod_int Try.underlying2 h4
    rw [cells_int, hx 6 (by omega)] at h6
    obtain ⟨a14, e14, _⟩ := DataW.trod_int Try.underlying3 h6
    rw [cells_int, hx 7 (by omega)] at h7
    obtain ⟨a15, e15, _⟩ := DataW.trod_int Try.underlying3 h7
    rw [cells_kids, hx 5 (by omega)] at h5
    obtain ⟨ys, m, _, _, _, hyl, hy⟩ := DataW.trod_array Try.underlying66 h5
    have hyx (i : Nat) (hi : i < 9) : ys[i]? = some (ys[i]'(by rw [hyl]; exact hi)) := List.getElem?_eq_getElem _
    have g0 := hy 0 (by omega)
    rw [cells_ref, hyx 0 (by omega)] at g0
    obtain ⟨a5, e5, _, w0⟩ := DataW.trod_int Try.underlying31 g0
    have g1 := hy 1 (by omega)
    rw [cells_ref, hyx 1 (by omega)] at g1
    obtain ⟨a6, e6, _, w1⟩ := DataW.trod_int Try.underlying31 g1
    have g2 := hy 2 (by omega)
    rw [cells_ref, hyx 2 (by omega)] at g2
    obtain ⟨a7, e7, _, w2⟩ := DataW.trod_int Try.underlying31 g2
    have g3 := hy 3 (by omega)
    rw [cells_ref, hyx 3 (by omega)] at g3
    obtain ⟨a8, e8, _, w3⟩ := DataW.trod_int Try.underlying31 g3
    have g4 := hy 4 (by omega)
    rw [cells_ref, hyx 4 (by omega)] at g4
    obtain ⟨a9, e9, _, w4⟩ := DataW.trod_int Try.underlying31 g4
    have g5 := hy 5 (by omega)
    rw [cells_ref, hyx 5 (by omega)] at g5
    obtain ⟨a10, e10, _, w5⟩ := DataW.trod_int Try.underlying31 g5
    have g6 := hy 6 (by omega)
    rw [cells_ref, hyx 6 (by omega)] at g6
    obtain ⟨a11, e11, _, w6⟩ := DataW.trod_int Try.underlying31 g6
    have g7 := hy 7 (by omega)
    rw [cells_ref, hyx 7 (by omega)] at g7
    obtain ⟨a12, e12, _, w7⟩ := DataW.trod_int Try.underlying31 g7
    have g8 := hy 8 (by omega)
    rw [cells_ref, hyx 8 (by omega)] at g8
    obtain ⟨a13, e13, _, w8⟩ := DataW.trod_int Try.underlying31 g8
    simp at e0 e1 e2 e3 e4 e5 e6 e7 e8 e9 e10 e11 e12 e13 e14 e15
    subst e0 e1 e2 e3 e4 e5 e6 e7 e8 e9 e10 e11 e12 e13 e14 e15
    refine ⟨⟨a0, a1, a2, a3, a4, a5, a6, a7, a8, a9, a10, a11, a12, a13, a14, a15⟩, rfl, fun r hr => ?_⟩
    simp only [Nd.kids, List.mem_cons, List.not_mem_nil, or_false] at hr
    rcases hr with rfl | rfl | rfl | rfl | rfl | rfl | rfl | rfl | rfl
    · exact u64_bounds w0
    · exact u64_bounds w1
    · exact u64_bounds w2
    · exact u64_bounds w3
    · exact u64_bounds w4
    · exact u64_bounds w5
    · exact u64_bounds w6
    · exact u64_bounds w7
    · exact u64_bounds w8

theorem open_node {r : Reach} {b0 : Nat} {v : Value} {d : DataW H} {p : List MemPlace} (hv : Value.okWide Try.prog w r b0 68 v) (h : DataW.Trod enc Try.prog w base spare held 68 v d p) :
    ∃ y : Nd, v = .agg y.arr ∧ y.Ok := by
  obtain ⟨cs, rfl, hsz⟩ := okWide_struct Try.underlying68 hv
  obtain ⟨fuel, hf⟩ := h
  obtain ⟨y, hy, hok⟩ := open_nd hf
  refine ⟨y, ?_, hok⟩
  obtain ⟨l⟩ := cs
  simp only [Value.cells] at hy
  have : l = y.cells := by simpa using hy
  rw [this]
  rfl

theorem open_nodes {fuel : Nat} {c0 : Value} {x : DataW H × List MemPlace} (h : DataW.trod enc Try.prog w base spare held fuel 23 [c0] = some x) :
    ∃ (A : Option Addr) (n c : Nat) (ns : List Nd), c0 = .slice A n c ∧ n ≤ c ∧ c ≤ maxLen ∧ Rd w 16 A n (flat Nd.cells ns) ∧ ∀ y ∈ ns, y.Ok := by
  rcases open_slice Try.underlying23 h with ⟨hcs, _⟩ | ⟨a, l, c', m, n', D, Pl, hcs, hb, hl, hm, hmm, _, hx⟩
  · simp at hcs
    subst hcs
    exact ⟨none, 0, 0, [], rfl, Nat.le_refl _, Nat.zero_le _, Rd.nil _ _ _, by simp⟩
  · simp at hcs
    subst hcs
    have hnm : l ≤ m := by rw [hmm]; split <;> omega
    haveI : Inhabited Nd := ⟨bare 0⟩
    obtain ⟨V, hV⟩ := choose_lt (α := Nd) (n := l) (p := fun i y => (∀ j, j < 16 → w.cell? (a.add (i * 16 + j)) = y.cells[j]?) ∧ y.Ok) (fun i hi => by
      obtain ⟨cs', g1, g2⟩ := hx i (by omega)
      rw [cells_node] at g1
      obtain ⟨_, hlen, hat⟩ := World.cells?_some g1
      obtain ⟨y, rfl, hok⟩ := open_nd g2
      refine ⟨y, fun j hj => ?_, hok⟩
      rw [← addr_add]
      exact hat j hj)
    have hlen : ((List.range l).map V).length = l := by simp
    have hget : ∀ i y, ((List.range l).map V)[i]? = some y → i < l ∧ y = V i := fun i y hy => by
      rw [List.getElem?_map] at hy
      obtain ⟨i', hi', rfl⟩ := Option.map_eq_some_iff.1 hy
      have hil := (List.getElem?_eq_some_iff.1 hi').1
      have : i' = i := by
        have := (List.getElem?_eq_some_iff.1 hi').2
        simpa using this.symm
      subst this
      exact ⟨by simpa using hil, rfl⟩
    refine ⟨some a, l, c', (List.range l).map V, rfl, hl, hm, ?_, fun y hy => ?_⟩
    · have := Rd.of_flat (w := w) (ad := a) Nd.cells_length (by omega) (xs := (List.range l).map V) (fun i y hy j hj => by
        obtain ⟨hi, rfl⟩ := hget i y hy
        exact (hV i hi).1 j hj)
      rwa [hlen] at this
    · obtain ⟨i, hi, rfl⟩ := List.mem_map.1 hy
      exact (hV i (by simpa using hi)).2

theorem open_arena {r : Reach} {b0 : Nat} {v : Value} {d : DataW H} {p : List MemPlace} (hv : Value.okWide Try.prog w r b0 26 v) (h : DataW.Trod enc Try.prog w base spare held 26 v d p) :
    ∃ (A B : Option Addr) (n m c d : Nat) (ns : List Nd) (fs : List Int), v = .agg #[.slice A n c, .slice B m d] ∧ Ar w A n B m ns fs ∧ n ≤ c ∧ m ≤ d ∧ c ≤ maxLen ∧ d ≤ maxLen ∧ ∀ z ∈ fs, (Lit.int .i64 z).wf = true := by
  obtain ⟨cs, rfl, hsz⟩ := okWide_struct Try.underlying26 hv
  obtain ⟨fuel, hf⟩ := h
  obtain ⟨xs, n, _, _, hl, hlen, hg⟩ := DataW.trod_struct Try.underlying26 hf
  obtain ⟨l⟩ := cs
  simp only [Value.cells] at hl hg
  rw [cells_arena] at hl
  match l, hl with
  | [c0, c1], _ =>
    have hx (i : Nat) (hi : i < 2) : xs[i]? = some (xs[i]'(by rw [hlen]; exact hi)) := List.getElem?_eq_getElem _
    have h0 := hg 0 _ rfl
    have h1 := hg 1 _ rfl
    simp only [List.getElem_toArray, List.getElem_cons_zero, List.getElem_cons_succ] at h0 h1
    rw [cells_nodes, hx 0 (by omega)] at h0
    rw [cells_ints, hx 1 (by omega)] at h1
    obtain ⟨A, n0, c, ns, e0, hn0, hc, hr0, hok⟩ := open_nodes (c0 := c0) (by simpa using h0)
    subst e0
    rcases open_ints Try.underlying24 Try.underlying3 cells_int (show DataW.trod enc Try.prog w base spare held n 24 [c1] = _ by simpa using h1) with ⟨hcs, _⟩ | ⟨b, l', c', zs, hcs, _, hl', hm', hz, _, hcell, hwz⟩
    · simp at hcs
      subst hcs
      exact ⟨A, none, n0, 0, c, 0, ns, [], rfl, ⟨hr0, Rd.nil _ _ _, hok⟩, hn0, Nat.le_refl _, hc, Nat.zero_le _, by simp⟩
    · simp at hcs
      subst hcs
      have hlen' : l' ≤ zs.length := by rw [hz]; split <;> omega
      refine ⟨A, some b, n0, l', c, c', ns, zs.take l', rfl, ⟨hr0, ⟨by simp [Ks]; omega, fun j u hu => ⟨b, rfl, ?_⟩⟩, hok⟩, hn0, hl', hc, hm', fun z hz' => hwz z (List.mem_of_mem_take hz')⟩
      unfold Ks at hu
      rw [List.getElem?_map, List.getElem?_take] at hu
      split at hu
      · rename_i hj
        have hj' : j < zs.length := by omega
        rw [hcell j hj', ← hu, List.getD_eq_getElem?_getD, List.getElem?_eq_getElem hj']
        rfl
      · cases hu
end
end Go.Proofs.Ytfoifcbaadnigaa
