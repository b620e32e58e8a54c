/-
  Contracts of package machine: copies of processes.
-/
import Derived.Test.YteiabmbfjfaboaaStep3
set_option linter.unusedVariables false
set_option linter.unusedSimpArgs false
namespace Go.Proofs.Yteiabmbfjfaboaa
open Go.RowKit

theorem Only.prg {b : Nat} {W W' : World} {A : Option Addr} {is : List Ins} (h : Only b W W') (hp : Prg W A is) (hn : ∀ q, A = some q → 0 < is.length → q.block ≠ b) : Prg W' A is := by
  by_cases h0 : 0 < is.length
  · exact h.rd hp (fun q hq => hn q hq h0)
  · have : is = [] := List.eq_nil_of_length_eq_zero (by omega)
    subst this
    exact Rd.nil _ _ _

/-- Block g is a row of the call's own that shows these processes; their programs lie elsewhere. -/
structure OwnP (W : World) (g : Nat) (vs : List Pv) : Prop where
  lt : g < W.heap.size
  cell : ∀ i v, vs[i]? = some v → ∀ j, j < 8 → W.cell? ⟨g, i * 8 + j, none⟩ = v.cells[j]?
  free : ∀ j, W.frozen? ⟨g, j, none⟩ = false
  prg : ∀ v ∈ vs, Prg W v.A v.p.prog ∧ ∀ q, v.A = some q → 0 < v.p.prog.length → q.block ≠ g
theorem OwnP.to {W W' : World} {g : Nat} {vs : List Pv} (h : OwnP W g vs) (hx : Ext W W') : OwnP W' g vs :=
  ⟨Nat.lt_of_lt_of_le h.lt hx.size, fun i v hv j hj => (hx.cell (p := ⟨g, i * 8 + j, none⟩) h.lt).trans (h.cell i v hv j hj), fun j => (hx.frozen (p := ⟨g, j, none⟩) h.lt).trans (h.free j), fun v hv => ⟨(h.prg v hv).1.to hx, (h.prg v hv).2⟩⟩
/-- The eight cells of a place, as the walk reads them. -/
theorem OwnP.at {W : World} {g : Nat} {vs : List Pv} (h : OwnP W g vs) {i : Nat} {v : Pv} (hv : vs[i]? = some v) :
    W.cell? ⟨g, i * 8, none⟩ = some (.slice v.A v.p.prog.length v.c) ∧ W.cell? ⟨g, i * 8 + 1, none⟩ = some (.int .i64 v.p.at_) ∧ W.cell? ⟨g, i * 8 + 2, none⟩ = some (.int .u64 (v.p.rs 0)) ∧ W.cell? ⟨g, i * 8 + 3, none⟩ = some (.int .u64 (v.p.rs 1)) ∧
      W.cell? ⟨g, i * 8 + 4, none⟩ = some (.int .u64 (v.p.rs 2)) ∧ W.cell? ⟨g, i * 8 + 5, none⟩ = some (.int .u64 (v.p.rs 3)) ∧ W.cell? ⟨g, i * 8 + 6, none⟩ = some (.bool v.p.done) ∧ W.cell? ⟨g, i * 8 + 7, none⟩ = some (.int .i64 v.p.took) :=
  ⟨h.cell i v hv 0 (by omega), h.cell i v hv 1 (by omega), h.cell i v hv 2 (by omega), h.cell i v hv 3 (by omega), h.cell i v hv 4 (by omega), h.cell i v hv 5 (by omega), h.cell i v hv 6 (by omega), h.cell i v hv 7 (by omega)⟩
theorem addr_zero (g j : Nat) : (⟨g, 0, none⟩ : Addr).add j = ⟨g, j, none⟩ := by
  unfold Addr.add
  split <;> simp_all
theorem OwnP.row {W : World} {g : Nat} {vs : List Pv} (h : OwnP W g vs) : Row W (some ⟨g, 0, none⟩) vs := by
  refine ⟨⟨flat_length Pv.cells_length vs, fun j u hu => ⟨_, rfl, ?_⟩⟩, fun v hv => (h.prg v hv).1⟩
  have hj : j < vs.length * 8 := by
    have := (List.getElem?_eq_some_iff.1 hu).1
    rwa [flat_length Pv.cells_length] at this
  have hi : j / 8 < vs.length := by omega
  have hv : vs[j / 8]? = some vs[j / 8] := List.getElem?_eq_getElem hi
  have e : j = j / 8 * 8 + j % 8 := by omega
  have h1 := h.cell _ _ hv (j % 8) (Nat.mod_lt _ (by omega))
  rw [e, flat_get Pv.cells_length vs _ _ _ hv (Nat.mod_lt _ (by omega))] at hu
  rw [hu, ← e] at h1
  rw [addr_zero]
  exact h1
/-- Only block g turned from W to W', and there what is known of it. -/
theorem OwnP.turn {W W' : World} {g : Nat} {vs vs' : List Pv} (h : OwnP W g vs) (ho : Only g W W') (hfree : ∀ j, W'.frozen? ⟨g, j, none⟩ = false)
    (hcell : ∀ i v, vs'[i]? = some v → ∀ j, j < 8 → W'.cell? ⟨g, i * 8 + j, none⟩ = v.cells[j]?)
    (hprg : ∀ v ∈ vs', Prg W v.A v.p.prog ∧ ∀ q, v.A = some q → 0 < v.p.prog.length → q.block ≠ g) : OwnP W' g vs' :=
  ⟨Nat.lt_of_lt_of_le h.lt ho.size, hcell, hfree, fun v hv => ⟨ho.prg (hprg v hv).1 (hprg v hv).2, (hprg v hv).2⟩⟩

/-- The cell of a place's first field turned. -/
theorem OwnP.field {W : World} {g : Nat} {vs : List Pv} (h : OwnP W g vs) {i : Nat} {v : Pv} (hv : vs[i]? = some v) (A : Option Addr) (c : Nat) (hp : Prg W A v.p.prog) (hne : ∀ q, A = some q → q.block ≠ g) :
    OwnP (W.setCell ⟨g, i * 8, none⟩ (.slice A v.p.prog.length c)) g (vs.set i ⟨A, c, v.p⟩) := by
  have hi : i < vs.length := (List.getElem?_eq_some_iff.1 hv).1
  refine h.turn ((Only.refl g W).set _ _) (fun j => by rw [World.frozen?_setCell]; exact h.free j) (fun k u hu j hj => ?_) (fun u hu => ?_)
  · by_cases e : i = k
    · subst e
      rw [List.getElem?_set_self hi] at hu
      injection hu with hu
      subst hu
      by_cases e0 : j = 0
      · subst e0
        exact World.cell?_setCell_same _ _ _ (h.cell i v hv 0 (by omega))
      · rw [World.cell?_setCell_other _ _ _ _ (fun x => by injection x with _ x; omega), h.cell i v hv j hj]
        match j, e0, hj with
        | 1, _, _ => rfl
        | 2, _, _ => rfl
        | 3, _, _ => rfl
        | 4, _, _ => rfl
        | 5, _, _ => rfl
        | 6, _, _ => rfl
        | 7, _, _ => rfl
    · rw [List.getElem?_set_ne e] at hu
      rw [World.cell?_setCell_other _ _ _ _ (fun x => by injection x with _ x; omega)]
      exact h.cell k u hu j hj
  · rcases List.mem_or_eq_of_mem_set hu with h' | h'
    · exact h.prg u h'
    · subst h'
      exact ⟨hp, fun q hq _ => hne q hq⟩

theorem instr_info : (Try.prog.info? 50).map (fun i => (i.zero, i.size, i.bytes)) = some (some (.agg #[.int .i64 0, .int .i64 0, .int .i64 0, .int .u64 0, .int .i64 0]), 5, 40) := by kernel_rfl
theorem proc_info : (Try.prog.info? 27).map (fun i => (i.zero, i.size, i.bytes)) = some (some (.agg #[.slice none 0 0, .int .i64 0, .int .u64 0, .int .u64 0, .int .u64 0, .int .u64 0, .bool false, .int .i64 0]), 8, 80) := by kernel_rfl

theorem flat_one {α : Type} {f : α → List Value} (hf : ∀ x, ∀ u ∈ f x, u.oneCell' = true) (xs : List α) : ∀ u ∈ flat f xs, u.oneCell' = true := by
  intro u hu
  obtain ⟨x, _, hx⟩ := List.mem_flatMap.1 hu
  exact hf x u hx
theorem Ins.cells_one (x : Ins) : ∀ u ∈ x.cells, u.oneCell' = true := by
  intro u hu
  simp [Ins.cells] at hu
  rcases hu with rfl | rfl | rfl | rfl | rfl <;> rfl
theorem Pv.cells_one (v : Pv) : ∀ u ∈ v.cells, u.oneCell' = true := by
  intro u hu
  simp [Pv.cells] at hu
  rcases hu with rfl | rfl | rfl | rfl | rfl | rfl | rfl | rfl <;> rfl

set_option maxHeartbeats 800000 in
theorem clone_instr (A : Option Addr) (c : Nat) (is : List Ins) (w : World) (h : Prg w A is) (hn : is.length ≤ 1000) (h0 : 0 < is.length) :
    Calls Try.prog 30 #[.slice A is.length c] w fun e w' => ∃ A' c', e = .returned (.slice A' is.length c') ∧ Prg w' A' is ∧ Ext w w' ∧ ∀ q, A' = some q → w.heap.size ≤ q.block := by
  obtain ⟨ad, rfl⟩ := h.some_ h0 (by omega)
  obtain ⟨i0, hi0, hz0, hz1, hz2⟩ := info_parts instr_info
  have hq := fun (w : World) => Lib.run_eql_slice_nil (P := Try.prog) w 23 _ (some ad) is.length c 0 0 Try.underlying23
  have hx : Ext w (w.alloc (.cells #[] 50)) := (Ext.refl w).new _
  have ho : (w.alloc (.cells #[] 50)).ownsRow w.heap.size 50 5 (.slice (some ⟨w.heap.size, 0, none⟩) 0 0) 0 [] := World.ownsRow_lit w #[] 0 (Nat.le_refl _) (by simp only [maxLen]; omega) rfl
  have hr := h.to hx
  go_enter Try.func30, Try.ntmps30
  go_wp2_with (first
    | (at_builtin
       refine wpList_append_rd _ rfl (.tmp 5) (.tmp 6) _ rfl w.heap.size 50 i0 _ 5 40 Try.underlying23 hi0 hz0 hz1 hz2 rfl (by omega) (.slice (some ⟨w.heap.size, 0, none⟩) 0 0) 0 [] rfl ho (some ad) is.length c (flat Ins.cells is) rfl hr (flat_one Ins.cells_one is) (by simp only [maxLen]; omega) (by omega) (by simp) ?_
       intro v1 w1 hown1 hg1 hat1))
  go_ret
  simp only [Nat.zero_add, List.nil_append] at hown1
  obtain ⟨A', c', rfl⟩ := own_slice hown1
  exact ⟨A', c', rfl, Rd.own hown1, own_back hx (by simp) hg1 (fun k hk => (ho.lt k hk).1), fun q hq => (hown1.lt q.block (by rw [hq]; rfl)).1⟩

set_option maxHeartbeats 800000 in
theorem clone_procs (ad : Addr) (n c : Nat) (vs : List Pv) (w : World) (h : Rd w 8 (some ad) n (flat Pv.cells vs)) (hn : n ≤ 1000) :
    Calls Try.prog 29 #[.slice (some ad) n c] w fun e w' => ∃ v, e = .returned v ∧ w'.ownsRow w.heap.size 27 8 v n (flat Pv.cells vs) ∧ Ext w w' := by
  obtain ⟨i0, hi0, hz0, hz1, hz2⟩ := info_parts proc_info
  have hq := fun (w : World) => Lib.run_eql_slice_nil (P := Try.prog) w 34 _ (some ad) n c 0 0 Try.underlying34
  have hx : Ext w (w.alloc (.cells #[] 27)) := (Ext.refl w).new _
  have ho : (w.alloc (.cells #[] 27)).ownsRow w.heap.size 27 8 (.slice (some ⟨w.heap.size, 0, none⟩) 0 0) 0 [] := World.ownsRow_lit w #[] 0 (Nat.le_refl _) (by simp only [maxLen]; omega) rfl
  have hr := h.to hx
  go_enter Try.func29, Try.ntmps29
  go_wp2_with (first
    | (at_builtin
       refine wpList_append_rd _ rfl (.tmp 5) (.tmp 6) _ rfl w.heap.size 27 i0 _ 8 80 Try.underlying34 hi0 hz0 hz1 hz2 rfl (by omega) (.slice (some ⟨w.heap.size, 0, none⟩) 0 0) 0 [] rfl ho (some ad) n c (flat Pv.cells vs) rfl hr (flat_one Pv.cells_one vs) (by simp only [maxLen]; omega) (by omega) (by simp) ?_
       intro v1 w1 hown1 hg1 hat1))
  go_ret
  simp only [Nat.zero_add, List.nil_append] at hown1
  exact ⟨_, rfl, hown1, own_back hx (by simp) hg1 (fun k hk => (ho.lt k hk).1)⟩

end Go.Proofs.Yteiabmbfjfaboaa
