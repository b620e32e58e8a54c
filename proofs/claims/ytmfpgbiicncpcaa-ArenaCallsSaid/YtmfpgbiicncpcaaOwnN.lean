/-
  A row of nodes of the call's own; copies of an arena.
-/
import Derived.Test.YtmfpgbiicncpcaaAt
set_option linter.unusedVariables false
set_option linter.unusedSimpArgs false
namespace Go.Proofs.Ytmfpgbiicncpcaa
open Go.RowKit

/-- Block g is a row of the call's own that shows these nodes. -/
structure OwnN (W : World) (g : Nat) (ns : List Nd) : Prop where
  lt : g < W.heap.size
  cell : ∀ i x, ns[i]? = some x → ∀ j, j < 16 → W.cell? ⟨g, i * 16 + j, none⟩ = x.cells[j]?
  free : ∀ j, W.frozen? ⟨g, j, none⟩ = false
section
variable {W W' : World} {g b : Nat} {ns : List Nd}
theorem OwnN.to (h : OwnN W g ns) (hx : Ext W W') : OwnN W' g ns :=
  ⟨Nat.lt_of_lt_of_le h.lt hx.size, fun i v hv j hj => (hx.cell (p := ⟨g, i * 16 + j, none⟩) h.lt).trans (h.cell i v hv j hj), fun j => (hx.frozen (p := ⟨g, j, none⟩) h.lt).trans (h.free j)⟩
theorem OwnN.rd (h : OwnN W g ns) {n : Nat} (hn : ns.length = n) : Rd W 16 (some ⟨g, 0, none⟩) n (flat Nd.cells ns) := by
  subst hn
  exact Rd.of_flat Nd.cells_length (by omega) fun i x hx j hj => by rw [addr_zero]; exact h.cell i x hx j hj
theorem OwnN.at (h : OwnN W g ns) {i : Nat} {x : Nd} (hx : ns[i]? = some x) : NdAt W ⟨g, i * 16, none⟩ x := fun j v hv => by
  have hj : j < 16 := by
    have := (List.getElem?_eq_some_iff.1 hv).1
    rwa [Nd.cells_length] at this
  rw [Addr.add_mid, h.cell i x hx j hj]
  exact hv
theorem OwnN.only (h : OwnN W g ns) (ho : Only b W W') (hn : g ≠ b) : OwnN W' g ns := by
  have e := ho.block g h.lt (fun e => hn (Option.some.inj e))
  refine ⟨Nat.lt_of_lt_of_le h.lt ho.size, fun i x hx j hj => (World.cell?_of_block (a := ⟨g, i * 16 + j, none⟩) e).trans (h.cell i x hx j hj), fun j => by
    have := h.free j
    unfold World.frozen? at this ⊢
    rw [e]
    exact this⟩
theorem OwnN.put (h : OwnN W g ns) {i : Nat} (hi : i < ns.length) (x : Nd) : OwnN (W.setCells g (i * 16) x.cells) g (ns.set i x) := by
  have hold : ∀ k, k < 16 → (W.cell? ⟨g, i * 16 + k, none⟩).isSome = true := fun k hk => by
    rw [h.cell i _ (List.getElem?_eq_getElem hi) k hk, List.getElem?_eq_getElem (by rw [Nd.cells_length]; exact hk)]; rfl
  refine ⟨Nat.lt_of_lt_of_le h.lt (setCells_only g x.cells _ W W (Only.refl g W)).size, fun k u hu j hj => ?_, fun j => by rw [World.frozen?_setCells]; exact h.free j⟩
  by_cases e : i = k
  · subst e
    rw [List.getElem?_set_self hi] at hu
    obtain rfl := Option.some.inj hu
    rw [World.cell?_setCells_in g x.cells _ W (fun k hk => hold k (by rwa [Nd.cells_length] at hk)) j (by rw [Nd.cells_length]; exact hj), List.getElem?_eq_getElem (by rw [Nd.cells_length]; exact hj)]
  · rw [List.getElem?_set_ne e] at hu
    rw [World.cell?_setCells_out g x.cells _ W ⟨g, k * 16 + j, none⟩ (fun _ _ => by
      rw [Nd.cells_length]
      show k * 16 + j < i * 16 ∨ i * 16 + 16 ≤ k * 16 + j
      omega)]
    exact h.cell k u hu j hj
theorem OwnN.of_own {base n : Nat} {v : Value} (h : W.ownsRow base 30 16 v n (flat Nd.cells ns)) (h0 : 0 < n) : ∃ g c, v = .slice (some ⟨g, 0, none⟩) n c ∧ base ≤ g ∧ OwnN W g ns := by
  rcases h.2 with ⟨_, h'⟩ | ⟨g, cap, cur, rfl, hb, hg, hr⟩
  · omega
  · refine ⟨g, cap, rfl, hb, (Array.getElem?_eq_some_iff.1 hg).1, fun i x hx j hj => ?_, fun j => frozen_of_row W g j cur _ hg⟩
    have hc := h.cells (g := g) rfl (i * 16 + j) (x.cells[j]'(by rw [Nd.cells_length]; exact hj)) (by rw [flat_get Nd.cells_length ns i j x hx hj, List.getElem?_eq_getElem])
    rw [addr_zero] at hc
    rw [hc, List.getElem?_eq_getElem]
end
theorem own_base {W : World} {base base' : Nat} {e : TypeId} {size n : Nat} {v : Value} {xs : List Value} (h : W.ownsRow base e size v n xs) (hb : base' ≤ base) : W.ownsRow base' e size v n xs := by
  refine ⟨h.1, ?_⟩
  rcases h.2 with h' | ⟨g, cap, cur, rfl, hb', hg, hr⟩
  · exact .inl h'
  · exact .inr ⟨g, cap, cur, rfl, Nat.le_trans hb hb', hg, hr⟩

/-- THE OPERATION: a whole node goes into a row of the call's own. -/
theorem wpList_store_in {ops : Array Oper} {rest : List Oper} {o : Oper} {a : Act} {w : World} {Q : Exit → Act → World → Prop} (hgd : Region.wanted o (yielded ops a.tmps) = true) (x y : Operand) (ho : o.op = .store 30 x y)
    (g i : Nat) (hx : a.eval x = .pointer (some ⟨g, i * 16, none⟩)) (n : Nd) (hy : a.eval y = .agg n.arr) (ns : List Nd) (hO : OwnN w g ns) (hi : i < ns.length)
    (h : ∀ W, OwnN W g (ns.set i n) → Only g w W → wpList Try.prog ops Q rest (a.put o.dst undef) W) : wpList Try.prog ops Q (o :: rest) a w := by
  have ht : w.there g (i * 16) n.arr.size := fun j hj => by
    refine ⟨?_, hO.free _⟩
    rw [hO.cell i _ (List.getElem?_eq_getElem hi) j hj, List.getElem?_eq_getElem (by rw [Nd.cells_length]; exact hj)]; rfl
  exact Go.BigFrame.wpList_want hgd fun K hK => by
    unfold Oper.wp execOp
    simp only [ho, hx, hy, Sem.run_bind, run_storeAt_mid (P := Try.prog) w g (i * 16) 30 n.arr ht (by kernel_rfl) n.arr_one, Sem.run_pure, Result.andThen_ok]
    exact hK _ _ (h _ (hO.put hi n) (setCells_only g _ _ w w (Only.refl g w)))

theorem node_info : (Try.prog.info? 30).map (fun i => (i.zero, i.size, i.bytes)) = some (some (.agg #[.int .i64 0, .int .i64 0, .int .i64 0, .int .i64 0, .int .i64 0, .int .u64 0, .int .u64 0, .int .u64 0, .int .u64 0, .int .u64 0, .int .u64 0, .int .u64 0, .int .u64 0, .int .u64 0, .int .i64 0, .int .i64 0]), 16, 128) := by kernel_rfl
theorem int_info : (Try.prog.info? 3).map (fun i => (i.zero, i.size, i.bytes)) = some (some (.int .i64 0), 1, 8) := by kernel_rfl
theorem Ks_one (k : IntKind) (zs : List Int) : ∀ u ∈ Ks k zs, u.oneCell' = true := ints_oneCell k zs

def ClonedN (w : World) (n : Nat) (ns : List Nd) (e : Ending) (w' : World) : Prop := ∃ g c, e = .returned (.slice (some ⟨g, 0, none⟩) n c) ∧ w.heap.size ≤ g ∧ OwnN w' g ns ∧ Ext w w'
def ClonedI (w : World) (m : Nat) (fs : List Int) (e : Ending) (w' : World) : Prop := ∃ B' d', e = .returned (.slice B' m d') ∧ w'.ownsRow w.heap.size 3 1 (.slice B' m d') m (Ks .i64 fs) ∧ Ext w w'

set_option maxHeartbeats 800000 in
theorem clone_nodes (A : Option Addr) (n c : Nat) (ns : List Nd) (w : World) (h : Rd w 16 A n (flat Nd.cells ns)) (hn : n ≤ 1000) (h0 : 0 < n) :
    Calls Try.prog 44 #[.slice A n c] w (ClonedN w n ns) := by
  obtain ⟨ad, rfl⟩ := h.some_ h0 (by omega)
  obtain ⟨i0, hi0, hz0, hz1, hz2⟩ := info_parts node_info
  have hq := fun (w : World) => Lib.run_eql_slice_nil (P := Try.prog) w 22 _ (some ad) n c 0 0 Try.underlying22
  have hx : Ext w (w.alloc (.cells #[] 30)) := (Ext.refl w).new _
  have ho : (w.alloc (.cells #[] 30)).ownsRow w.heap.size 30 16 (.slice (some ⟨w.heap.size, 0, none⟩) 0 0) 0 [] := World.ownsRow_lit w #[] 0 (Nat.le_refl _) (by simp only [maxLen]; omega) rfl
  have hr := h.to hx
  go_enter Try.func44, Try.ntmps44
  go_wp2_with (first
    | (at_builtin
       refine wpList_append_rd _ rfl (.tmp 5) (.tmp 6) _ rfl w.heap.size 30 i0 _ 16 128 Try.underlying22 hi0 hz0 hz1 hz2 rfl (by omega) (.slice (some ⟨w.heap.size, 0, none⟩) 0 0) 0 [] rfl ho (some ad) n c (flat Nd.cells ns) rfl hr (flat_one Nd.cells_one ns) (by simp only [maxLen]; omega) (by omega) (by simp) ?_
       intro v1 w1 hown1 hg1 hat1))
  go_ret
  simp only [Nat.zero_add, List.nil_append] at hown1
  obtain ⟨g, c', rfl, hb, hO⟩ := OwnN.of_own hown1 h0
  exact ⟨g, c', rfl, hb, hO, own_back hx (by simp) hg1 (fun k hk => (ho.lt k hk).1)⟩

set_option maxHeartbeats 800000 in
theorem clone_ints (B : Option Addr) (m d : Nat) (fs : List Int) (w : World) (h : Rd w 1 B m (Ks .i64 fs)) (hm : m ≤ 1000) :
    Calls Try.prog 45 #[.slice B m d] w (ClonedI w m fs) := by
  have hq := fun (w : World) => Lib.run_eql_slice_nil (P := Try.prog) w 23 _ B m d 0 0 Try.underlying23
  cases B with
  | none =>
    have hm0 : m = 0 := by
      rcases Nat.eq_zero_or_pos m with e | e
      · exact e
      · obtain ⟨ad, h'⟩ := h.some_ e (by omega)
        cases h'
    subst hm0
    have hf : fs = [] := List.eq_nil_of_length_eq_zero (by have := h.1; simpa [Ks] using this)
    subst hf
    go_enter Try.func45, Try.ntmps45
    go_wp2_with fail
    go_ret
    exact ⟨_, _, rfl, World.ownsRow_nil _ _ _ _, Ext.refl w⟩
  | some ad =>
    obtain ⟨i0, hi0, hz0, hz1, hz2⟩ := info_parts int_info
    have hx : Ext w (w.alloc (.cells #[] 3)) := (Ext.refl w).new _
    have ho : (w.alloc (.cells #[] 3)).ownsRow w.heap.size 3 1 (.slice (some ⟨w.heap.size, 0, none⟩) 0 0) 0 [] := World.ownsRow_lit w #[] 0 (Nat.le_refl _) (by simp only [maxLen]; omega) rfl
    have hr := h.to hx
    go_enter Try.func45, Try.ntmps45
    go_wp2_with (first
      | (at_builtin
         refine wpList_append_rd _ rfl (.tmp 5) (.tmp 6) _ rfl w.heap.size 3 i0 _ 1 8 Try.underlying23 hi0 hz0 hz1 hz2 rfl (by omega) (.slice (some ⟨w.heap.size, 0, none⟩) 0 0) 0 [] rfl ho (some ad) m d (Ks .i64 fs) rfl hr (Ks_one _ fs) (by simp only [maxLen]; omega) (by omega) (by simp) ?_
         intro v1 w1 hown1 hg1 hat1))
    go_ret
    simp only [Nat.zero_add, List.nil_append] at hown1
    obtain ⟨B', d', rfl⟩ := own_slice hown1
    exact ⟨B', d', rfl, hown1, own_back hx (by simp) hg1 (fun k hk => (ho.lt k hk).1)⟩

end Go.Proofs.Ytmfpgbiicncpcaa
