/-
  Texts in one: OwnN Copied New Make Make2.
-/
import Derived.Test.YtfoifcbaadnigaaGB

/-
  A row of nodes of the call's own; copies of an arena.
-/
set_option linter.unusedVariables false
set_option linter.unusedSimpArgs false
namespace Go.Proofs.Ytfoifcbaadnigaa
open Go.RowKit

/-- Block g is a row of the call's own that shows these nodes. -/
structure OwnN (W : World) (g : Nat) (ns : List Nd) : Prop where
  lt : g < W.heap.size
  cell : ∀ i x, ns[i]? = some x → ∀ j, j < 16 → W.cell? ⟨g, i * 16 + j, none⟩ = x.cells[j]?
  free : ∀ j, W.frozen? ⟨g, j, none⟩ = false
section
variable {W W' : World} {g b : Nat} {ns : List Nd}
theorem OwnN.to (h : OwnN W g ns) (hx : Ext W W') : OwnN W' g ns :=
  ⟨Nat.lt_of_lt_of_le h.lt hx.size, fun i v hv j hj => (hx.cell (p := ⟨g, i * 16 + j, none⟩) h.lt).trans (h.cell i v hv j hj), fun j => (hx.frozen (p := ⟨g, j, none⟩) h.lt).trans (h.free j)⟩
theorem OwnN.rd (h : OwnN W g ns) {n : Nat} (hn : ns.length = n) : Rd W 16 (some ⟨g, 0, none⟩) n (flat Nd.cells ns) := by
  subst hn
  exact Rd.of_flat Nd.cells_length (by omega) fun i x hx j hj => by rw [addr_zero]; exact h.cell i x hx j hj
theorem OwnN.at (h : OwnN W g ns) {i : Nat} {x : Nd} (hx : ns[i]? = some x) : NdAt W ⟨g, i * 16, none⟩ x := fun j v hv => by
  have hj : j < 16 := by
    have := (List.getElem?_eq_some_iff.1 hv).1
    rwa [Nd.cells_length] at this
  rw [Addr.add_mid, h.cell i x hx j hj]
  exact hv
theorem OwnN.only (h : OwnN W g ns) (ho : Only b W W') (hn : g ≠ b) : OwnN W' g ns := by
  have e := ho.block g h.lt (fun e => hn (Option.some.inj e))
  refine ⟨Nat.lt_of_lt_of_le h.lt ho.size, fun i x hx j hj => (World.cell?_of_block (a := ⟨g, i * 16 + j, none⟩) e).trans (h.cell i x hx j hj), fun j => by
    have := h.free j
    unfold World.frozen? at this ⊢
    rw [e]
    exact this⟩
theorem OwnN.put (h : OwnN W g ns) {i : Nat} (hi : i < ns.length) (x : Nd) : OwnN (W.setCells g (i * 16) x.cells) g (ns.set i x) := by
  have hold : ∀ k, k < 16 → (W.cell? ⟨g, i * 16 + k, none⟩).isSome = true := fun k hk => by
    rw [h.cell i _ (List.getElem?_eq_getElem hi) k hk, List.getElem?_eq_getElem (by rw [Nd.cells_length]; exact hk)]; rfl
  refine ⟨Nat.lt_of_lt_of_le h.lt (setCells_only g x.cells _ W W (Only.refl g W)).size, fun k u hu j hj => ?_, fun j => by rw [World.frozen?_setCells]; exact h.free j⟩
  by_cases e : i = k
  · subst e
    rw [List.getElem?_set_self hi] at hu
    obtain rfl := Option.some.inj hu
    rw [World.cell?_setCells_in g x.cells _ W (fun k hk => hold k (by rwa [Nd.cells_length] at hk)) j (by rw [Nd.cells_length]; exact hj), List.getElem?_eq_getElem (by rw [Nd.cells_length]; exact hj)]
  · rw [List.getElem?_set_ne e] at hu
    rw [World.cell?_setCells_out g x.cells _ W ⟨g, k * 16 + j, none⟩ (fun _ _ => by
      rw [Nd.cells_length]
      show k * 16 + j < i * 16 ∨ i * 16 + 16 ≤ k * 16 + j
      omega)]
    exact h.cell k u hu j hj
theorem OwnN.of_own {base n : Nat} {v : Value} (h : W.ownsRow base 68 16 v n (flat Nd.cells ns)) (h0 : 0 < n) : ∃ g c, v = .slice (some ⟨g, 0, none⟩) n c ∧ base ≤ g ∧ OwnN W g ns := by
  rcases h.2 with ⟨_, h'⟩ | ⟨g, cap, cur, rfl, hb, hg, hr⟩
  · omega
  · refine ⟨g, cap, rfl, hb, (Array.getElem?_eq_some_iff.1 hg).1, fun i x hx j hj => ?_, fun j => frozen_of_row W g j cur _ hg⟩
    have hc := h.cells (g := g) rfl (i * 16 + j) (x.cells[j]'(by rw [Nd.cells_length]; exact hj)) (by rw [flat_get Nd.cells_length ns i j x hx hj, List.getElem?_eq_getElem])
    rw [addr_zero] at hc
    rw [hc, List.getElem?_eq_getElem]
end
theorem own_base {W : World} {base base' : Nat} {e : TypeId} {size n : Nat} {v : Value} {xs : List Value} (h : W.ownsRow base e size v n xs) (hb : base' ≤ base) : W.ownsRow base' e size v n xs := by
  refine ⟨h.1, ?_⟩
  rcases h.2 with h' | ⟨g, cap, cur, rfl, hb', hg, hr⟩
  · exact .inl h'
  · exact .inr ⟨g, cap, cur, rfl, Nat.le_trans hb hb', hg, hr⟩

/-- THE OPERATION: a whole node goes into a row of the call's own. -/
theorem wpList_store_in {ops : Array Oper} {rest : List Oper} {o : Oper} {a : Act} {w : World} {Q : Exit → Act → World → Prop} (hgd : Region.wanted o (yielded ops a.tmps) = true) (x y : Operand) (ho : o.op = .store 68 x y)
    (g i : Nat) (hx : a.eval x = .pointer (some ⟨g, i * 16, none⟩)) (n : Nd) (hy : a.eval y = .agg n.arr) (ns : List Nd) (hO : OwnN w g ns) (hi : i < ns.length)
    (h : ∀ W, OwnN W g (ns.set i n) → Only g w W → wpList Try.prog ops Q rest (a.put o.dst undef) W) : wpList Try.prog ops Q (o :: rest) a w := by
  have ht : w.there g (i * 16) n.arr.size := fun j hj => by
    refine ⟨?_, hO.free _⟩
    rw [hO.cell i _ (List.getElem?_eq_getElem hi) j hj, List.getElem?_eq_getElem (by rw [Nd.cells_length]; exact hj)]; rfl
  exact Go.BigFrame.wpList_want hgd fun K hK => by
    unfold Oper.wp execOp
    simp only [ho, hx, hy, Sem.run_bind, run_storeAt_mid (P := Try.prog) w g (i * 16) 68 n.arr ht (by kernel_rfl) n.arr_one, Sem.run_pure, Result.andThen_ok]
    exact hK _ _ (h _ (hO.put hi n) (setCells_only g _ _ w w (Only.refl g w)))

theorem node_info : (Try.prog.info? 68).map (fun i => (i.zero, i.size, i.bytes)) = some (some (.agg #[.int .i64 0, .int .i64 0, .int .i64 0, .int .i64 0, .int .i64 0, .int .u64 0, .int .u64 0, .int .u64 0, .int .u64 0, .int .u64 0, .int .u64 0, .int .u64 0, .int .u64 0, .int .u64 0, .int .i64 0, .int .i64 0]), 16, 128) := by kernel_rfl
theorem int_info : (Try.prog.info? 3).map (fun i => (i.zero, i.size, i.bytes)) = some (some (.int .i64 0), 1, 8) := by kernel_rfl
theorem Ks_one (k : IntKind) (zs : List Int) : ∀ u ∈ Ks k zs, u.oneCell' = true := ints_oneCell k zs

def ClonedN (w : World) (n : Nat) (ns : List Nd) (e : Ending) (w' : World) : Prop := ∃ g c, e = .returned (.slice (some ⟨g, 0, none⟩) n c) ∧ w.heap.size ≤ g ∧ OwnN w' g ns ∧ Ext w w'
def ClonedI (w : World) (m : Nat) (fs : List Int) (e : Ending) (w' : World) : Prop := ∃ B' d', e = .returned (.slice B' m d') ∧ w'.ownsRow w.heap.size 3 1 (.slice B' m d') m (Ks .i64 fs) ∧ Ext w w'

set_option maxHeartbeats 800000 in
theorem clone_nodes (A : Option Addr) (n c : Nat) (ns : List Nd) (w : World) (h : Rd w 16 A n (flat Nd.cells ns)) (hn : n ≤ 1000) (h0 : 0 < n) :
    Calls Try.prog 41 #[.slice A n c] w (ClonedN w n ns) := by
  obtain ⟨ad, rfl⟩ := h.some_ h0 (by omega)
  obtain ⟨i0, hi0, hz0, hz1, hz2⟩ := info_parts node_info
  have hq := fun (w : World) => Lib.run_eql_slice_nil (P := Try.prog) w 23 _ (some ad) n c 0 0 Try.underlying23
  have hx : Ext w (w.alloc (.cells #[] 68)) := (Ext.refl w).new _
  have ho : (w.alloc (.cells #[] 68)).ownsRow w.heap.size 68 16 (.slice (some ⟨w.heap.size, 0, none⟩) 0 0) 0 [] := World.ownsRow_lit w #[] 0 (Nat.le_refl _) (by simp only [maxLen]; omega) rfl
  have hr := h.to hx
  go_enter Try.func41, Try.ntmps41
  go_wp2_with (first
    | (at_builtin
       refine wpList_append_rd _ rfl (.tmp 5) (.tmp 6) _ rfl w.heap.size 68 i0 _ 16 128 Try.underlying23 hi0 hz0 hz1 hz2 rfl (by omega) (.slice (some ⟨w.heap.size, 0, none⟩) 0 0) 0 [] rfl ho (some ad) n c (flat Nd.cells ns) rfl hr (flat_one Nd.cells_one ns) (by simp only [maxLen]; omega) (by omega) (by simp) ?_
       intro v1 w1 hown1 hg1 hat1))
  go_ret
  simp only [Nat.zero_add, List.nil_append] at hown1
  obtain ⟨g, c', rfl, hb, hO⟩ := OwnN.of_own hown1 h0
  exact ⟨g, c', rfl, hb, hO, own_back hx (by simp) hg1 (fun k hk => (ho.lt k hk).1)⟩

set_option maxHeartbeats 800000 in
theorem clone_ints (B : Option Addr) (m d : Nat) (fs : List Int) (w : World) (h : Rd w 1 B m (Ks .i64 fs)) (hm : m ≤ 1000) :
    Calls Try.prog 42 #[.slice B m d] w (ClonedI w m fs) := by
  have hq := fun (w : World) => Lib.run_eql_slice_nil (P := Try.prog) w 24 _ B m d 0 0 Try.underlying24
  cases B with
  | none =>
    have hm0 : m = 0 := by
      rcases Nat.eq_zero_or_pos m with e | e
      · exact e
      · obtain ⟨ad, h'⟩ := h.some_ e (by omega)
        cases h'
    subst hm0
    have hf : fs = [] := List.eq_nil_of_length_eq_zero (by have := h.1; simpa [Ks] using this)
    subst hf
    go_enter Try.func42, Try.ntmps42
    go_wp2_with fail
    go_ret
    exact ⟨_, _, rfl, World.ownsRow_nil _ _ _ _, Ext.refl w⟩
  | some ad =>
    obtain ⟨i0, hi0, hz0, hz1, hz2⟩ := info_parts int_info
    have hx : Ext w (w.alloc (.cells #[] 3)) := (Ext.refl w).new _
    have ho : (w.alloc (.cells #[] 3)).ownsRow w.heap.size 3 1 (.slice (some ⟨w.heap.size, 0, none⟩) 0 0) 0 [] := World.ownsRow_lit w #[] 0 (Nat.le_refl _) (by simp only [maxLen]; omega) rfl
    have hr := h.to hx
    go_enter Try.func42, Try.ntmps42
    go_wp2_with (first
      | (at_builtin
         refine wpList_append_rd _ rfl (.tmp 5) (.tmp 6) _ rfl w.heap.size 3 i0 _ 1 8 Try.underlying24 hi0 hz0 hz1 hz2 rfl (by omega) (.slice (some ⟨w.heap.size, 0, none⟩) 0 0) 0 [] rfl ho (some ad) m d (Ks .i64 fs) rfl hr (Ks_one _ fs) (by simp only [maxLen]; omega) (by omega) (by simp) ?_
         intro v1 w1 hown1 hg1 hat1))
    go_ret
    simp only [Nat.zero_add, List.nil_append] at hown1
    obtain ⟨B', d', rfl⟩ := own_slice hown1
    exact ⟨B', d', rfl, hown1, own_back hx (by simp) hg1 (fun k hk => (ho.lt k hk).1)⟩

end Go.Proofs.Ytfoifcbaadnigaa

/-
  Contracts: copied, next, following, New.
-/
set_option linter.unusedVariables false
set_option linter.unusedSimpArgs false
namespace Go.Proofs.Ytfoifcbaadnigaa
open Go.RowKit

theorem loadAr {w : World} {b : Nat} {cs : Array Value} (h : Bx w b cs) (hc : cs.size = 2) : (loadVar 26 ⟨b, 0, none⟩).run Try.prog w = .ok (.agg cs) w := by
  have hi : (Try.prog.info? 26).map (·.size) = some 2 := by kernel_rfl
  exact run_loadVar_any (P := Try.prog) w ⟨b, 0, none⟩ 26 cs _ (fun j v hv => by rw [addr_zero, h.cell j]; exact hv) Try.underlying26 rfl (by rw [hc]; exact hi)
/-- One result, an arena in a variable. -/
theorem results_ar {fn : Func} {p : Tmp} (h : fn.results = #[.cell p 26]) (tmps : Array Value) (w : World) (b : Nat) (cs : Array Value) (hp : tmps.getD p undef = .pointer (some ⟨b, 0, none⟩)) (hB : Bx w b cs) (hc : cs.size = 2) :
    (results fn tmps).run Try.prog w = .ok (.agg cs) w := by
  have hp' : tmps[p]?.getD undef = .pointer (some ⟨b, 0, none⟩) := by simpa using hp
  simp [results, h, hp', asAddr, loadAr hB hc]
/-- Two, or three results, the first one an arena in a variable. -/
theorem results_ar2 {fn : Func} {p u : Tmp} (h : fn.results = #[.cell p 26, .tmp u]) (tmps : Array Value) (w : World) (b : Nat) (cs : Array Value) (hp : tmps.getD p undef = .pointer (some ⟨b, 0, none⟩)) (hB : Bx w b cs) (hc : cs.size = 2) :
    (results fn tmps).run Try.prog w = .ok (.tuple #[.agg cs, tmps.getD u undef]) w := by
  have hp' : tmps[p]?.getD undef = .pointer (some ⟨b, 0, none⟩) := by simpa using hp
  simp [results, h, hp', asAddr, loadAr hB hc]
theorem results_ar3 {fn : Func} {p u v : Tmp} (h : fn.results = #[.cell p 26, .tmp u, .tmp v]) (tmps : Array Value) (w : World) (b : Nat) (cs : Array Value) (hp : tmps.getD p undef = .pointer (some ⟨b, 0, none⟩)) (hB : Bx w b cs) (hc : cs.size = 2) :
    (results fn tmps).run Try.prog w = .ok (.tuple #[.agg cs, tmps.getD u undef, tmps.getD v undef]) w := by
  have hp' : tmps[p]?.getD undef = .pointer (some ⟨b, 0, none⟩) := by simpa using hp
  simp [results, h, hp', asAddr, loadAr hB hc]
/-- Both cells of an arena's variable written. -/
theorem Bx.two {w : World} {b : Nat} {u v : Value} (h : Bx w b #[u, v]) (x y : Value) : Bx ((w.setCell ⟨b, 0, none⟩ x).setCell ⟨b, 1, none⟩ y) b #[x, y] :=
  ((h.set (j := 0) (by simp) x).set (j := 1) (by simp) y)
theorem Only.two (w : World) (b : Nat) (x y : Value) : Only b w ((w.setCell ⟨b, 0, none⟩ x).setCell ⟨b, 1, none⟩ y) := ((Only.refl b w).set _ _).set _ _

/-- The two blocks of an arena are newer than w. -/
def FrA (w : World) (g : Nat) (B : Option Addr) : Prop := w.heap.size ≤ g ∧ ∀ q, B = some q → w.heap.size ≤ q.block

/-- A new arena: its nodes in block g, its free places in a row of the call's own. -/
structure NewAr (W : World) (base g : Nat) (v : Value) (m : Nat) (ns : List Nd) (fs : List Int) : Prop where
  ge : base ≤ g
  nodes : OwnN W g ns
  free : W.ownsRow base 3 1 v m (Ks .i64 fs)
  apart : v.ownBlock ≠ some g
theorem NewAr.to {W W' : World} {base g : Nat} {v : Value} {m : Nat} {ns : List Nd} {fs : List Int} (h : NewAr W base g v m ns fs) (hx : Ext W W') : NewAr W' base g v m ns fs :=
  ⟨h.ge, h.nodes.to hx, own_ext h.free hx, h.apart⟩
def CopiedA (w : World) (n m : Nat) (ns : List Nd) (fs : List Int) (e : Ending) (w' : World) : Prop :=
  ∃ g c B d, e = .returned (.agg #[.slice (some ⟨g, 0, none⟩) n c, .slice B m d]) ∧ NewAr w' w.heap.size g (.slice B m d) m ns fs ∧ Ext w w'

set_option maxHeartbeats 1600000 in
theorem copied_is (A B : Option Addr) (n m c d : Nat) (ns : List Nd) (fs : List Int) (w : World) (h : Ar w A n B m ns fs) (hn : n ≤ 1000) (h0 : 0 < n) (hm : m ≤ 1000) :
    Calls Try.prog 65 #[.agg #[.slice A n c, .slice B m d]] w (CopiedA w n m ns fs) := by
  obtain ⟨w1, hw1⟩ : ∃ w1, w1 = w.alloc (.cells #[.slice A n c, .slice B m d] 26) := ⟨_, rfl⟩
  obtain ⟨w2, hw2⟩ : ∃ w2, w2 = w1.alloc (.cells #[.slice none 0 0, .slice none 0 0] 26) := ⟨_, rfl⟩
  obtain ⟨B1, hx1, hs1⟩ := box_made hw1
  obtain ⟨B2, hx2, hs2⟩ := box_made hw2
  rw [hs1] at B2
  have X2 := hx1.step hx2
  have h2 := h.to X2
  have HB1 := B1.to hx2
  have k0 : w2.cell? ⟨w.heap.size, 0, none⟩ = some (.slice A n c) := HB1.cell 0
  have k1 : w2.cell? ⟨w.heap.size, 1, none⟩ = some (.slice B m d) := HB1.cell 1
  have H1 := Lib.hid hw1
  have H2 := Lib.hid hw2
  clear hw1 hw2
  go_enter Try.func65, Try.ntmps65
  go_wp2_with fail
  rw [← H1.out, ← H2.out]
  go_region_with (first
    | (go_at_call 41
       refine (clone_nodes A n c ns _ ?_ hn h0).mono ?_
       · refine h2.nodes.to ?_
         repeat (first | exact Ext.refl _ | exact E9 | with_reducible refine Ext.drew ?_)
       rintro e w8 ⟨g, c', rfl, hg8, hO8, hx8⟩
       have E8 : Ext w2 w8 := by
         refine Ext.step ?_ hx8
         repeat (first | exact Ext.refl _ | exact E9 | with_reducible refine Ext.drew ?_)
       have k8a : w8.cell? ⟨w.heap.size, 0, none⟩ = some (.slice A n c) := (HB1.to E8).cell 0
       have k8b : w8.cell? ⟨w.heap.size, 1, none⟩ = some (.slice B m d) := (HB1.to E8).cell 1
       have f8a : w8.cell? ⟨w.heap.size + 1, 0, none⟩ = some (.slice none 0 0) := (B2.to E8).cell 0
       have f8b : w8.cell? ⟨w.heap.size + 1, 1, none⟩ = some (.slice none 0 0) := (B2.to E8).cell 1
       have f8c : w8.frozen? ⟨w.heap.size + 1, 0, none⟩ = false := (B2.to E8).free 0
       have f8d : w8.frozen? ⟨w.heap.size + 1, 1, none⟩ = false := (B2.to E8).free 1)
    | (go_at_call 42
       refine (clone_ints B m d fs _ ?_ hm).mono ?_
       · refine h2.free.to ?_
         repeat (first | exact Ext.refl _ | exact E8 | with_reducible refine Ext.drew ?_)
       rintro e w9 ⟨B', d', rfl, hO9, hx9⟩
       have E9 : Ext w2 w9 := by
         refine Ext.step ?_ hx9
         repeat (first | exact Ext.refl _ | exact E8 | with_reducible refine Ext.drew ?_)
       have k9a : w9.cell? ⟨w.heap.size, 0, none⟩ = some (.slice A n c) := (HB1.to E9).cell 0
       have k9b : w9.cell? ⟨w.heap.size, 1, none⟩ = some (.slice B m d) := (HB1.to E9).cell 1
       have f9a : w9.cell? ⟨w.heap.size + 1, 0, none⟩ = some (.slice none 0 0) := (B2.to E9).cell 0
       have f9b : w9.cell? ⟨w.heap.size + 1, 1, none⟩ = some (.slice none 0 0) := (B2.to E9).cell 1
       have f9c : w9.frozen? ⟨w.heap.size + 1, 0, none⟩ = false := (B2.to E9).free 0
       have f9d : w9.frozen? ⟨w.heap.size + 1, 1, none⟩ = false := (B2.to E9).free 1))
  all_goals go_wp2_with fail
  all_goals
    refine bodyPost_ret (results_ar rfl _ _ (w.heap.size + 1) #[.slice (some ⟨g, 0, none⟩) n c', .slice B' m d'] (by rfl) ((B2.to E9).two _ _) rfl) rfl ?_
    have ho := Only.two w9 (w.heap.size + 1) (.slice (some ⟨g, 0, none⟩) n c') (.slice B' m d')
    have hg2 : w.heap.size + 2 ≤ g := by simp at hg8; omega
    have h89 : w8.heap.size ≤ w9.heap.size := by have := hx9.size; simpa using this
    have hv : ∀ k, (Value.slice B' m d').ownBlock = some k → w8.heap.size ≤ k := fun k hk => by
      have := (hO9.lt k hk).1
      simpa using this
    have hgl := hO8.lt
    have h8s := E8.size
    refine ⟨g, c', B', d', rfl, ⟨by omega, ?_, own_base (own_only hO9 ho (fun e => by have := hv _ e; omega)) (by have := (w8.drew.heap.size); have := E8.size; simp at *; omega), fun e => by have := hv _ e; omega⟩, ho.new (X2.step E9) (by omega)⟩
    refine OwnN.only (hO8.to ?_) ho (by omega)
    exact Ext.step (by repeat (first | exact Ext.refl _ | with_reducible refine Ext.drew ?_)) hx9

end Go.Proofs.Ytfoifcbaadnigaa

/-
  Contracts: next, following, New.
-/
set_option linter.unusedVariables false
set_option linter.unusedSimpArgs false
namespace Go.Proofs.Ytfoifcbaadnigaa
open Go.RowKit

theorem next_is (B : Option Addr) (m d : Nat) (fs : List Int) (y : Int) (w : World) (h : Rd w 1 B (m + 1) (Ks .i64 fs)) (hm : m ≤ 1000) (hd : m + 1 ≤ d) (hd2 : d ≤ maxLen) (hy : fs[m]? = some y) :
    Calls Try.prog 66 #[.slice B (m + 1 : Nat) d] w fun e w' => e = .returned (.tuple #[.int .i64 y, .slice B m m]) ∧ Ext w w' := by
  obtain ⟨ad, rfl, hc⟩ := h.2 m (.int .i64 y) (by simp [Ks, hy])
  have e1 : IntKind.i64.wrap (((m + 1 : Nat) : Int) - 1) = (m : Int) := by rw [IntKind.wrap_i64]; omega
  have e2 : ¬ d < m := by omega
  have hdm : m ≤ d := by omega
  simp only [maxLen] at hd2
  clear hy h
  go_enter Try.func66, Try.ntmps66
  go_wp2_with fail
  go_quiet (fail)
  go_wp2_with fail
  go_ret2
  exact ⟨rfl, (Ext.refl w).drewN _⟩

/-- The generation of a node that was dropped. -/
def foll (g : Int) : Int := if g < 1048576 then g + 1 else 0
theorem foll_may {g : Int} (h : GenMay g) : GenMay (foll g) := by
  unfold foll
  split <;> constructor <;> omega
theorem new_no (n : Int) (w : World) (h : ¬ (1 ≤ n ∧ n ≤ 512)) :
    Calls Try.prog 7 #[.int .i64 n] w fun e w' => e = .returned (.tuple #[.agg #[.slice none 0 0, .slice none 0 0], .int .i64 1]) ∧ Ext w w' := by
  have B := Bx.new w #[.slice none 0 0, .slice none 0 0] 26
  have hb := B.two (.slice none 0 0) (.slice none 0 0)
  have ho := (Only.two (w.alloc (.cells #[.slice none 0 0, .slice none 0 0] 26)) w.heap.size (.slice none 0 0) (.slice none 0 0)).new ((Ext.refl w).new _) (Nat.le_refl _)
  by_cases h1 : 1 ≤ n
  · have h2 : ¬ n ≤ 512 := fun k => h ⟨h1, k⟩
    clear h
    go_enter Try.func7, Try.ntmps7
    go_wp2_with fail
    refine bodyPost_ret (results_ar2 rfl _ _ w.heap.size #[.slice none 0 0, .slice none 0 0] (by rfl) ?_ rfl) rfl ⟨rfl, ?_⟩
    · first | exact hb | exact B
    · first | exact ho | exact (Ext.refl w).new _
  · clear h
    go_enter Try.func7, Try.ntmps7
    go_wp2_with fail
    refine bodyPost_ret (results_ar2 rfl _ _ w.heap.size #[.slice none 0 0, .slice none 0 0] (by rfl) ?_ rfl) rfl ⟨rfl, ?_⟩
    · first | exact hb | exact B
    · first | exact ho | exact (Ext.refl w).new _

/-- The first k of n places, from the last one down. -/
def downs (n k : Nat) : List Int := (List.range n).map fun (i : Nat) => if i < k then (n : Int) - 1 - i else 0
def down (n : Nat) : List Int := (List.range n).map fun (i : Nat) => (n : Int) - 1 - i
theorem downs_all (n : Nat) : downs n n = down n := by
  unfold downs down
  apply List.map_congr_left
  intro i hi
  simp at hi
  simp [hi]
theorem downs_length (n k : Nat) : (downs n k).length = n := by simp [downs]
def Cs (l : List Int) : Array Value := (Ks .i64 l).toArray
theorem Cs_size (l : List Int) : (Cs l).size = l.length := by simp [Cs, Ks]
theorem Cs_get (l : List Int) (i : Nat) : (Cs l)[i]? = (l[i]?).map (Value.int .i64) := by simp [Cs, Ks]
theorem made_ints (n : Nat) : madeCells #[.int .i64 0] n = Cs (downs n 0) := by
  apply Array.ext'
  rw [toList_madeCells_one]
  apply List.ext_getElem
  · simp [Cs, Ks, downs]
  · intro i h1 h2
    simp [Cs, Ks, downs]
theorem downs_set (n : Nat) {k : Nat} (hk : k < n) : (Cs (downs n k)).setIfInBounds k (.int .i64 ((n : Int) - 1 - k)) = Cs (downs n (k + 1)) := by
  apply Array.ext_getElem?
  intro i
  rw [Array.getElem?_setIfInBounds, Cs_size, downs_length, Cs_get, Cs_get]
  by_cases hi : i < n
  · by_cases e : k = i
    · subst e
      simp [downs, hi]
    · have : (i < k + 1) = (i < k) := by simp; omega
      simp [downs, hi, e, this]
  · have e : ¬ k = i := by omega
    rw [if_neg e, List.getElem?_eq_none (by rw [downs_length]; omega), List.getElem?_eq_none (by rw [downs_length]; omega)]
theorem Bx.ints {W : World} {b : Nat} {l : List Int} (h : Bx W b (Cs l)) {m : Nat} (hm : l.length = m) : Rd W 1 (some ⟨b, 0, none⟩) m (Ks .i64 l) := by
  subst hm
  refine ⟨by simp [Ks], fun j u hu => ⟨_, rfl, ?_⟩⟩
  rw [addr_zero, h.cell j]
  simpa [Cs] using hu
theorem made_nodes (n : Nat) : (madeCells (bare 0).arr (n * 16)).toList = flat Nd.cells (List.replicate n (bare 0)) := by
  have hb : (bare 0).arr.size = 16 := rfl
  have hsz : (madeCells (bare 0).arr (n * 16)).toList.length = n * 16 := by rw [Array.length_toList, size_madeCells]
  have hfl : (flat Nd.cells (List.replicate n (bare 0))).length = n * 16 := by rw [flat_length Nd.cells_length]; simp
  apply List.ext_getElem?
  intro k
  by_cases hk : k < n * 16
  · have e : k = k / 16 * 16 + k % 16 := by omega
    have hm := Nat.mod_lt k (show 0 < 16 by omega)
    have h1 : (flat Nd.cells (List.replicate n (bare 0)))[k]? = (bare 0).cells[k % 16]? := by
      have := flat_get Nd.cells_length (List.replicate n (bare 0)) (k / 16) (k % 16) (bare 0) (by
        rw [List.getElem?_replicate, if_pos (by omega)]) hm
      rw [← e] at this
      exact this
    have h2 : (madeCells (bare 0).arr (n * 16)).toList[k]? = some ((bare 0).arr[k % 16]!) := by
      rw [Array.getElem?_toList]
      unfold madeCells
      rw [hb, Array.getElem?_map, Array.getElem?_range, if_pos hk]
      rfl
    rw [h1, h2, getElem!_pos _ _ (by rw [hb]; exact hm), ← Nd.arr_get, Array.getElem?_eq_getElem (by rw [hb]; exact hm)]
  · rw [List.getElem?_eq_none (by omega), List.getElem?_eq_none (by omega)]

def NewA (w : World) (n : Nat) (e : Ending) (w' : World) : Prop :=
  ∃ g c h d, e = .returned (.tuple #[.agg #[.slice (some ⟨g, 0, none⟩) n c, .slice (some ⟨h, 0, none⟩) n d], .int .i64 0]) ∧ n ≤ d ∧ d ≤ maxLen ∧ Ar w' (some ⟨g, 0, none⟩) n (some ⟨h, 0, none⟩) n (List.replicate n (bare 0)) (down n) ∧ Ext w w' ∧ FrA w g (some ⟨h, 0, none⟩)

set_option maxHeartbeats 1600000 in
set_option maxRecDepth 100000 in
theorem new_yes (n : Nat) (w : World) (h1 : 1 ≤ n) (h2 : n ≤ 512) :
    Calls Try.prog 7 #[.int .i64 n] w (NewA w n) := by
  obtain ⟨i0, hi0, hz0, hz1, hz2⟩ := info_parts int_info
  obtain ⟨i1, hi1, hy0, hy1, hy2⟩ := info_parts node_info
  obtain ⟨w1, hw1⟩ : ∃ w1, w1 = w.alloc (.cells #[.slice none 0 0, .slice none 0 0] 26) := ⟨_, rfl⟩
  obtain ⟨w2, hw2⟩ : ∃ w2, w2 = w1.alloc (.cells (madeCells #[.int .i64 0] n) 3) := ⟨_, rfl⟩
  obtain ⟨B1, hx1, hs1⟩ := box_made hw1
  obtain ⟨B2, hx2, hs2⟩ := box_made hw2
  rw [made_ints] at B2
  have H1 := Lib.hid hw1
  have H2 := Lib.hid hw2
  have HB1 := Lib.hid B1
  have HB2 := Lib.hid B2
  have X1 := Lib.hid hx1
  have X2 := Lib.hid hx2
  have S1 := Lib.hid hs1
  clear hw1 hw2 B1 B2 hx1 hx2 hs1 hs2
  go_enter Try.func7, Try.ntmps7
  go_wp2_with (at_make; rw [← H1.out]; refine wpList_make_row _ rfl _ _ 24 rfl 3 i0 (.int .i64 0) Try.underlying24 hi0 hz0 hz1 rfl .i64 .i64 n rfl rfl (by rw [hz2]; omega) (by omega) ?_; rw [← H2.out])
  go_loopw [5, 17] (fun _ j wr => Ext w1 wr ∧ ∃ k : Nat, k ≤ n ∧ j = .int .i64 k ∧ Hid (Bx wr w1.heap.size (Cs (downs n k)))) (fun _ j _ => n - (intOf j).toNat)
  case atStart => exact ⟨X2.out, 0, Nat.zero_le _, rfl, HB2⟩
  case round =>
    obtain ⟨hx, k, hk, rfl, hB⟩ := hrel
    by_cases hlt : k < n
    · have c0 := (hB.out.cell k).trans ((Cs_get _ k).trans (congrArg _ (List.getElem?_eq_getElem (by rw [downs_length]; exact hlt))))
      have f0 := hB.out.free k
      simp only [Option.map_some] at c0
      generalize (downs n k)[k]'(by rw [downs_length]; exact hlt) = old at c0
      go_wp2_with fail
      go_roundw
      case rel => exact ⟨hx.set _ (Nat.le_refl _), k + 1, by omega, by go_num, Lib.hid (by
        have := hB.out.set (j := k) (by rw [Cs_size, downs_length]; exact hlt) (.int .i64 ((n : Int) - 1 - k))
        rw [downs_set n hlt] at this
        exact this)⟩
      case measure => simp [intOf]; omega
    · obtain rfl : k = n := by omega
      rw [downs_all] at hB
      have hR := hB.out.ints (m := k) (by simp [down])
      have HR := Lib.hid hR
      have HX := Lib.hid hx
      clear hR hx
      rename World => w4
      go_wp2_with
        (at_make
         refine wpList_make_full w4 rfl _ _ 23 rfl w.heap.size 68 i1 _ 16 Try.underlying23 hi1 hy0 hy1 .i64 .i64 _ _ k rfl rfl rfl rfl (by rw [hy2]; omega) (by unfold maxLen; omega) (by have := HX.out.size; have := S1.out; omega) ?_
         intro w5 hown hgr
         have X5 : Ext w4 w5 := ⟨hgr.os, hgr.tape, hgr.output, hgr.size, fun k hk => hgr.block k hk (by simp)⟩
         have B5 := HB1.out.to (HX.out.step X5)
         have f0 : w5.cell? ⟨w.heap.size, 0, none⟩ = some (.slice none 0 0) := B5.cell 0
         have f1 : w5.cell? ⟨w.heap.size, 1, none⟩ = some (.slice none 0 0) := B5.cell 1
         have f2 : w5.frozen? ⟨w.heap.size, 0, none⟩ = false := B5.free 0
         have f3 : w5.frozen? ⟨w.heap.size, 1, none⟩ = false := B5.free 1)
      rw [show (Value.agg #[.int .i64 0, .int .i64 0, .int .i64 0, .int .i64 0, .int .i64 0, .int .u64 0, .int .u64 0, .int .u64 0, .int .u64 0, .int .u64 0, .int .u64 0, .int .u64 0, .int .u64 0, .int .u64 0, .int .i64 0, .int .i64 0]) = .agg (bare 0).arr from rfl] at hown
      simp only [Value.cells] at hown
      rw [made_nodes] at hown
      obtain ⟨g, c, hv, hg, hO⟩ := OwnN.of_own hown (by omega)
      obtain ⟨rfl, _⟩ : g = w4.heap.size ∧ c = k := by
        injection hv with h1 _ h2
        injection h1 with h1
        injection h1 with h1
        exact ⟨h1.symm, h2.symm⟩
      have ho := Only.two w5 w.heap.size (.slice (some ⟨w4.heap.size, 0, none⟩) k k) (.slice (some ⟨w1.heap.size, 0, none⟩) k k)
      have hXX := (X1.out.step HX.out).step X5
      have hs := HX.out.size
      have hs1 := S1.out
      refine bodyPost_ret (results_ar2 rfl _ _ w.heap.size #[.slice (some ⟨w4.heap.size, 0, none⟩) k k, .slice (some ⟨w1.heap.size, 0, none⟩) k k] (by rfl) (B5.two _ _) rfl) rfl ?_
      exact ⟨w4.heap.size, k, w1.heap.size, k, rfl, Nat.le_refl _, by unfold maxLen; omega, ⟨(hO.only ho (by omega)).rd (by simp), ho.rd (HR.out.to X5) (fun q hq e => by injection hq with hq; subst hq; simp at e; omega), fun x hx => by rw [List.eq_of_mem_replicate hx]; intro r hr; simp [bare, Nd.kids] at hr; subst hr; omega⟩, ho.new hXX (Nat.le_refl _), by omega, fun q hq => by injection hq with hq; subst hq; show w.heap.size ≤ w1.heap.size; omega⟩

end Go.Proofs.Ytfoifcbaadnigaa

/-
  Contracts: Make.
-/
set_option linter.unusedVariables false
set_option linter.unusedSimpArgs false
namespace Go.Proofs.Ytfoifcbaadnigaa
open Go.RowKit

theorem own_cap {w : World} {base : Nat} {e : TypeId} {size n m c : Nat} {A : Option Addr} {xs : List Value} (h : w.ownsRow base e size (.slice A m c) n xs) : n ≤ c ∧ c ≤ maxLen ∧ m = n := by
  rcases h.2 with ⟨hv, h0⟩ | ⟨g, cap, cur, hv, _, _, hn, hm, _⟩
  · injection hv with _ h1 h2
    exact ⟨by omega, by unfold maxLen; omega, by omega⟩
  · injection hv with _ h1 h2
    subst h2
    exact ⟨hn, hm, h1⟩

/-- A node that may be made. -/
def Nd.Makes (x : Nd) : Prop := 1 ≤ x.k ∧ x.k ≤ 100 ∧ x.Parts
/-- The same node, of another generation. -/
def Nd.gen (x : Nd) (g : Int) : Nd := { x with g := g }

theorem ArMay.len {ns : List Nd} {fs : List Int} (h : ArMay ns fs) : fs.length ≤ ns.length := by
  have h2 : fs ⊆ (List.range ns.length).map Int.ofNat := fun y hy => by
    have := h.frees.1 y hy
    exact List.mem_map.2 ⟨y.toNat, by simp only [List.mem_range]; omega, by show ((y.toNat : Nat) : Int) = y; omega⟩
  have := h.frees.2.1.length_le_of_subset h2
  simpa using this

set_option maxHeartbeats 1600000 in
theorem make_arg (A B : Option Addr) (n m c d : Nat) (ns : List Nd) (fs : List Int) (x : Nd) (w : World) (h : Ar w A n B m ns fs) (hn : n ≤ 1000) (hm : m ≤ 1000) (hx : x.Ok) (hno : ¬ (ArMay ns fs ∧ x.Makes)) :
    Calls Try.prog 48 #[.agg #[.slice A n c, .slice B m d], .agg x.arr] w fun e w' => e = .returned (.tuple #[.agg #[.slice none 0 0, .slice none 0 0], .int .u64 0, .int .i64 1]) ∧ Ext w w' := by
  obtain ⟨w1, hw1⟩ : ∃ w1, w1 = w.alloc (.cells #[.slice A n c, .slice B m d] 26) := ⟨_, rfl⟩
  obtain ⟨w2, hw2⟩ : ∃ w2, w2 = w1.alloc (.cells x.arr 68) := ⟨_, rfl⟩
  obtain ⟨w3, hw3⟩ : ∃ w3, w3 = w2.alloc (.cells #[.slice none 0 0, .slice none 0 0] 26) := ⟨_, rfl⟩
  obtain ⟨B1, hx1, hs1⟩ := box_made hw1
  obtain ⟨B2, hx2, hs2⟩ := box_made hw2
  obtain ⟨B3, hx3, hs3⟩ := box_made hw3
  rw [hs2, hs1] at B3
  rw [hs1] at B2
  obtain ⟨b, hb⟩ : ∃ b : Bool, b = true ↔ ArMay ns fs := by
    by_cases hq : ArMay ns fs
    · exact ⟨true, by simp [hq]⟩
    · exact ⟨false, by simp [hq]⟩
  have X3 := Lib.hid ((hx1.step hx2).step hx3)
  have HR := Lib.hid (arRight_is A B n m c d ns fs w3 (h.to X3.out) hn hm b hb)
  have HP := Lib.hid (fun W => rightParts_is x W hx)
  have k0 : w3.cell? ⟨w.heap.size, 0, none⟩ = some (.slice A n c) := (B1.to (hx2.step hx3)).cell 0
  have k1 : w3.cell? ⟨w.heap.size, 1, none⟩ = some (.slice B m d) := (B1.to (hx2.step hx3)).cell 1
  have HB2 := Lib.hid (B2.to hx3)
  have HB3 := Lib.hid B3
  have H1 := Lib.hid hw1
  have H2 := Lib.hid hw2
  have H3 := Lib.hid hw3
  have HN := Lib.hid hno
  have HB := Lib.hid hb
  obtain ⟨kk, hkk⟩ : ∃ kk, kk = x.k := ⟨_, rfl⟩
  have HK := Lib.hid hkk
  obtain ⟨t, ht⟩ : ∃ t, t = decide x.Parts := ⟨_, rfl⟩
  rw [← ht] at HP
  have HT := Lib.hid ht
  have HE := Lib.hid (fun (W : World) (hW : Ext w3 W) => show Ext w ((W.setCell ⟨w.heap.size + 2, 0, none⟩ (.slice none 0 0)).setCell ⟨w.heap.size + 2, 1, none⟩ (.slice none 0 0)) ∧ Bx ((W.setCell ⟨w.heap.size + 2, 0, none⟩ (.slice none 0 0)).setCell ⟨w.heap.size + 2, 1, none⟩ (.slice none 0 0)) (w.heap.size + 2) #[.slice none 0 0, .slice none 0 0] from
    ⟨(Only.two W (w.heap.size + 2) _ _).new (X3.out.step hW) (by omega), (HB3.out.to hW).two _ _⟩)
  clear hw1 hw2 hw3 B1 B2 B3 hx1 hx2 hx3 hs1 hs2 hs3 hb hno hkk ht hx h
  go_enter Try.func48, Try.ntmps48
  go_wp2_with fail
  rw [← H1.out, ← H2.out, ← H3.out]
  go_wp2_with fail
  refine HR.out.mono ?_; rintro e w4 ⟨rfl, hx4⟩
  have c0 : w4.cell? ⟨w.heap.size + 1, 0, none⟩ = some (.int .i64 kk) := by rw [HK.out]; exact ((HB2.out.to hx4).cell 0).trans x.a0
  have hn4 := (HB2.out.to hx4).node
  have f0 : w4.cell? ⟨w.heap.size + 2, 0, none⟩ = some (.slice none 0 0) := (HB3.out.to hx4).cell 0
  have f1 : w4.cell? ⟨w.heap.size + 2, 1, none⟩ = some (.slice none 0 0) := (HB3.out.to hx4).cell 1
  have f2 : w4.frozen? ⟨w.heap.size + 2, 0, none⟩ = false := (HB3.out.to hx4).free 0
  have f3 : w4.frozen? ⟨w.heap.size + 2, 1, none⟩ = false := (HB3.out.to hx4).free 1
  have HX4 := Lib.hid hx4
  clear hx4
  cases b
  · go_wp2_with fail
    refine bodyPost_ret (results_ar3 rfl _ _ (w.heap.size + 2) #[.slice none 0 0, .slice none 0 0] (by rfl) (HE.out _ HX4.out).2 rfl) rfl ⟨rfl, (HE.out _ HX4.out).1⟩
  · by_cases g1 : 1 ≤ kk
    · by_cases g2 : kk ≤ 100
      · obtain rfl : t = false := by
          rw [HT.out, decide_eq_false_iff_not]
          exact fun hp => HN.out ⟨HB.out.1 rfl, by rw [← HK.out]; exact g1, by rw [← HK.out]; exact g2, hp⟩
        have d1 : (kk < 1) = False := by simp; omega
        have d2 : (100 < kk) = False := by simp; omega
        go_wp2_with (refine wpList_load_nd (by rfl) _ (by rfl) _ (by rfl) x hn4 ?_)
        refine (HP.out _).mono ?_; rintro e w5 ⟨rfl, hx5⟩
        have f0 : w5.cell? ⟨w.heap.size + 2, 0, none⟩ = some (.slice none 0 0) := (HB3.out.to (HX4.out.step hx5)).cell 0
        have f1 : w5.cell? ⟨w.heap.size + 2, 1, none⟩ = some (.slice none 0 0) := (HB3.out.to (HX4.out.step hx5)).cell 1
        have f2 : w5.frozen? ⟨w.heap.size + 2, 0, none⟩ = false := (HB3.out.to (HX4.out.step hx5)).free 0
        have f3 : w5.frozen? ⟨w.heap.size + 2, 1, none⟩ = false := (HB3.out.to (HX4.out.step hx5)).free 1
        have HX5 := Lib.hid (HX4.out.step hx5)
        clear hx5
        go_wp2_with fail
        refine bodyPost_ret (results_ar3 rfl _ _ (w.heap.size + 2) #[.slice none 0 0, .slice none 0 0] (by rfl) (HE.out _ HX5.out).2 rfl) rfl ⟨rfl, (HE.out _ HX5.out).1⟩
      · go_wp2_with fail
        refine bodyPost_ret (results_ar3 rfl _ _ (w.heap.size + 2) #[.slice none 0 0, .slice none 0 0] (by rfl) (HE.out _ HX4.out).2 rfl) rfl ⟨rfl, (HE.out _ HX4.out).1⟩
    · go_wp2_with fail
      refine bodyPost_ret (results_ar3 rfl _ _ (w.heap.size + 2) #[.slice none 0 0, .slice none 0 0] (by rfl) (HE.out _ HX4.out).2 rfl) rfl ⟨rfl, (HE.out _ HX4.out).1⟩

end Go.Proofs.Ytfoifcbaadnigaa

/-
  Contracts: Make, of an arena that has none free, and of one that has.
-/
set_option linter.unusedVariables false
set_option linter.unusedSimpArgs false
namespace Go.Proofs.Ytfoifcbaadnigaa
open Go.RowKit

set_option maxHeartbeats 1600000 in
theorem make_full (A B : Option Addr) (n c d : Nat) (ns : List Nd) (x : Nd) (w : World) (h : Ar w A n B 0 ns []) (hn : n ≤ 1000) (hx : x.Ok) (hmay : ArMay ns []) (hmk : x.Makes) :
    Calls Try.prog 48 #[.agg #[.slice A n c, .slice B 0 d], .agg x.arr] w fun e w' => e = .returned (.tuple #[.agg #[.slice none 0 0, .slice none 0 0], .int .u64 0, .int .i64 2]) ∧ Ext w w' := by
  obtain ⟨w1, hw1⟩ : ∃ w1, w1 = w.alloc (.cells #[.slice A n c, .slice B 0 d] 26) := ⟨_, rfl⟩
  obtain ⟨w2, hw2⟩ : ∃ w2, w2 = w1.alloc (.cells x.arr 68) := ⟨_, rfl⟩
  obtain ⟨w3, hw3⟩ : ∃ w3, w3 = w2.alloc (.cells #[.slice none 0 0, .slice none 0 0] 26) := ⟨_, rfl⟩
  obtain ⟨B1, hx1, hs1⟩ := box_made hw1
  obtain ⟨B2, hx2, hs2⟩ := box_made hw2
  obtain ⟨B3, hx3, hs3⟩ := box_made hw3
  rw [hs2, hs1] at B3
  rw [hs1] at B2
  have X3 := Lib.hid ((hx1.step hx2).step hx3)
  have HR := Lib.hid (arRight_is A B n 0 c d ns [] w3 (h.to X3.out) hn (Nat.zero_le _) true (by simp [hmay]))
  have HP := Lib.hid (fun W => rightParts_is x W hx)
  have k0 : w3.cell? ⟨w.heap.size, 0, none⟩ = some (.slice A n c) := (B1.to (hx2.step hx3)).cell 0
  have k1 : w3.cell? ⟨w.heap.size, 1, none⟩ = some (.slice B 0 d) := (B1.to (hx2.step hx3)).cell 1
  have HB2 := Lib.hid (B2.to hx3)
  have HB3 := Lib.hid B3
  have H1 := Lib.hid hw1
  have H2 := Lib.hid hw2
  have H3 := Lib.hid hw3
  have HM := Lib.hid hmay
  have HX := Lib.hid hmk
  have HA := Lib.hid (h.to X3.out)
  have HB1 := Lib.hid (B1.to (hx2.step hx3))
  obtain ⟨kk, hkk⟩ : ∃ kk, kk = x.k := ⟨_, rfl⟩
  have HK := Lib.hid hkk
  rw [decide_eq_true hmk.2.2] at HP
  have g1 : 1 ≤ kk := by rw [hkk]; exact hmk.1
  have g2 : kk ≤ 100 := by rw [hkk]; exact hmk.2.1
  have d1 : (kk < 1) = False := by simp; omega
  have d2 : (100 < kk) = False := by simp; omega
  have HE := Lib.hid (fun (W : World) (hW : Ext w3 W) => show Ext w ((W.setCell ⟨w.heap.size + 2, 0, none⟩ (.slice none 0 0)).setCell ⟨w.heap.size + 2, 1, none⟩ (.slice none 0 0)) ∧ Bx ((W.setCell ⟨w.heap.size + 2, 0, none⟩ (.slice none 0 0)).setCell ⟨w.heap.size + 2, 1, none⟩ (.slice none 0 0)) (w.heap.size + 2) #[.slice none 0 0, .slice none 0 0] from
    ⟨(Only.two W (w.heap.size + 2) _ _).new (X3.out.step hW) (by omega), (HB3.out.to hW).two _ _⟩)
  clear hw1 hw2 hw3 B1 B2 B3 hx1 hx2 hx3 hs1 hs2 hs3 hmay hmk hkk hx h
  go_enter Try.func48, Try.ntmps48
  go_wp2_with fail
  rw [← H1.out, ← H2.out, ← H3.out]
  go_wp2_with fail
  refine HR.out.mono ?_; rintro e w4 ⟨rfl, hx4⟩
  have c0 : w4.cell? ⟨w.heap.size + 1, 0, none⟩ = some (.int .i64 kk) := by rw [HK.out]; exact ((HB2.out.to hx4).cell 0).trans x.a0
  have hn4 := (HB2.out.to hx4).node
  have f0 : w4.cell? ⟨w.heap.size + 2, 0, none⟩ = some (.slice none 0 0) := (HB3.out.to hx4).cell 0
  have f1 : w4.cell? ⟨w.heap.size + 2, 1, none⟩ = some (.slice none 0 0) := (HB3.out.to hx4).cell 1
  have f2 : w4.frozen? ⟨w.heap.size + 2, 0, none⟩ = false := (HB3.out.to hx4).free 0
  have f3 : w4.frozen? ⟨w.heap.size + 2, 1, none⟩ = false := (HB3.out.to hx4).free 1
  have HX4 := Lib.hid hx4
  clear hx4
  go_wp2_with (refine wpList_load_nd (by rfl) _ (by rfl) _ (by rfl) x hn4 ?_)
  refine (HP.out _).mono ?_; rintro e w5 ⟨rfl, hx5⟩
  have q0 : w5.cell? ⟨w.heap.size, 0, none⟩ = some (.slice A n c) := (HB1.out.to (HX4.out.step hx5)).cell 0
  have q1 : w5.cell? ⟨w.heap.size, 1, none⟩ = some (.slice B 0 d) := (HB1.out.to (HX4.out.step hx5)).cell 1
  have f0 : w5.cell? ⟨w.heap.size + 2, 0, none⟩ = some (.slice none 0 0) := (HB3.out.to (HX4.out.step hx5)).cell 0
  have f1 : w5.cell? ⟨w.heap.size + 2, 1, none⟩ = some (.slice none 0 0) := (HB3.out.to (HX4.out.step hx5)).cell 1
  have f2 : w5.frozen? ⟨w.heap.size + 2, 0, none⟩ = false := (HB3.out.to (HX4.out.step hx5)).free 0
  have f3 : w5.frozen? ⟨w.heap.size + 2, 1, none⟩ = false := (HB3.out.to (HX4.out.step hx5)).free 1
  have HX5 := Lib.hid (HX4.out.step hx5)
  clear hx5 c0 hn4
  go_wp2_with fail
  refine bodyPost_ret (results_ar3 rfl _ _ (w.heap.size + 2) #[.slice none 0 0, .slice none 0 0] (by rfl) (HE.out _ HX5.out).2 rfl) rfl ⟨rfl, (HE.out _ HX5.out).1⟩

def MadeA (w : World) (n m : Nat) (ns : List Nd) (fs : List Int) (p : Nat) (x : Nd) (e : Ending) (w' : World) : Prop :=
  ∃ g c B, e = .returned (.tuple #[.agg #[.slice (some ⟨g, 0, none⟩) n c, .slice B m m], .int .u64 (65536 * x.g + p + 1), .int .i64 0]) ∧ Ar w' (some ⟨g, 0, none⟩) n B m (ns.set p x) (fs.take m) ∧ Ext w w' ∧ FrA w g B

set_option maxHeartbeats 3200000 in
theorem make_yes (A B : Option Addr) (n m c d : Nat) (ns : List Nd) (fs : List Int) (x : Nd) (p : Nat) (old : Nd) (w : World) (h : Ar w A n B (m + 1) ns fs) (hn : n ≤ 1000) (hx : x.Ok) (hmay : ArMay ns fs) (hmk : x.Makes) (hp : fs[m]? = some (p : Int)) (hold : ns[p]? = some old) :
    Calls Try.prog 48 #[.agg #[.slice A n c, .slice B (m + 1 : Nat) d], .agg x.arr] w (MadeA w n m ns fs p (x.gen old.g)) := by
  have hm : m + 1 ≤ 1000 := by have := hmay.len; have := h.len; have := h.lenF; omega
  have HPP := Lib.hid hp
  have HO := Lib.hid hold
  have hpn : p < n := by have := (List.getElem?_eq_some_iff.1 hold).1; have := h.len; omega
  have HMay := Lib.hid (show May (p : Int) old.g from by
    have h1 := (hmay.fits old (List.mem_of_getElem? hold)).1
    have h2 := hmay.le
    have h3 := h.len
    exact ⟨by omega, by omega, h1.1, h1.2⟩)
  have hlen := Lib.hid h.len
  have HOK := Lib.hid (show ∀ y ∈ ns.set p (x.gen old.g), y.Ok from fun y hy => by
    rcases List.mem_or_eq_of_mem_set hy with h' | h'
    · exact h.ok y h'
    · subst h'
      exact hx)
  clear hp hold
  obtain ⟨w1, hw1⟩ : ∃ w1, w1 = w.alloc (.cells #[.slice A n c, .slice B (m + 1 : Nat) d] 26) := ⟨_, rfl⟩
  obtain ⟨w2, hw2⟩ : ∃ w2, w2 = w1.alloc (.cells x.arr 68) := ⟨_, rfl⟩
  obtain ⟨w3, hw3⟩ : ∃ w3, w3 = w2.alloc (.cells #[.slice none 0 0, .slice none 0 0] 26) := ⟨_, rfl⟩
  obtain ⟨B1, hx1, hs1⟩ := box_made hw1
  obtain ⟨B2, hx2, hs2⟩ := box_made hw2
  obtain ⟨B3, hx3, hs3⟩ := box_made hw3
  rw [hs2, hs1] at B3
  rw [hs1] at B2
  have X3 := Lib.hid ((hx1.step hx2).step hx3)
  have HR := Lib.hid (arRight_is A B n (m + 1) c d ns fs w3 (h.to X3.out) hn hm true (by simp [hmay]))
  have HP := Lib.hid (fun W => rightParts_is x W hx)
  have k0 : w3.cell? ⟨w.heap.size, 0, none⟩ = some (.slice A n c) := (B1.to (hx2.step hx3)).cell 0
  have k1 : w3.cell? ⟨w.heap.size, 1, none⟩ = some (.slice B (m + 1 : Nat) d) := (B1.to (hx2.step hx3)).cell 1
  have HB2 := Lib.hid (B2.to hx3)
  have HB3 := Lib.hid B3
  have H1 := Lib.hid hw1
  have H2 := Lib.hid hw2
  have H3 := Lib.hid hw3
  have HM := Lib.hid hmay
  have HX := Lib.hid hmk
  have HA := Lib.hid (h.to X3.out)
  have HB1 := Lib.hid (B1.to (hx2.step hx3))
  obtain ⟨kk, hkk⟩ : ∃ kk, kk = x.k := ⟨_, rfl⟩
  have HK := Lib.hid hkk
  rw [decide_eq_true hmk.2.2] at HP
  have g1 : 1 ≤ kk := by rw [hkk]; exact hmk.1
  have g2 : kk ≤ 100 := by rw [hkk]; exact hmk.2.1
  have d1 : (kk < 1) = False := by simp; omega
  have d2 : (100 < kk) = False := by simp; omega
  have HE := Lib.hid (fun (W : World) (hW : Ext w3 W) => show Ext w ((W.setCell ⟨w.heap.size + 2, 0, none⟩ (.slice none 0 0)).setCell ⟨w.heap.size + 2, 1, none⟩ (.slice none 0 0)) ∧ Bx ((W.setCell ⟨w.heap.size + 2, 0, none⟩ (.slice none 0 0)).setCell ⟨w.heap.size + 2, 1, none⟩ (.slice none 0 0)) (w.heap.size + 2) #[.slice none 0 0, .slice none 0 0] from
    ⟨(Only.two W (w.heap.size + 2) _ _).new (X3.out.step hW) (by omega), (HB3.out.to hW).two _ _⟩)
  clear hw1 hw2 hw3 B1 B2 B3 hx1 hx2 hx3 hs1 hs2 hs3 hmay hmk hkk hx h
  go_enter Try.func48, Try.ntmps48
  go_wp2_with fail
  rw [← H1.out, ← H2.out, ← H3.out]
  go_wp2_with fail
  refine HR.out.mono ?_; rintro e w4 ⟨rfl, hx4⟩
  have c0 : w4.cell? ⟨w.heap.size + 1, 0, none⟩ = some (.int .i64 kk) := by rw [HK.out]; exact ((HB2.out.to hx4).cell 0).trans x.a0
  have hn4 := (HB2.out.to hx4).node
  have f0 : w4.cell? ⟨w.heap.size + 2, 0, none⟩ = some (.slice none 0 0) := (HB3.out.to hx4).cell 0
  have f1 : w4.cell? ⟨w.heap.size + 2, 1, none⟩ = some (.slice none 0 0) := (HB3.out.to hx4).cell 1
  have f2 : w4.frozen? ⟨w.heap.size + 2, 0, none⟩ = false := (HB3.out.to hx4).free 0
  have f3 : w4.frozen? ⟨w.heap.size + 2, 1, none⟩ = false := (HB3.out.to hx4).free 1
  have HX4 := Lib.hid hx4
  clear hx4
  go_wp2_with (refine wpList_load_nd (by rfl) _ (by rfl) _ (by rfl) x hn4 ?_)
  refine (HP.out _).mono ?_; rintro e w5 ⟨rfl, hx5⟩
  have q0 : w5.cell? ⟨w.heap.size, 0, none⟩ = some (.slice A n c) := (HB1.out.to (HX4.out.step hx5)).cell 0
  have q1 : w5.cell? ⟨w.heap.size, 1, none⟩ = some (.slice B (m + 1 : Nat) d) := (HB1.out.to (HX4.out.step hx5)).cell 1
  have f0 : w5.cell? ⟨w.heap.size + 2, 0, none⟩ = some (.slice none 0 0) := (HB3.out.to (HX4.out.step hx5)).cell 0
  have f1 : w5.cell? ⟨w.heap.size + 2, 1, none⟩ = some (.slice none 0 0) := (HB3.out.to (HX4.out.step hx5)).cell 1
  have f2 : w5.frozen? ⟨w.heap.size + 2, 0, none⟩ = false := (HB3.out.to (HX4.out.step hx5)).free 0
  have f3 : w5.frozen? ⟨w.heap.size + 2, 1, none⟩ = false := (HB3.out.to (HX4.out.step hx5)).free 1
  have HX5 := Lib.hid (HX4.out.step hx5)
  clear hx5 c0 hn4
  go_wp2_with fail
  refine (copied_is A B n (m + 1) c d ns fs _ (HA.out.to HX5.out) hn (by omega) hm).mono ?_
  rintro e w6 ⟨g, c', B', d', rfl, hN, hx6⟩
  have hge : w.heap.size + 3 ≤ g := by
    have h1 := hN.ge
    have h2 := HX5.out.size
    have h3 := HB3.out.lt
    omega
  have hvb : ∀ k, (Value.slice B' (m + 1) d').ownBlock = some k → w.heap.size + 3 ≤ k := fun k hk => by
    have h1 := (hN.free.lt k hk).1
    have h2 := HX5.out.size
    have h3 := HB3.out.lt
    omega
  have hap := hN.apart
  have X6 := HX5.out.step hx6
  have q0 : w6.cell? ⟨w.heap.size, 0, none⟩ = some (.slice A n c) := (HB1.out.to X6).cell 0
  have q1 : w6.cell? ⟨w.heap.size, 1, none⟩ = some (.slice B (m + 1 : Nat) d) := (HB1.out.to X6).cell 1
  have q2 : w6.frozen? ⟨w.heap.size, 0, none⟩ = false := (HB1.out.to X6).free 0
  have q3 : w6.frozen? ⟨w.heap.size, 1, none⟩ = false := (HB1.out.to X6).free 1
  obtain ⟨w7, hw7⟩ : ∃ w7, w7 = (w6.setCell ⟨w.heap.size, 0, none⟩ (.slice (some ⟨g, 0, none⟩) n c')).setCell ⟨w.heap.size, 1, none⟩ (.slice B' (m + 1) d') := ⟨_, rfl⟩
  have O7 : Only w.heap.size w6 w7 := by rw [hw7]; exact Only.two _ _ _ _
  have B7 : Bx w7 w.heap.size #[.slice (some ⟨g, 0, none⟩) n c', .slice B' (m + 1) d'] := by rw [hw7]; exact (HB1.out.to X6).two _ _
  have N7 : OwnN w7 g ns := hN.nodes.only O7 (by omega)
  have F7 := own_only hN.free O7 (fun e => by have := hvb _ e; omega)
  have B7n : Bx w7 (w.heap.size + 1) x.arr := O7.bx (HB2.out.to X6) (by omega)
  have B7r : Bx w7 (w.heap.size + 2) #[.slice none 0 0, .slice none 0 0] := O7.bx (HB3.out.to X6) (by omega)
  obtain ⟨cap1, cap2, _⟩ := own_cap F7
  have E7 : Ext w w7 := O7.new (X3.out.step X6) (Nat.le_refl _)
  have H7 := Lib.hid hw7
  have hN7 := Lib.hid (And.intro N7 (And.intro F7 (And.intro B7 (And.intro B7n (And.intro B7r E7)))))
  have hnx := Lib.hid (fun W (hW : Ext w7 W) => next_is B' m d' fs (p : Int) W ((Rd.own F7).to hW) (by omega) cap1 cap2 HPP.out)
  clear hN hx6 X6 hw7 O7 B7 N7 F7 B7n B7r E7 cap1 cap2 f0 f1 f2 f3
  go_wp2_with fail
  rw [← H7.out]
  refine (hnx.out _ (Ext.refl _)).mono ?_; rintro e w8 ⟨rfl, hx8⟩
  obtain ⟨N7, F7, B7, B7n, B7r, E7⟩ := hN7.out
  have B8 := B7.to hx8
  have B8n := B7n.to hx8
  have N8 := N7.to hx8
  have s0 : w8.cell? ⟨w.heap.size, 0, none⟩ = some (.slice (some ⟨g, 0, none⟩) n c') := B8.cell 0
  have s1 : w8.cell? ⟨g, p * 16 + 1, none⟩ = some (.int .i64 old.g) := (N8.at HO.out).gc
  have s2 : w8.cell? ⟨w.heap.size + 1, 1, none⟩ = some (.int .i64 x.g) := (B8n.cell 1).trans x.a1
  have s3 : w8.frozen? ⟨w.heap.size + 1, 1, none⟩ = false := B8n.free 1
  obtain ⟨gg, hgg⟩ : ∃ gg, gg = old.g := ⟨_, rfl⟩
  rw [← hgg] at s1 HMay
  obtain ⟨w9, hw9⟩ : ∃ w9, w9 = w8.setCell ⟨w.heap.size + 1, 1, none⟩ (.int .i64 gg) := ⟨_, rfl⟩
  have O9 : Only (w.heap.size + 1) w8 w9 := by rw [hw9]; exact (Only.refl _ _).set _ _
  have B9n : Bx w9 (w.heap.size + 1) (x.gen gg).arr := by
    rw [hw9]
    exact B8n.set (j := 1) (by rw [Nd.arr_size]; omega) (.int .i64 gg)
  have B9 : Bx w9 w.heap.size #[.slice (some ⟨g, 0, none⟩) n c', .slice B' (m + 1) d'] := O9.bx B8 (by omega)
  have B9r : Bx w9 (w.heap.size + 2) #[.slice none 0 0, .slice none 0 0] := O9.bx (B7r.to hx8) (by omega)
  have N9 : OwnN w9 g ns := N8.only O9 (by omega)
  have F9 := own_only (own_ext F7 hx8) O9 (fun e => by have := hvb _ e; omega)
  have E9 : Ext w w9 := O9.new (E7.step hx8) (by omega)
  have n9 := B9n.node
  have H9 := Lib.hid hw9
  have t0 : w9.cell? ⟨w.heap.size, 0, none⟩ = some (.slice (some ⟨g, 0, none⟩) n c') := B9.cell 0
  have hpl : p < ns.length := (List.getElem?_eq_some_iff.1 HO.out).1
  have h9 := Lib.hid (And.intro B9 (And.intro B9n (And.intro B9r (And.intro F9 E9))))
  have HG := Lib.hid hgg
  clear hx8 N7 F7 B7 B7n B7r E7 B8 B8n N8 hw9 hgg O9 B9 B9n B9r F9 E9 q0 q1 q2 q3
  go_wp2_with (first
    | (rw [← H9.out]; refine wpList_load_nd (by rfl) _ (by rfl) _ (by rfl) (x.gen gg) n9 ?_)
    | (refine wpList_store_in (by rfl) _ _ (by rfl) g p (by rfl) (x.gen gg) (by rfl) ns N9 hpl ?_
       intro w10 N10 O10
       obtain ⟨B9, B9n, B9r, F9, E9⟩ := h9.out
       have B10 := O10.bx B9 (by omega)
       have B10n := O10.bx B9n (by omega)
       have B10r := O10.bx B9r (by omega)
       have u0 : w10.cell? ⟨w.heap.size, 0, none⟩ = some (.slice (some ⟨g, 0, none⟩) n c') := B10.cell 0
       have u1 : w10.cell? ⟨w.heap.size, 1, none⟩ = some (.slice B' (m + 1) d') := B10.cell 1
       have u2 : w10.frozen? ⟨w.heap.size, 1, none⟩ = false := B10.free 1
       have u3 : w10.cell? ⟨w.heap.size + 1, 1, none⟩ = some (.int .i64 gg) := (B10n.cell 1).trans (Nd.a1 _)
       have u4 : w10.cell? ⟨w.heap.size + 2, 0, none⟩ = some (.slice none 0 0) := B10r.cell 0
       have u5 : w10.cell? ⟨w.heap.size + 2, 1, none⟩ = some (.slice none 0 0) := B10r.cell 1
       have u6 : w10.frozen? ⟨w.heap.size + 2, 0, none⟩ = false := B10r.free 0
       have u7 : w10.frozen? ⟨w.heap.size + 2, 1, none⟩ = false := B10r.free 1))
  refine (Of_yes (p : Int) gg _ HMay.out).mono ?_; rintro e w11 ⟨rfl, rfl⟩
  go_wp2_with fail
  have O11 := (Only.refl w.heap.size w10).set 1 (.slice B' m m)
  have B11r := O11.bx B10r (by omega)
  have O12 := Only.two (w10.setCell ⟨w.heap.size, 1, none⟩ (.slice B' m m)) (w.heap.size + 2) (.slice (some ⟨g, 0, none⟩) n c') (.slice B' m m)
  have E12 := O12.new (O11.new (O10.new E9 (by omega)) (Nat.le_refl _)) (by omega)
  have N12 := (N10.only O11 (by omega)).only O12 (by omega)
  have F12 := own_only (own_only (own_only F9 O10 hap) O11 (fun e => by have := hvb _ e; omega)) O12 (fun e => by have := hvb _ e; omega)
  have hgg := HG.out
  subst hgg
  refine bodyPost_ret (results_ar3 rfl _ _ (w.heap.size + 1 + 1) #[.slice (some ⟨g, 0, none⟩) n c', .slice B' m m] (by rfl) (B11r.two _ _) rfl) rfl ?_
  refine ⟨g, c', B', rfl, ⟨N12.rd (by rw [List.length_set]; exact hlen.out), ?_, HOK.out⟩, E12, by omega, fun q hq => by have := hvb q.block (by rw [hq]; rfl); omega⟩
  have := (Rd.own F12).take (k := m) (by omega)
  rw [Nat.mul_one] at this
  unfold Ks at this ⊢
  rw [List.map_take]
  exact this

end Go.Proofs.Ytfoifcbaadnigaa
