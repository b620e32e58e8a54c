/-
  Contract: the map of the keys of two (join of a maker).
-/
import Derived.Test.YtjiehlhnocgneaaTrSplit
import Derived.Test.YtjiehlhnocgneaaTwoHeld
set_option linter.unusedVariables false
set_option linter.unusedSimpArgs false
namespace Go.Proofs.Ytjiehlhnocgneaa
open Go.RowKit

theorem held_one2 {P : Program} {ops : Array Oper} {S : World → Prop} {Q : Exit → Act → World → Prop} {md : Region.Mode} {i : Nat} {o : Oper} {fuel : Nat} {li : Array Bool} {a : Act} {w : World} (hr : Region.ready md ops li = [i]) (ho : ops[i]? = some o) (hw : Region.wanted o (yielded ops a.tmps) = true)
    (h : Oper.wp P o a w (fun a' w' => S w' ∧ wpAnyH P md ops Q S fuel (li.setIfInBounds i true) a' w') Q) : wpAnyH P md ops Q S (fuel + 1) li a w := by
  refine wpAnyH_all hr (by simp) (fun j hj => ?_)
  obtain rfl : j = i := by simpa using hj
  exact wpOp_of_wp ho hw h
theorem wp_store_nd {o : Oper} {a : Act} {w : World} {K : Act → World → Prop} {Q : Exit → Act → World → Prop} (x y : Operand) (ho : o.op = .store 76 x y)
    (b : Nat) (hx : a.eval x = .pointer (some ⟨b, 0, none⟩)) (z : Nd) (hy : a.eval y = .agg z.arr) (cs : Array Value) (hB : Bx w b cs) (hc : cs.size = 16)
    (h : ∀ W, Bx W b z.arr → Only b w W → K (a.put o.dst undef) W) : Oper.wp Try.prog o a w K Q := by
  have ht : w.there b 0 z.arr.size := fun j hj => by
    rw [Nat.zero_add]
    rw [Nd.arr_size] at hj
    refine ⟨?_, hB.free j⟩
    rw [hB.cell j, Array.getElem?_eq_getElem (by omega)]; rfl
  unfold Oper.wp execOp
  simp only [ho, hx, hy, Sem.run_bind, run_storeAt_mid (P := Try.prog) w b 0 76 z.arr ht (by rw [Nd.arr_size]; kernel_rfl) (by rw [Array.all_eq_true']; exact fun v hv => z.cells_one v (by rw [← Nd.arr_list]; exact hv.val)), Sem.run_pure, Result.andThen_ok]
  exact h _ (hB.stored (by rw [hc]; rfl)) (setCells_only b _ 0 w w (Only.refl b w))

/-- The tree of two rows. -/
def GoodJ (l : Row) (ns' : List Nd) (z : Int) : Prop := ∃ s, Rep ns' s ∧ s.ref = z ∧ s.row = l ∧ Hp s

theorem goodJ_left {ns' ns'' : List Nd} {r : Int} {l u1 u : T} {k v : Int} {z5 z : Int} (hS : Srt ((T.node r l k v u1).row ++ u.row)) (hh : Hp (.node r l k v u1)) (hu : ∀ x ∈ u.row, Bef k x.1) (hz : u1.size + u.size ≤ 200) (hg : GoodJ (u1.row ++ u.row) ns' z5) (hK : Kid1 ns' z5 l k v u1 ns'' z) : GoodJ ((T.node r l k v u1).row ++ u.row) ns'' z := by
  obtain ⟨s, q1, q2, q3, q4⟩ := hg
  have hsz : s.size ≤ 400 := by
    rw [← T.row_length, q3, List.length_append, T.row_length, T.row_length]; omega
  refine ⟨.node z l k v s, hK s q1 q2 hsz, rfl, by simp [T.row, q3], ⟨hh.1, fun x hx => ?_, hh.2.2.1, q4⟩⟩
  rw [q3] at hx
  rcases List.mem_append.1 hx with hx | hx
  · exact hh.2.1 x hx
  · exact hu x hx
theorem goodJ_right {ns' ns'' : List Nd} {r : Int} {t l u1 : T} {k v : Int} {z5 z : Int} (hh : Hp (.node r l k v u1)) (hu : ∀ x ∈ t.row, Bef k x.1) (hz : t.size + l.size ≤ 200) (hg : GoodJ (t.row ++ l.row) ns' z5) (hK : Kid0 ns' z5 l k v u1 ns'' z) : GoodJ (t.row ++ (T.node r l k v u1).row) ns'' z := by
  obtain ⟨s, q1, q2, q3, q4⟩ := hg
  have hsz : s.size ≤ 400 := by
    rw [← T.row_length, q3, List.length_append, T.row_length, T.row_length]; omega
  refine ⟨.node z s k v u1, hK s q1 q2 hsz, rfl, by simp [T.row, q3], ⟨fun x hx => ?_, hh.2.1, q4, hh.2.2.2⟩⟩
  rw [q3] at hx
  rcases List.mem_append.1 hx with hx | hx
  · exact hu x hx
  · exact hh.1 x hx

set_option maxHeartbeats 12800000 in
set_option maxRecDepth 100000 in
theorem join_is (b : Nat) : ∀ (N : Nat) (t u : T) (ns : List Nd) (fs : List Int) (err : Int) (w : World), t.size + u.size ≤ N → Mk w b ns fs err → Rep ns t → Rep ns u → Srt (t.row ++ u.row) → Hp t → Hp u → t.size + u.size ≤ 200 → U t.ref → U u.ref →
    Calls Try.prog 49 #[.pointer (some ⟨b, 0, none⟩), .int .u64 t.ref, .int .u64 u.ref] w (MOut b ns fs err (t.size + u.size) (GoodJ (t.row ++ u.row)) w) := by
  intro N
  induction N with
  | zero =>
    intro t u ns fs err w hN h hR1 hR2 hS hH1 hH2 hz hU1 hU2
    cases t with
    | node r l k v u1 => simp [T.size] at hN
    | nil =>
    have HF := Lib.hid (show MOut b ns fs err (T.nil.size + u.size) (GoodJ (T.nil.row ++ u.row)) w (.returned (.int .u64 u.ref)) w from ⟨ns, fs, err, u.ref, rfl, h, Only.refl _ _, Gr.refl _ _ _, refMay_rep hR2, hU2, fun e => ⟨e, u, hR2, rfl, by simp [T.row], hH2⟩, fun e => .inl e⟩)
    rw [show T.nil.ref = 0 from rfl]
    clear h hR1 hR2 hS hH1 hH2 hz hU1 hU2 hN
    generalize u.ref = r' at *
    go_enter Try.func49, Try.ntmps49
    go_wp2_with fail
    go_ret
    exact HF.out
  | succ N ih =>
  intro t0 u0 ns fs err w hN h hR1 hR2 hS hH1 hH2 hz hU1 hU2
  cases t0 with
  | nil =>
    have HF := Lib.hid (show MOut b ns fs err (T.nil.size + u0.size) (GoodJ (T.nil.row ++ u0.row)) w (.returned (.int .u64 u0.ref)) w from ⟨ns, fs, err, u0.ref, rfl, h, Only.refl _ _, Gr.refl _ _ _, refMay_rep hR2, hU2, fun e => ⟨e, u0, hR2, rfl, by simp [T.row], hH2⟩, fun e => .inl e⟩)
    rw [show T.nil.ref = 0 from rfl]
    clear h hR1 hR2 hS hH1 hH2 hz hU1 hU2 hN ih
    generalize u0.ref = r' at *
    go_enter Try.func49, Try.ntmps49
    go_wp2_with fail
    go_ret
    exact HF.out
  | node r l k v u1 =>
  cases u0 with
  | nil =>
    have HF := Lib.hid (show MOut b ns fs err ((T.node r l k v u1).size + T.nil.size) (GoodJ ((T.node r l k v u1).row ++ T.nil.row)) w (.returned (.int .u64 r)) w from ⟨ns, fs, err, r, rfl, h, Only.refl _ _, Gr.refl _ _ _, refMay_rep hR1, hU1, fun e => ⟨e, _, hR1, rfl, by simp [T.row], hH1⟩, fun e => .inl e⟩)
    rw [show T.nil.ref = 0 from rfl, show (T.node r l k v u1).ref = r from rfl]
    have m1 : (r == 0) = false := by simp [hR1.ref_nz]
    clear h hR1 hR2 hS hH1 hH2 hz hU1 hU2 hN ih
    go_enter Try.func49, Try.ntmps49
    go_wp2_with fail
    go_ret
    exact HF.out
  | node r' l' k' v' u' =>
  obtain ⟨A, n, c, B, m, d, hb, ha, hA, hB⟩ := h.box
  obtain ⟨x, hx⟩ := hR1.nod
  obtain ⟨y, hy⟩ := hR2.nod
  have hk1 := hR1.kids ha.ok
  have hk2 := hR2.kids ha.ok
  rw [show (T.node r l k v u1).ref = r from rfl] at hU1 ⊢
  rw [show (T.node r' l' k' v' u').ref = r' from rfl] at hU2 ⊢
  have HN1 := Lib.hid (fun W (hW : Ext w W) => nodeOf_is A B n c m d ns r W hU1.1 hU1.2 (ha.nodes.to hW))
  have HN2 := Lib.hid (fun W (hW : Ext w W) => nodeOf_is A B n c m d ns r' W hU2.1 hU2.2 (ha.nodes.to hW))
  rw [hx.at_] at HN1
  rw [hy.at_] at HN2
  have HBX := Lib.hid hb
  have m1 : (r == 0) = false := by simp [hR1.ref_nz]
  have m2 : (r' == 0) = false := by simp [hR2.ref_nz]
  have HM := Lib.hid h
  have HX := Lib.hid hx
  have HY := Lib.hid hy
  have HK1 := Lib.hid hk1
  have HK2 := Lib.hid hk2
  have HR1 := Lib.hid hR1
  have HR2 := Lib.hid hR2
  have HS := Lib.hid hS
  have HH1 := Lib.hid hH1
  have HH2 := Lib.hid hH2
  have HZ := Lib.hid (show l.size + u1.size + 1 + (l'.size + u'.size + 1) ≤ 200 from hz)
  have HNN := Lib.hid (show l.size + u1.size + 1 + (l'.size + u'.size + 1) ≤ N + 1 from hN)
  have HU1 := Lib.hid hU1
  have HU2 := Lib.hid hU2
  have I := Lib.hid ih
  have HBf := Lib.hid (fun W => Before_is k k' W)
  clear hb ha hA hB h hx hy hU1 hU2 hR1 hR2 hk1 hk2 hS hH1 hH2 hz hN ih
  go_enter Try.func49, Try.ntmps49
  go_wp2_with fail
  have HSS := Lib.hid (fun W (hW : Ext w W) => show W.cell? ⟨b, 0, none⟩ = some (.slice A n c) ∧ W.cell? ⟨b, 1, none⟩ = some (.slice B m d) from ⟨(HBX.out.to hW).cell 0, (HBX.out.to hW).cell 1⟩)
  have hS0 : Ext w w.drew := (Ext.refl w).drew
  refine wp_region_held (S := fun W => Ext w W) (by kernel_rfl) ?_
  refine wpAnyH_take (i := 0) (v := .pointer (some ⟨b, 0, none⟩)) rfl (by kernel_rfl) (by kernel_rfl) (by kernel_rfl) (fun _ _ _ h => h) (Or.inl ⟨by rfl, by intro W hW; obtain ⟨q0, q1⟩ := HSS.out W hW; go_simp⟩) hS0 ?_
  try simp only [Act.put, List.getElem_toArray, List.getElem_cons_succ, List.getElem_cons_zero, List.setIfInBounds_toArray, List.set_cons_zero, List.set_cons_succ]
  refine wpAnyH_take (i := 1) (v := .pointer (some ⟨b, 0, none⟩)) rfl (by kernel_rfl) (by kernel_rfl) (by kernel_rfl) (fun _ _ _ h => h) (Or.inl ⟨by rfl, by intro W hW; obtain ⟨q0, q1⟩ := HSS.out W hW; go_simp⟩) hS0 ?_
  try simp only [Act.put, List.getElem_toArray, List.getElem_cons_succ, List.getElem_cons_zero, List.setIfInBounds_toArray, List.set_cons_zero, List.set_cons_succ]
  refine wpAnyH_take (i := 2) (v := .pointer (some ⟨b, 0, none⟩)) rfl (by kernel_rfl) (by kernel_rfl) (by kernel_rfl) (fun _ _ _ h => h) (Or.inl ⟨by rfl, by intro W hW; obtain ⟨q0, q1⟩ := HSS.out W hW; go_simp⟩) hS0 ?_
  try simp only [Act.put, List.getElem_toArray, List.getElem_cons_succ, List.getElem_cons_zero, List.setIfInBounds_toArray, List.set_cons_zero, List.set_cons_succ]
  refine wpAnyH_take (i := 3) (v := .agg #[.slice A n c, .slice B m d]) rfl (by kernel_rfl) (by kernel_rfl) (by kernel_rfl) (fun _ _ _ h => h) (Or.inl ⟨by rfl, by intro W hW; obtain ⟨q0, q1⟩ := HSS.out W hW; go_simp⟩) hS0 ?_
  try simp only [Act.put, List.getElem_toArray, List.getElem_cons_succ, List.getElem_cons_zero, List.setIfInBounds_toArray, List.set_cons_zero, List.set_cons_succ]
  refine wpAnyH_take (i := 4) (v := .int .u64 r) rfl (by kernel_rfl) (by kernel_rfl) (by kernel_rfl) (fun _ _ _ h => h) (Or.inl ⟨by rfl, by intro W hW; obtain ⟨q0, q1⟩ := HSS.out W hW; go_simp⟩) hS0 ?_
  try simp only [Act.put, List.getElem_toArray, List.getElem_cons_succ, List.getElem_cons_zero, List.setIfInBounds_toArray, List.set_cons_zero, List.set_cons_succ]
  refine wpAnyH_take (i := 6) (v := .pointer (some ⟨b, 0, none⟩)) rfl (by kernel_rfl) (by kernel_rfl) (by kernel_rfl) (fun _ _ _ h => h) (Or.inl ⟨by rfl, by intro W hW; obtain ⟨q0, q1⟩ := HSS.out W hW; go_simp⟩) hS0 ?_
  try simp only [Act.put, List.getElem_toArray, List.getElem_cons_succ, List.getElem_cons_zero, List.setIfInBounds_toArray, List.set_cons_zero, List.set_cons_succ]
  refine wpAnyH_take (i := 7) (v := .pointer (some ⟨b, 0, none⟩)) rfl (by kernel_rfl) (by kernel_rfl) (by kernel_rfl) (fun _ _ _ h => h) (Or.inl ⟨by rfl, by intro W hW; obtain ⟨q0, q1⟩ := HSS.out W hW; go_simp⟩) hS0 ?_
  try simp only [Act.put, List.getElem_toArray, List.getElem_cons_succ, List.getElem_cons_zero, List.setIfInBounds_toArray, List.set_cons_zero, List.set_cons_succ]
  refine wpAnyH_take (i := 8) (v := .pointer (some ⟨b, 0, none⟩)) rfl (by kernel_rfl) (by kernel_rfl) (by kernel_rfl) (fun _ _ _ h => h) (Or.inl ⟨by rfl, by intro W hW; obtain ⟨q0, q1⟩ := HSS.out W hW; go_simp⟩) hS0 ?_
  try simp only [Act.put, List.getElem_toArray, List.getElem_cons_succ, List.getElem_cons_zero, List.setIfInBounds_toArray, List.set_cons_zero, List.set_cons_succ]
  refine wpAnyH_take (i := 9) (v := .agg #[.slice A n c, .slice B m d]) rfl (by kernel_rfl) (by kernel_rfl) (by kernel_rfl) (fun _ _ _ h => h) (Or.inl ⟨by rfl, by intro W hW; obtain ⟨q0, q1⟩ := HSS.out W hW; go_simp⟩) hS0 ?_
  try simp only [Act.put, List.getElem_toArray, List.getElem_cons_succ, List.getElem_cons_zero, List.setIfInBounds_toArray, List.set_cons_zero, List.set_cons_succ]
  refine wpAnyH_take (i := 10) (v := .int .u64 r') rfl (by kernel_rfl) (by kernel_rfl) (by kernel_rfl) (fun _ _ _ h => h) (Or.inl ⟨by rfl, by intro W hW; obtain ⟨q0, q1⟩ := HSS.out W hW; go_simp⟩) hS0 ?_
  try simp only [Act.put, List.getElem_toArray, List.getElem_cons_succ, List.getElem_cons_zero, List.setIfInBounds_toArray, List.set_cons_zero, List.set_cons_succ]
  refine held_xy (w := w) 5 11 12 13 (.agg x.arr) (.agg y.arr) #[.int .i64 0, .int .i64 0, .int .i64 0, .int .i64 0, .int .i64 0, .int .u64 0, .int .u64 0, .int .u64 0, .int .u64 0, .int .u64 0, .int .u64 0, .int .u64 0, .int .u64 0, .int .u64 0, .int .i64 0, .int .i64 0] #[.int .i64 0, .int .i64 0, .int .i64 0, .int .i64 0, .int .i64 0, .int .u64 0, .int .u64 0, .int .u64 0, .int .u64 0, .int .u64 0, .int .u64 0, .int .u64 0, .int .u64 0, .int .u64 0, .int .i64 0, .int .i64 0] 76 76 2 (fun kA kB p q => #[true, true, true, true, true, kA, true, true, true, true, true, kB, p, q, false, false]) (fun vA vB v1 v2 => { tmps := #[.pointer (some ⟨b, 0, none⟩), .int .u64 r, .int .u64 r', undef, undef, undef, .int .u64 0, v1, v2, .bool false, .int .u64 r, .bool false, undef, .bool false, .int .u64 r', .bool false, undef, .pointer (some ⟨b, 0, none⟩), .pointer (some ⟨b, 0, none⟩), .pointer (some ⟨b, 0, none⟩), .agg #[.slice A n c, .slice B m d], .int .u64 r, vA, .pointer (some ⟨b, 0, none⟩), .pointer (some ⟨b, 0, none⟩), .pointer (some ⟨b, 0, none⟩), .agg #[.slice A n c, .slice B m d], .int .u64 r', vB, undef, undef, undef, undef, undef, undef, undef, undef, undef, undef, undef, undef, undef, undef, undef, undef, undef, undef, undef, undef, undef, undef, undef], defers := [] }) ?_ ?_ ?_ ?_ ?_ ?_ ?_ ?_ ?_ ?_ (by kernel_rfl) rfl hS0
  · intro kB p q; rfl
  · intro kA p q; rfl
  · intro kA kB q; rfl
  · intro kA kB p; rfl
  · intro kA kB p q hk hn
    cases kA <;> cases kB <;> cases p <;> cases q <;> first
      | exact absurd (hk rfl) (by decide)
      | exact absurd ⟨rfl, rfl, rfl, rfl⟩ hn
      | exact ⟨by decide +kernel, by decide +kernel⟩
  · intro v1 v2 W K hW hK
    refine wpOp_of_wp rfl (by rfl) ?_
    go_simp
    refine (HN1.out W hW).mono ?_
    rintro e W' ⟨rfl, hx'⟩
    exact hK W' hx'
  · intro v1 v2 W K hW hK
    refine wpOp_of_wp rfl (by rfl) ?_
    go_simp
    refine (HN2.out W hW).mono ?_
    rintro e W' ⟨rfl, hx'⟩
    exact hK W' hx'
  · intro uA uB v2 W K hK
    refine wpOp_of_wp rfl (by rfl) ?_
    go_simp
    exact hK
  · intro uA uB v1 W K hK
    refine wpOp_of_wp rfl (by rfl) ?_
    go_simp
    exact hK
  · intro W b7 b8 hW hne hg7 hg8 hB7 hB8
    refine held_one2 (i := 14) (by kernel_rfl) rfl (by rfl) ?_
    refine wp_store_nd (.tmp 7) (.tmp 22) (by rfl) b7 (by rfl) x (by rfl) _ hB7 (by rfl) ?_
    intro w2 B2 O2
    have hx2 := O2.new hW hg7
    have hB8' := O2.bx hB8 (Ne.symm hne)
    refine ⟨hx2, ?_⟩
    try simp only [Act.put, List.getElem_toArray, List.getElem_cons_succ, List.getElem_cons_zero, List.setIfInBounds_toArray, List.set_cons_zero, List.set_cons_succ]
    refine held_one2 (i := 15) (by kernel_rfl) rfl (by rfl) ?_
    refine wp_store_nd (.tmp 8) (.tmp 28) (by rfl) b8 (by rfl) y (by rfl) _ hB8' (by rfl) ?_
    intro w3 B3 O3
    have hx3 := O3.new hx2 hg8
    have hC7 := Lib.hid (O3.bx B2 hne)
    have hC8 := Lib.hid B3
    have X3 := Lib.hid hx3
    refine ⟨hx3, ?_⟩
    try simp only [Act.put, List.getElem_toArray, List.getElem_cons_succ, List.getElem_cons_zero, List.setIfInBounds_toArray, List.set_cons_zero, List.set_cons_succ]
    refine ⟨by kernel_rfl, ?_⟩
    have d2 : w3.cell? ⟨b7, 2, none⟩ = some (.int .i64 k) := by rw [← HX.out.n]; exact (hC7.out.cell 2).trans x.a2
    have e2 : w3.cell? ⟨b8, 2, none⟩ = some (.int .i64 k') := by rw [← HY.out.n]; exact (hC8.out.cell 2).trans y.a2
    clear B2 O2 B3 O3 hB7 hB8 hB8' hW hx2 hx3 m1 m2 hne hg7 hg8
    go_wp2_with fail
    by_cases hbf : Bef k k'
    · have hbt : bef k k' = true := by simp [bef, hbf]
      rw [hbt] at HBf
      have HBF := Lib.hid hbf
      refine (HBf.out _).mono ?_
      rintro e w4 ⟨rfl, hx4⟩
      have X4 := Lib.hid (X3.out.step hx4)
      have d6 : w4.cell? ⟨b7, 6, none⟩ = some (.int .u64 u1.ref) := by rw [← HX.out.r1]; exact ((hC7.out.to hx4).cell 6).trans x.a6
      have HI := Lib.hid (I.out u1 (.node r' l' k' v' u') ns fs err w4 (by have := HNN.out; simp only [T.size]; omega) (HM.out.to X4.out) HR1.out.2.2 HR2.out (by have := HS.out; rw [show (T.node r l k v u1).row = l.row ++ (k, v) :: u1.row from rfl, List.append_assoc, List.cons_append] at this; exact (Srt.mid.1 this).2.1) HH1.out.2.2.2 HH2.out (by have := HZ.out; simp only [T.size]; omega) HK1.out.2 HU2.out)
      rw [show (T.node r' l' k' v' u').ref = r' from rfl] at HI
      clear d2 e2 hx4 hbt hbf
      go_wp2_with fail
      refine HI.out.mono ?_
      rintro e w5 ⟨ns5, fs5, err5, z5, rfl, hM5, hO5, hG5, hr5, hu5, hg5, he5⟩
      have HW := Lib.hid (with1_is b ns5 fs5 err5 r l k v u1 z5 w5 hM5 (hG5.rep HR1.out) HU1.out (by have := HZ.out; omega) hr5 hu5)
      have HG5 := Lib.hid hG5
      have HO5 := Lib.hid hO5
      have Hg5 := Lib.hid hg5
      have He5 := Lib.hid he5
      clear hM5 hO5 hG5 hr5 hu5 hg5 he5 d6
      go_wp2_with fail
      refine HW.out.mono ?_
      rintro e w6 ⟨ns6, fs6, err6, z6, rfl, hM6, hO6, hG6, hr6, hu6, hg6, he6⟩
      have HF := Lib.hid (show MOut b ns fs err ((T.node r l k v u1).size + (T.node r' l' k' v' u').size) (GoodJ ((T.node r l k v u1).row ++ (T.node r' l' k' v' u').row)) w (.returned (.int .u64 z6)) w6 from by
        refine ⟨ns6, fs6, err6, _, rfl, hM6, (((Only.refl b w).ext X4.out).trans HO5.out).trans hO6, (HG5.out.trans hG6).more (by simp only [T.size]; omega), hr6, hu6, fun h => ?_, fun h => ?_⟩
        · obtain ⟨h1, h2⟩ := hg6 h
          obtain ⟨h3, h4⟩ := Hg5.out h1
          refine ⟨h3, goodJ_left HS.out HH1.out (fun x hx => ?_) (by have := HZ.out; simp only [T.size]; omega) h4 h2⟩
          rcases List.mem_append.1 (show x ∈ l'.row ++ (k', v') :: u'.row from hx) with hx | hx
          · exact HBF.out.trans (HH2.out.1 x hx)
          · rcases List.mem_cons.1 hx with rfl | hx
            · exact HBF.out
            · exact HBF.out.trans (HH2.out.2.1 x hx)
        · rcases he6 h with h1 | h1
          · rcases He5.out h1 with h2 | h2
            · exact .inl h2
            · exact .inr (by simp only [T.size] at h2 ⊢; omega)
          · have := HG5.out.few
            exact .inr (by simp only [T.size] at this ⊢; omega))
      clear hM6 hO6 hG6 hr6 hu6 hg6 he6
      go_wp2_with fail
      go_ret
      exact HF.out
    · have hbt : bef k k' = false := by simp [bef, hbf]
      rw [hbt] at HBf
      have hkk : k < k' := (Srt.app.1 HS.out).2.2 (k, v) (by simp [T.row]) (k', v') (by simp [T.row])
      have HBF := Lib.hid ((Bef.total (show k ≠ k' by omega)).resolve_left hbf)
      refine (HBf.out _).mono ?_
      rintro e w4 ⟨rfl, hx4⟩
      have X4 := Lib.hid (X3.out.step hx4)
      have e5 : w4.cell? ⟨b8, 5, none⟩ = some (.int .u64 l'.ref) := by rw [← HY.out.r0]; exact ((hC8.out.to hx4).cell 5).trans y.a5
      have HI := Lib.hid (I.out (.node r l k v u1) l' ns fs err w4 (by have := HNN.out; simp only [T.size]; omega) (HM.out.to X4.out) HR1.out HR2.out.2.1 (by have := HS.out; rw [show (T.node r' l' k' v' u').row = l'.row ++ (k', v') :: u'.row from rfl, ← List.append_assoc] at this; exact (Srt.mid.1 this).1) HH1.out HH2.out.2.2.1 (by have := HZ.out; simp only [T.size]; omega) HU1.out HK2.out.1)
      rw [show (T.node r l k v u1).ref = r from rfl] at HI
      clear d2 e2 hx4 hbt hbf
      go_wp2_with fail
      refine HI.out.mono ?_
      rintro e w5 ⟨ns5, fs5, err5, z5, rfl, hM5, hO5, hG5, hr5, hu5, hg5, he5⟩
      have HW := Lib.hid (with0_is b ns5 fs5 err5 r' l' k' v' u' z5 w5 hM5 (hG5.rep HR2.out) HU2.out (by have := HZ.out; omega) hr5 hu5)
      have HG5 := Lib.hid hG5
      have HO5 := Lib.hid hO5
      have Hg5 := Lib.hid hg5
      have He5 := Lib.hid he5
      clear hM5 hO5 hG5 hr5 hu5 hg5 he5 e5
      go_wp2_with fail
      refine HW.out.mono ?_
      rintro e w6 ⟨ns6, fs6, err6, z6, rfl, hM6, hO6, hG6, hr6, hu6, hg6, he6⟩
      have HF := Lib.hid (show MOut b ns fs err ((T.node r l k v u1).size + (T.node r' l' k' v' u').size) (GoodJ ((T.node r l k v u1).row ++ (T.node r' l' k' v' u').row)) w (.returned (.int .u64 z6)) w6 from by
        refine ⟨ns6, fs6, err6, _, rfl, hM6, (((Only.refl b w).ext X4.out).trans HO5.out).trans hO6, (HG5.out.trans hG6).more (by simp only [T.size]; omega), hr6, hu6, fun h => ?_, fun h => ?_⟩
        · obtain ⟨h1, h2⟩ := hg6 h
          obtain ⟨h3, h4⟩ := Hg5.out h1
          refine ⟨h3, goodJ_right HH2.out (fun x hx => ?_) (by have := HZ.out; simp only [T.size]; omega) h4 h2⟩
          rcases List.mem_append.1 (show x ∈ l.row ++ (k, v) :: u1.row from hx) with hx | hx
          · exact HBF.out.trans (HH1.out.1 x hx)
          · rcases List.mem_cons.1 hx with rfl | hx
            · exact HBF.out
            · exact HBF.out.trans (HH1.out.2.1 x hx)
        · rcases he6 h with h1 | h1
          · rcases He5.out h1 with h2 | h2
            · exact .inl h2
            · exact .inr (by simp only [T.size] at h2 ⊢; omega)
          · have := HG5.out.few
            exact .inr (by simp only [T.size] at this ⊢; omega))
      clear hM6 hO6 hG6 hr6 hu6 hg6 he6
      go_wp2_with fail
      go_ret
      exact HF.out
end Go.Proofs.Ytjiehlhnocgneaa
