/-
  Contract: what a function answers to a key (answerOf), which defers a recover.
-/
import Derived.Test.YthgaogbpkedjcaaSpColl
import Derived.Recover
set_option linter.unusedVariables false
set_option linter.unusedSimpArgs false
namespace Go.Proofs.Ythgaogbpkedjcaa
open Go.RowKit

/-- The deferred closure, where nothing panicked. -/
theorem recover_idle (w : World) : CallsD Try.prog 48 #[] .returning w fun e u' w' => e = .returned (.tuple #[]) ∧ u' = .returning ∧ w' = w := by
  refine callsD_of_wpS Try.func48 rfl fun c₀ cs hu => ?_
  apply wpS_region
  simp [wpOpsS, go_sem, recoverD, hu, Try.ntmps48, Exit.thenS]
  cases c₀
  simp_all [bodyPostS, results, Try.f48]

set_option maxHeartbeats 1000000 in
theorem answerOf_is (F : Nat) (caps : Array Value) (x : Int × Int) (b : Bool) (R : World → Prop) (W : World) (hcf : ∀ (args : Array Value) (w : World), (callFunc F args).run Try.prog w = .ok (.enter F args) w)
    (h : Calls Try.prog F (#[itv x] ++ caps) (W.alloc (.cells #[.int .i64 x.1, .int .i64 x.2] 40)) fun e W' => e = .returned (.bool b) ∧ R W') :
    Calls Try.prog 27 #[.func (.func F) #[] caps, itv x] W fun e W' => e = .returned (.bool b) ∧ R W' := by
  have H := Lib.hid h
  clear h
  go_enter_defers Try.func27, Try.ntmps27
  go_wp2_with fail
  refine H.out.mono ?_
  rintro e W' ⟨rfl, hR⟩
  have HR := Lib.hid hR
  clear hR H
  go_wp2_with fail
  refine leaves_cons (f := 48) (args := #[]) (by simp) (by simp [go_sem]) ?_
  refine (recover_idle _).mono ?_
  rintro e u' w'' ⟨rfl, rfl, rfl⟩
  exact ⟨_, results_tmp rfl _ _ _, rfl, HR.out⟩

theorem len_lt (k : Nat) (z : Int) : ((k + 1 : Nat) : Int) < z ↔ (k : Int) + 1 < z := by rw [Int.natCast_add]; rfl

theorem cells_two_new1 (w : World) (o : Obj) (u v : Value) (t : TypeId) : ∀ j x, [u, v][j]? = some x → ((w.alloc o).alloc (.cells #[u, v] t)).cell? (Addr.add ⟨w.heap.size + 1, 0, none⟩ j) = some x := fun j x h => by
  have := cells_two_new (w.alloc o) u v t j x h
  rwa [World.size_alloc] at this

set_option maxHeartbeats 2000000 in
set_option maxRecDepth 100000 in
/-- A key is put behind those that came; are they too few? -/
theorem take12_is (G E n0 : Nat) (enough : Int) (pre : Row) (x : Int × Int) (W : World) (hG : Got1 n0 G pre W) (hE : Lk 3 W E #[.int .i64 enough]) (hne : G ≠ E) (hn0 : n0 ≤ W.heap.size) (hlen : pre.length ≤ 999) :
    Calls Try.prog 12 #[itv x, .pointer (some ⟨G, 0, none⟩), .pointer (some ⟨E, 0, none⟩)] W fun e W' => e = .returned (.bool (decide ((pre.length : Int) + 1 < enough))) ∧ Got1 n0 G (pre ++ [x]) W' ∧ Kx (Xc (fun b => b = G) n0) W W' := by
  obtain ⟨i0, hi, hz0, hz1, hz2⟩ := info_parts item_info
  obtain ⟨w1, hw1⟩ : ∃ w1, w1 = W.alloc (.cells #[.int .i64 x.1, .int .i64 x.2] 40) := ⟨_, rfl⟩
  obtain ⟨B1, hx1, hs1⟩ := box_made hw1
  obtain ⟨v, hv, hrow, hnil⟩ := hG
  have hv1 : Boxed w1 G 31 v := by rw [hw1]; exact hv.alloc _
  have hrow1 : w1.ownsRow n0 40 2 v pre.length (flat itc pre) := by rw [hw1]; exact hrow.alloc _
  have hE1 := hE.to hx1
  have hml : pre.length + 1 ≤ maxLen := by unfold maxLen; omega
  have HB := Lib.hid (show (pre.length + 1) * 16 ≤ 140737488355328 by omega)
  have HZ := Lib.hid (show n0 ≤ w1.heap.size + 1 by omega)
  have HV := Lib.hid hv1
  have HRow := Lib.hid hrow1
  have HE1 := Lib.hid hE1
  have HN := Lib.hid hne
  have c0 : w1.cell? ⟨G, 0, none⟩ = some v := hv1.cell
  have c1 : w1.cell? ⟨W.heap.size, 0, none⟩ = some (.int .i64 x.1) := B1.cell 0
  have c2 : w1.cell? ⟨W.heap.size, 1, none⟩ = some (.int .i64 x.2) := B1.cell 1
  have HX1 := Lib.hid hx1
  have HEk := Lib.hid (fun W' (h : Kx (Xc (fun b => b = G) n0) w1 W') => (show Lk 3 W' E #[.int .i64 enough] from h.block E _ hE1 (fun e => by
    rcases e with e | ⟨_, cs, p, e⟩
    · exact hne e.symm
    · injection e with _ e2; exact absurd e2 (by decide))).cell 0)
  subst hw1
  clear hv hrow hnil hv1 hrow1 hE1 hE hne hn0 hlen B1 hx1 hs1
  refine (callsIn_wide (n := 2)).1 ?_
  refine callsIn_of_wp Try.func12 rfl trivial ?_ rfl
  simp only [Try.ntmps12, List.size_toArray, List.length_cons, List.length_nil, Nat.reduceAdd, Nat.reduceSub, Array.replicate_succ, Array.replicate_zero, List.push_toArray, List.append_toArray, List.nil_append, List.cons_append]
  gi_wp2_with (gi_at_builtin; refine wpListIn_append_own _ rfl _ _ 31 rfl n0 40 i0 (.agg #[.int .i64 0, .int .i64 0]) 2 16 Try.underlying31 hi hz0 hz1 hz2 rfl (by decide) v pre.length (flat itc pre) rfl (HRow.out.alloc _) ⟨W.heap.size + 1, 0, none⟩ 1 1 (itc x) rfl rfl (cells_two_new1 _ _ _ _ _) (itc_one x) hml HB.out (by simpa using HZ.out) ?_; intro v' w2 hown' hgrow _; obtain ⟨g', cap', rfl⟩ := ownsRow_succ hown'; obtain ⟨hv2, hg2, hk2⟩ := got1_appended (S := fun b => b = G) HV.out HRow.out rfl hown' hgrow; have hE2 := HEk.out _ hk2; have hc1 := hv2.cell; have hf1 := hv2.frozen; have HG2 := Lib.hid hg2; have HK2 := Lib.hid hk2; clear hg2 hk2 hv2 hown' hgrow)
  go_ret
  exact ⟨rfl, HG2.out, (Kx.of_ext HX1.out).trans HK2.out⟩

set_option maxHeartbeats 2000000 in
set_option maxRecDepth 100000 in
/-- A key is put behind those that came; are they too few? -/
theorem take22_is (G E n0 : Nat) (enough : Int) (pre : Row) (x : Int × Int) (W : World) (hG : Got1 n0 G pre W) (hE : Lk 3 W E #[.int .i64 enough]) (hne : G ≠ E) (hn0 : n0 ≤ W.heap.size) (hlen : pre.length ≤ 999) :
    Calls Try.prog 22 #[itv x, .pointer (some ⟨G, 0, none⟩), .pointer (some ⟨E, 0, none⟩)] W fun e W' => e = .returned (.bool (decide ((pre.length : Int) + 1 < enough))) ∧ Got1 n0 G (pre ++ [x]) W' ∧ Kx (Xc (fun b => b = G) n0) W W' := by
  obtain ⟨i0, hi, hz0, hz1, hz2⟩ := info_parts item_info
  obtain ⟨w1, hw1⟩ : ∃ w1, w1 = W.alloc (.cells #[.int .i64 x.1, .int .i64 x.2] 40) := ⟨_, rfl⟩
  obtain ⟨B1, hx1, hs1⟩ := box_made hw1
  obtain ⟨v, hv, hrow, hnil⟩ := hG
  have hv1 : Boxed w1 G 31 v := by rw [hw1]; exact hv.alloc _
  have hrow1 : w1.ownsRow n0 40 2 v pre.length (flat itc pre) := by rw [hw1]; exact hrow.alloc _
  have hE1 := hE.to hx1
  have hml : pre.length + 1 ≤ maxLen := by unfold maxLen; omega
  have HB := Lib.hid (show (pre.length + 1) * 16 ≤ 140737488355328 by omega)
  have HZ := Lib.hid (show n0 ≤ w1.heap.size + 1 by omega)
  have HV := Lib.hid hv1
  have HRow := Lib.hid hrow1
  have HE1 := Lib.hid hE1
  have HN := Lib.hid hne
  have c0 : w1.cell? ⟨G, 0, none⟩ = some v := hv1.cell
  have c1 : w1.cell? ⟨W.heap.size, 0, none⟩ = some (.int .i64 x.1) := B1.cell 0
  have c2 : w1.cell? ⟨W.heap.size, 1, none⟩ = some (.int .i64 x.2) := B1.cell 1
  have HX1 := Lib.hid hx1
  have HEk := Lib.hid (fun W' (h : Kx (Xc (fun b => b = G) n0) w1 W') => (show Lk 3 W' E #[.int .i64 enough] from h.block E _ hE1 (fun e => by
    rcases e with e | ⟨_, cs, p, e⟩
    · exact hne e.symm
    · injection e with _ e2; exact absurd e2 (by decide))).cell 0)
  subst hw1
  clear hv hrow hnil hv1 hrow1 hE1 hE hne hn0 hlen B1 hx1 hs1
  refine (callsIn_wide (n := 2)).1 ?_
  refine callsIn_of_wp Try.func22 rfl trivial ?_ rfl
  simp only [Try.ntmps22, List.size_toArray, List.length_cons, List.length_nil, Nat.reduceAdd, Nat.reduceSub, Array.replicate_succ, Array.replicate_zero, List.push_toArray, List.append_toArray, List.nil_append, List.cons_append]
  gi_wp2_with (gi_at_builtin; refine wpListIn_append_own _ rfl _ _ 31 rfl n0 40 i0 (.agg #[.int .i64 0, .int .i64 0]) 2 16 Try.underlying31 hi hz0 hz1 hz2 rfl (by decide) v pre.length (flat itc pre) rfl (HRow.out.alloc _) ⟨W.heap.size + 1, 0, none⟩ 1 1 (itc x) rfl rfl (cells_two_new1 _ _ _ _ _) (itc_one x) hml HB.out (by simpa using HZ.out) ?_; intro v' w2 hown' hgrow _; obtain ⟨g', cap', rfl⟩ := ownsRow_succ hown'; obtain ⟨hv2, hg2, hk2⟩ := got1_appended (S := fun b => b = G) HV.out HRow.out rfl hown' hgrow; have hE2 := HEk.out _ hk2; have hc1 := hv2.cell; have hf1 := hv2.frozen; have HG2 := Lib.hid hg2; have HK2 := Lib.hid hk2; clear hg2 hk2 hv2 hown' hgrow)
  go_ret
  exact ⟨rfl, HG2.out, (Kx.of_ext HX1.out).trans HK2.out⟩

end Go.Proofs.Ythgaogbpkedjcaa
