/-
  Contract: what is collected of an iterator over items (AppendSeq, Collect).
-/
import Derived.Test.YthgaogbpkedjcaaSpSeq
set_option linter.unusedVariables false
set_option linter.unusedSimpArgs false
namespace Go.Proofs.Ythgaogbpkedjcaa
open Go.RowKit

attribute [local go_sem] Oper.semAt_some

theorem cells_two_new (w : World) (u v : Value) (t : TypeId) : ∀ j x, [u, v][j]? = some x → (w.alloc (.cells #[u, v] t)).cell? (Addr.add ⟨w.heap.size, 0, none⟩ j) = some x := fun j x h => by
  have := (Rd.lit (size := 2) w #[u, v] t 1 rfl).2 j x h
  obtain ⟨ad, e, h⟩ := this
  injection e with e
  subst e
  exact h
theorem itc_fl1 (x : Int × Int) : flat itc [x] = itc x := by simp [flat]
theorem itc_snoc (l : Row) (x : Int × Int) : flat itc (l ++ [x]) = flat itc l ++ itc x := by simp [flat]
theorem flat_two (l : Row) : (flat itc l).length = l.length * 2 := by rw [flat_length itc_length]

/-- What a box and the row that it holds are, when a row has come. -/
def Got1 (n0 B : Nat) (pre : Row) (W : World) : Prop := ∃ v, Boxed W B 31 v ∧ W.ownsRow n0 40 2 v pre.length (flat itc pre) ∧ (v = .slice none 0 0 ↔ pre = [])
theorem got1_own (n0 B : Nat) : Own (Got1 n0 B) := holdsRow_own n0 B 31 40 2 (fun pre : Row => pre.length) (fun pre : Row => flat itc pre) (fun (pre : Row) v => v = .slice none 0 0 ↔ pre = [])
/-- Behind an append and the store of what it answers. -/
theorem got1_appended {W w1 : World} {n0 B : Nat} {v v' : Value} {pre : Row} {x : Int × Int} {tmp : Obj} {S : Nat → Prop} (hv : Boxed W B 31 v) (hrow : W.ownsRow n0 40 2 v pre.length (flat itc pre)) (hB : S B)
    (hown' : w1.ownsRow n0 40 2 v' (pre.length + 1) (flat itc pre ++ itc x)) (hgrow : (W.alloc tmp).grownBy w1 v.ownBlock) :
    Boxed w1 B 31 v ∧ Got1 n0 B (pre ++ [x]) (w1.setCell ⟨B, 0, none⟩ v') ∧ Kx (Xc S n0) W (w1.setCell ⟨B, 0, none⟩ v') := by
  have hv1 : Boxed w1 B 31 v := (hv.alloc tmp).kept hgrow (hv.not_row (by decide) hrow)
  refine ⟨hv1, ⟨v', hv1.set v', ?_, ?_⟩, ?_⟩
  · rw [List.length_append, List.length_singleton, itc_snoc]
    exact hown'.kept (grownBy_setCell' w1 B v') (.inr (hv1.not_row (by decide) hown').symm)
  · obtain ⟨g, c, rfl⟩ := ownsRow_succ hown'
    simp
  · refine (Kx.of_ext ((Ext.refl W).new tmp)).trans ((Kx.of_grown hgrow fun b o e h => ?_).trans (Kx.of_grown (grownBy_setCell' w1 B v') fun b o e h => by cases e; exact .inl hB))
    rcases hrow.2 with ⟨rfl, _⟩ | ⟨g, cap, cur, rfl, hg, hgb, _⟩
    · cases e
    · obtain rfl : g = b := by simpa [Value.ownBlock] using e
      rw [Below.heap_alloc W tmp g (Array.getElem?_eq_some_iff.1 hgb).1, hgb] at h
      cases h
      exact .inr ⟨hg, _, _, rfl⟩

theorem RdR.own {W : World} {n0 : Nat} {v : Value} {l : Row} (h : W.ownsRow n0 40 2 v l.length (flat itc l)) : RdR W v l := by
  have h0 := h
  rcases h.2 with ⟨rfl, hk⟩ | ⟨g, cap, cur, rfl, hg, hgb, h1, h2, _⟩
  · obtain rfl : l = [] := List.eq_nil_of_length_eq_zero hk
    exact RdR.nil0 W
  · exact ⟨_, _, rfl, Rd.own h0, h1, h2⟩
theorem ext_kx {S : Nat → Prop} {w W0 W : World} (hx : Ext w W0) (hK : Kx (Xo S W0.heap.size) W0 W) (hS : ∀ b, S b → w.heap.size ≤ b) : Ext w W :=
  ⟨hK.os.trans hx.os, hK.tape.trans hx.tape, hK.output.trans hx.output, Nat.le_trans hx.size hK.size, fun k hk => by
    have e1 := hx.block k hk
    have e2 : w.heap[k]? = some w.heap[k] := Array.getElem?_eq_getElem hk
    rw [e2] at e1 ⊢
    exact hK.block k _ e1 (fun e => by
      rcases e with e | ⟨e, _⟩
      · have := hS k e; omega
      · have := hx.size; omega)⟩

set_option maxHeartbeats 6400000 in
set_option maxRecDepth 100000 in
theorem appendSeq_is (g : Nat) (lb : Array Value) (eg : ∀ args w, (callFunc g args).run Try.prog w = .ok (.enter g args) w) (w : World) (nn : Nat) {S Sp : Row → Prop} (N : Nat) (hN : N ≤ 1000)
    (hseq : SeqStopsK Fence.wide 4 Try.prog g lb (fun x : Int × Int => #[itv x]) (Kx (Xo (fun b => b = w.heap.size) (w.alloc (.cells #[.slice none 0 0] 31)).heap.size)) S Sp N (w.alloc (.cells #[.slice none 0 0] 31))) :
    Calls Try.prog 45 #[.slice none 0 0, .func (.func g) #[] lb] w fun e w' => ∃ v ss, e = .returned v ∧ S ss ∧ RdR w' v ss ∧ Ext w w' := by
  obtain ⟨i0, hi, hz0, hz1, hz2⟩ := info_parts item_info
  refine (callsIn_wide (n := 5)).1 ?_
  refine callsIn_of_wp_marks Try.func45 rfl trivial ?_ rfl
  simp only [Try.ntmps45, List.size_toArray, List.length_cons, List.length_nil, Nat.reduceAdd, Nat.reduceSub, Array.replicate_succ, Array.replicate_zero, List.push_toArray, List.append_toArray, List.nil_append, List.cons_append]
  obtain ⟨W0, hW0⟩ : ∃ W0, W0 = w.alloc (.cells #[.slice none 0 0] 31) := ⟨_, rfl⟩
  have bO : Boxed W0 w.heap.size 31 (.slice none 0 0) := by rw [hW0]; exact Boxed.new w _ _
  have hsz : W0.heap.size = w.heap.size + 1 := by rw [hW0]; simp
  have hx0 : Ext w W0 := by rw [hW0]; exact (Ext.refl w).new _
  rw [← hW0] at hseq
  have H0 := Lib.hid hW0
  clear hW0
  gi_wp2
  rw [← H0.out]
  refine wpIn_rangeFunc_ownH rfl (by omega) (gf := g) (lb := lb) rfl trivial eg hseq (fun h k => h.trans k) (fun W l o o' hl h hc _ => kx_put W l o o' (by omega) h hc) (Below.refl _ _) (fun _ => rfl)
    (fun pre W => Got1 W0.heap.size w.heap.size pre W ∧ Kx (Xo (fun b => b = w.heap.size) W0.heap.size) W0 W) (fun _ _ _ => False)
    (OwnFrom.and (Own.from (got1_own _ _) _) (kx_own (Nat.le_refl _) _)) (fun _ _ _ _ _ hs _ _ => hs)
    ⟨⟨_, bO, World.ownsRow_nil _ _ _ _, by simp⟩, Kx.refl _ _⟩
    (fun x a' W => ∃ Bx, Lk 40 W Bx #[.int .i64 x.1, .int .i64 x.2] ∧ a' = { tmps := #[.slice none 0 0, .func (.func g) #[] lb, .pointer (some ⟨w.heap.size, 0, none⟩), undef, .slice none 0 0, .pointer (some ⟨Bx, 0, none⟩), .func (.func g) #[] lb, itv x, undef, undef, undef, undef, undef], defers := [] })
    (fun x a' _ X Y row hs hg hr => by
      obtain ⟨Bx, h2, h3⟩ := hs
      refine ⟨Bx, (hg.block Bx h2.lt fun e => ?_).trans h2, h3⟩
      obtain ⟨_, o, ho, hc⟩ := hr Bx e.symm
      rw [show X.heap[Bx]? = _ from h2] at ho
      cases ho
      cases hc)
    ?assign ?body ?done ?stop
  case assign =>
    rintro l pre x W K ⟨hG, hK⟩ hk
    gi_wp2
    exact hk _ _ ((KeepsOthers.alloc _ _).from _) (Kx.of_ext ((Ext.refl W).new _)) ⟨(Own.from (got1_own _ _) 0).alloc _ hG, hK.trans (Kx.of_ext ((Ext.refl W).new _))⟩ ⟨W.heap.size, Lk.new _ _ _, rfl⟩
  case body =>
    rintro l pre x a' W hl ⟨r, hr⟩ ⟨⟨v, hv, hrow, hnil⟩, hK⟩ ⟨Bx, hBx, rfl⟩ hlt
    have hc := hv.cell
    have c0 : W.cell? ⟨Bx, 0, none⟩ = some (.int .i64 x.1) := hBx.cell 0
    have c1 : W.cell? ⟨Bx, 1, none⟩ = some (.int .i64 x.2) := hBx.cell 1
    have hml : pre.length + 1 ≤ maxLen := by unfold maxLen; omega
    have HB := Lib.hid (show (pre.length + 1) * 16 ≤ 140737488355328 by omega)
    have HZ := Lib.hid (show W0.heap.size ≤ W.heap.size + 1 by have := hK.size; omega)
    have HS := Lib.hid hsz
    have HRow := Lib.hid hrow
    have HK := Lib.hid hK
    have HV := Lib.hid hv
    clear hrow hv hlt hnil hBx hr hx0 hsz hseq bO hN hK
    have hsW := HK.out.size
    gi_wp2_with (gi_at_builtin; refine wpListIn_append_own _ rfl _ _ 31 rfl W0.heap.size 40 i0 (.agg #[.int .i64 0, .int .i64 0]) 2 16 Try.underlying31 hi hz0 hz1 hz2 rfl (by decide) v pre.length (flat itc pre) rfl (HRow.out.alloc _) ⟨W.heap.size, 0, none⟩ 1 1 (itc x) rfl rfl (cells_two_new _ _ _ _) (itc_one x) hml HB.out (by simpa using HZ.out) ?_; intro v' w1 hown' hgrow _; obtain ⟨g', cap', rfl⟩ := ownsRow_succ hown'; obtain ⟨hv1, hg2, hk2⟩ := got1_appended (S := fun b => b = w.heap.size) HV.out HRow.out rfl hown' hgrow; have hc1 := hv1.cell; have hf1 := hv1.frozen)
    exact ⟨hk2.from (fun b e => by have := HS.out; omega), hk2.mono (fun b o e => e.xo), hg2, HK.out.trans (hk2.mono (fun b o e => e.xo))⟩
  case done =>
    rintro D ss W hD hS ⟨⟨v, hv, hrow, hnil⟩, hK⟩ hDe
    have hc := hv.cell
    have HX := Lib.hid (ext_kx hx0 hK (fun b e => by omega))
    have HR := Lib.hid (RdR.own (ownsRow_putObj hrow (.deferred none) hDe rfl))
    have HDD := Lib.hid (show w.heap.size ≤ W0.heap.size from hx0.size)
    clear hK hx0 hsz bO hseq hnil hrow hv
    gi_wp2
    refine ⟨by simp, .inl ⟨_, _, rfl, run_takeDeferred hDe, ?_⟩⟩
    exact ⟨_, results_tmp rfl _ _ _, v, ss, rfl, hS, HR.out, Below.trans HX.out (belowK_b (w := W0) HDD.out W D _ _ hD hDe rfl rfl)⟩
  case stop =>
    rintro D c pre W _ _ h _
    exact h.elim

/-- slices.Collect. -/
theorem collect_is (g : Nat) (lb : Array Value) (eg : ∀ args w, (callFunc g args).run Try.prog w = .ok (.enter g args) w) (w : World) {S Sp : Row → Prop} (N : Nat) (hN : N ≤ 1000)
    (hseq : SeqStopsK Fence.wide 4 Try.prog g lb (fun x : Int × Int => #[itv x]) (Kx (Xo (fun b => b = w.heap.size) (w.alloc (.cells #[.slice none 0 0] 31)).heap.size)) S Sp N (w.alloc (.cells #[.slice none 0 0] 31))) :
    Calls Try.prog 24 #[.func (.func g) #[] lb] w fun e w' => ∃ v ss, e = .returned v ∧ S ss ∧ RdR w' v ss ∧ Ext w w' := by
  have HC := Lib.hid (appendSeq_is g lb eg w 0 N hN hseq)
  clear hseq eg
  go_enter Try.func24, Try.ntmps24
  go_wp2_with fail
  refine HC.out.mono ?_
  rintro e w1 ⟨v, ss, rfl, h1, h2, h3⟩
  have HD := Lib.hid (show S ss ∧ RdR w1 v ss ∧ Ext w w1 from ⟨h1, h2, h3⟩)
  clear h1 h2 h3
  go_wp2_with fail
  go_ret
  exact ⟨v, ss, rfl, HD.out⟩

end Go.Proofs.Ythgaogbpkedjcaa
