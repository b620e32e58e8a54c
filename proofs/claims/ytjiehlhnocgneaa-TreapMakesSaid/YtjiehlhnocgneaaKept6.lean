/-
  Contract: the nodes that are not free are as they were (kept, of the statements of layer 6).
-/
import Derived.Test.YtjiehlhnocgneaaArV
set_option linter.unusedVariables false
set_option linter.unusedSimpArgs false
namespace Go.Proofs.Ytjiehlhnocgneaa
open Go.RowKit

/-- THE OPERATION, in a region that is walked in whatever later world: a whole node is read. -/
theorem wpQuiet_load_nd6 {ops : Array Oper} {rest : List Oper} {o : Oper} {a : Act} {w0 : World} {Q : Act → Prop} (hgd : Region.wanted o (yielded ops a.tmps) = true) (x : Operand) (ho : o.op = .load 76 x)
    (A : Addr) (hx : a.eval x = .pointer (some A)) (n : Nd) (hn : NdAt w0 A n)
    (h : wpQuiet Try.prog ops (fun w' => ∃ q : Later w0, w' = q.w) Q rest (a.put o.dst (.agg n.arr))) : wpQuiet Try.prog ops (fun w' => ∃ q : Later w0, w' = q.w) Q (o :: rest) a :=
  BigFrame.wpQuiet_want hgd fun K hK => ⟨.agg n.arr, fun w hw => by
    obtain ⟨q, rfl⟩ := hw
    unfold Oper.quietAt execOp
    simp only [ho, hx, Sem.run_bind, (hn.to q.ext).load, Sem.run_pure, Result.andThen_ok]
    exact ⟨rfl, rfl⟩, hK _ h⟩

set_option maxHeartbeats 3200000 in
theorem kept_is (A B A' B' : Option Addr) (n m c d n' m' c' d' : Nat) (ns ns' : List Nd) (fs fs' : List Int) (w : World) (h : Ar w A n B m ns fs) (h' : Av w A' n' B' m' ns' fs') (hl : ns'.length = ns.length) (hs : ∀ (i : Nat) (x : Nd), ns[i]? = some x → x.k ≠ 0 → ns'[i]? = some x) :
    Calls Try.prog 22 #[.agg #[.slice A n c, .slice B m d], .agg #[.slice A' n' c', .slice B' m' d']] w fun e w' => e = .returned (.bool true) ∧ Ext w w' := by
  have HL := Lib.hid h.len
  have HL' := Lib.hid h'.ar.len
  have HSt := Lib.hid hs
  have HRt := Lib.hid (fun W (hW : Ext w W) => arRight_is A' B' n' m' c' d' ns' fs' W (h'.to hW).ar h'.n1 h'.m1 true ⟨fun _ => h'.may, fun _ => rfl⟩)
  obtain ⟨w1, hw1⟩ : ∃ w1, w1 = w.alloc (.cells #[.slice A n c, .slice B m d] 25) := ⟨_, rfl⟩
  obtain ⟨w2, hw2⟩ : ∃ w2, w2 = w1.alloc (.cells #[.slice A' n' c', .slice B' m' d'] 25) := ⟨_, rfl⟩
  obtain ⟨B1, hx1, hs1⟩ := box_made hw1
  obtain ⟨B2, hx2, hs2⟩ := box_made hw2
  rw [hs1] at B2
  have X2 := Lib.hid (hx1.step hx2)
  have HA := Lib.hid (h.to X2.out)
  have HA' := Lib.hid (h'.ar.to X2.out)
  have HB1 := Lib.hid (B1.to hx2)
  have HB2 := Lib.hid B2
  have H1 := Lib.hid hw1
  have H2 := Lib.hid hw2
  obtain rfl : n' = n := by have := HL.out; have := HL'.out; omega
  have hn2 := h'.n1
  clear B1 B2 hx1 hx2 hs1 hs2 hw1 hw2 h h' hs hl
  have k0 : w2.cell? ⟨w.heap.size, 0, none⟩ = some (.slice A n' c) := HB1.out.cell 0
  have k1 : w2.cell? ⟨w.heap.size, 1, none⟩ = some (.slice B m d) := HB1.out.cell 1
  have k2 : w2.cell? ⟨w.heap.size + 1, 0, none⟩ = some (.slice A' n' c') := HB2.out.cell 0
  have k3 : w2.cell? ⟨w.heap.size + 1, 1, none⟩ = some (.slice B' m' d') := HB2.out.cell 1
  go_enter Try.func22, Try.ntmps22
  go_wp2_with fail
  rw [← H1.out, ← H2.out]
  go_wp2_with fail
  refine (HRt.out _ X2.out).mono ?_
  rintro e w3 ⟨rfl, hx3⟩
  have X3 := Lib.hid hx3
  clear k0 k1 k2 k3 hx3
  have k0 : w3.cell? ⟨w.heap.size, 0, none⟩ = some (.slice A n' c) := (HB1.out.to X3.out).cell 0
  go_wp2_with fail
  go_loopw [5, 6, 22] (fun _ _ j wr => Ext w3 wr ∧ ∃ k : Nat, k ≤ n' ∧ j = .int .i64 k) (fun _ _ j _ => n' - (intOf j).toNat)
  case atStart => exact ⟨Ext.refl _, 0, Nat.zero_le _, rfl⟩
  case round =>
    obtain ⟨hx, k, hk, rfl⟩ := hrel
    rename World => w4
    clear k0
    by_cases hlt : k < n'
    · obtain ⟨x, hxk⟩ : ∃ x, ns[k]? = some x := ⟨_, List.getElem?_eq_getElem (by have := HL.out; omega)⟩
      obtain ⟨y, hyk⟩ : ∃ y, ns'[k]? = some y := ⟨_, List.getElem?_eq_getElem (by have := HL'.out; omega)⟩
      obtain ⟨ad, rfl, hnx⟩ := (HA.out.to (X3.out.step hx)).nodeAt hxk
      obtain ⟨bd, rfl, hny⟩ := (HA'.out.to (X3.out.step hx)).nodeAt hyk
      have HXK := Lib.hid hxk
      have HYK := Lib.hid hyk
      clear hxk hyk
      obtain ⟨w5, hw5⟩ : ∃ w5, w5 = w4.alloc (.cells x.arr 76) := ⟨_, rfl⟩
      obtain ⟨B5, hx5, hs5⟩ := box_made hw5
      have hn5 := B5.node
      have hny5 := hny.to hx5
      have H5 := Lib.hid hw5
      have X5 := Lib.hid (hx.step hx5)
      have s1 : ∀ q : Later w5, q.w.cell? ⟨w.heap.size + 1, 0, none⟩ = some (.slice (some bd) n' c') := fun q => (HB2.out.to (X3.out.step (X5.out.step q.ext))).cell 0
      have s2 : ∀ q : Later w5, q.w.cell? ⟨w4.heap.size, 0, none⟩ = some (.int .i64 x.k) := fun q => ((B5.to q.ext).cell 0).trans x.a0
      clear B5 hw5 hx5 hs5 hny
      by_cases hk0 : x.k = 0
      · rw [hk0] at s2
        clear hk0
        go_wp2_with (first
          | (refine wpList_load_nd (by rfl) _ (by rfl) _ (by rfl) x hnx ?_)
          | (refine wpList_store_nd (W := w4) (by rfl) _ _ (by rfl) (by rfl) x (by rfl) _ (by rfl) (by rfl) ?_; rw [← H5.out]))
        try simp only [Act.put]
        refine wp_region_later w5 (Ext.refl _) (by kernel_rfl) (by kernel_rfl) ?_
        repeat (go_big_quiet_step (fail))
        refine wpQuiet_nil ?_
        rintro _ ⟨q, rfl⟩
        go_wp2_with fail
        go_roundw
        case rel => exact ⟨X5.out.step q.ext, k + 1, by omega, by go_num⟩
        case measure => simp [intOf]; omega
      · obtain rfl : y = x := by
          have h1 := HSt.out k x HXK.out hk0
          rw [HYK.out] at h1
          exact Option.some.inj h1
        have heq : ∀ W, (Op.equalIn 10000 76 (.agg y.arr) (.agg y.arr)).run Try.prog W = .ok true W := fun W => by rw [nd_eq y y W]; simp
        have e1 : (y.k == 0) = false := by simp [hk0]
        have e2 : (y.k != 0) = true := by simp [hk0]
        go_wp2_with (first
          | (refine wpList_load_nd (by rfl) _ (by rfl) _ (by rfl) y hnx ?_)
          | (refine wpList_store_nd (W := w4) (by rfl) _ _ (by rfl) (by rfl) y (by rfl) _ (by rfl) (by rfl) ?_; rw [← H5.out]))
        try simp only [Act.put]
        refine wp_region_later w5 (Ext.refl _) (by kernel_rfl) (by kernel_rfl) ?_
        repeat (first
          | (refine wpQuiet_load_nd6 (by rfl) _ (by rfl) _ (by rfl) y hny5 ?_; simp only [Act.put, List.setIfInBounds_toArray, List.set_cons_zero, List.set_cons_succ])
          | (refine wpQuiet_load_nd6 (by rfl) _ (by rfl) _ (by rfl) y hn5 ?_; simp only [Act.put, List.setIfInBounds_toArray, List.set_cons_zero, List.set_cons_succ])
          | go_big_quiet_step (fail))
        refine wpQuiet_nil ?_
        rintro _ ⟨q, rfl⟩
        go_wp2_with fail
        go_roundw
        case rel => exact ⟨X5.out.step q.ext, k + 1, by omega, by go_num⟩
        case measure => simp [intOf]; omega
    · go_wp2_with fail
      go_ret
      exact ⟨rfl, X2.out.step (X3.out.step hx)⟩

end Go.Proofs.Ytjiehlhnocgneaa
