/-
  Contract: two arenas that are the same (Like).
-/
import Derived.Test.YtmfpgbiicncpcaaFew
import Derived.Test.YtmfpgbiicncpcaaEq
set_option linter.unusedVariables false
set_option linter.unusedSimpArgs false
namespace Go.Proofs.Ytmfpgbiicncpcaa
open Go.RowKit

/-- THE OPERATION, in a region that is walked in whatever later world: a whole node is read. -/
theorem wpQuiet_load_nd {ops : Array Oper} {rest : List Oper} {o : Oper} {a : Act} {w0 : World} {Q : Act → Prop} (hgd : Region.wanted o (yielded ops a.tmps) = true) (x : Operand) (ho : o.op = .load 30 x)
    (A : Addr) (hx : a.eval x = .pointer (some A)) (n : Nd) (hn : NdAt w0 A n)
    (h : wpQuiet Try.prog ops (fun w' => ∃ q : Later w0, w' = q.w) Q rest (a.put o.dst (.agg n.arr))) : wpQuiet Try.prog ops (fun w' => ∃ q : Later w0, w' = q.w) Q (o :: rest) a :=
  BigFrame.wpQuiet_want hgd fun K hK => ⟨.agg n.arr, fun w hw => by
    obtain ⟨q, rfl⟩ := hw
    unfold Oper.quietAt execOp
    simp only [ho, hx, Sem.run_bind, (hn.to q.ext).load, Sem.run_pure, Result.andThen_ok]
    exact ⟨rfl, rfl⟩, hK _ h⟩

set_option maxHeartbeats 3200000 in
theorem like_is (A B A' B' : Option Addr) (n m c d n' m' c' d' : Nat) (ns ns' : List Nd) (fs fs' : List Int) (w : World) (h : Ar w A n B m ns fs) (h' : Ar w A' n' B' m' ns' fs') (hn : n ≤ 1000) (hm : m ≤ 1000) (b : Bool) (hb : b = true ↔ ns = ns' ∧ fs = fs') :
    Calls Try.prog 22 #[.agg #[.slice A n c, .slice B m d], .agg #[.slice A' n' c', .slice B' m' d']] w fun e w' => e = .returned (.bool b) ∧ Ext w w' := by
  have HB := Lib.hid hb
  have HL := Lib.hid h.len
  have HF := Lib.hid h.lenF
  have HL' := Lib.hid h'.len
  have HF' := Lib.hid h'.lenF
  obtain ⟨w1, hw1⟩ : ∃ w1, w1 = w.alloc (.cells #[.slice A n c, .slice B m d] 25) := ⟨_, rfl⟩
  obtain ⟨w2, hw2⟩ : ∃ w2, w2 = w1.alloc (.cells #[.slice A' n' c', .slice B' m' d'] 25) := ⟨_, rfl⟩
  obtain ⟨B1, hx1, hs1⟩ := box_made hw1
  obtain ⟨B2, hx2, hs2⟩ := box_made hw2
  rw [hs1] at B2
  have X2 := Lib.hid (hx1.step hx2)
  have HA := Lib.hid (h.to X2.out)
  have HA' := Lib.hid (h'.to X2.out)
  have HB1 := Lib.hid (B1.to hx2)
  have HB2 := Lib.hid B2
  have H1 := Lib.hid hw1
  have H2 := Lib.hid hw2
  clear hb B1 B2 hx1 hx2 hs1 hs2 hw1 hw2 h h'
  by_cases hnn : n = n'
  · by_cases hmm : m = m'
    · subst hnn hmm
      have k0 : w2.cell? ⟨w.heap.size, 0, none⟩ = some (.slice A n c) := HB1.out.cell 0
      have k1 : w2.cell? ⟨w.heap.size, 1, none⟩ = some (.slice B m d) := HB1.out.cell 1
      go_enter Try.func22, Try.ntmps22
      go_wp2_with fail
      rw [← H1.out, ← H2.out]
      go_wp2_with fail
      go_loopw [5, 26] (fun _ j wr => Ext w2 wr ∧ ∃ k : Nat, k ≤ n ∧ j = .int .i64 k ∧ Hid (∀ i, i < k → ns[i]? = ns'[i]?)) (fun _ j _ => n - (intOf j).toNat)
      case atStart => exact ⟨Ext.refl _, 0, Nat.zero_le _, rfl, Lib.hid (fun i hi => by omega)⟩
      case round =>
        obtain ⟨hx, k, hk, rfl, hall⟩ := hrel
        rename World => w4
        by_cases hlt : k < n
        · obtain ⟨x, hxk⟩ : ∃ x, ns[k]? = some x := ⟨_, List.getElem?_eq_getElem (by have := HL.out; omega)⟩
          obtain ⟨y, hyk⟩ : ∃ y, ns'[k]? = some y := ⟨_, List.getElem?_eq_getElem (by have := HL'.out; omega)⟩
          obtain ⟨ad, rfl, hnx⟩ := (HA.out.to hx).nodeAt hxk
          obtain ⟨bd, rfl, hny⟩ := (HA'.out.to hx).nodeAt hyk
          have HXK := Lib.hid hxk
          have HYK := Lib.hid hyk
          clear hxk hyk k0 k1
          have s0 : ∀ q : Later w4, q.w.cell? ⟨w.heap.size, 0, none⟩ = some (.slice (some ad) n c) := fun q => (HB1.out.to (hx.step q.ext)).cell 0
          have s1 : ∀ q : Later w4, q.w.cell? ⟨w.heap.size + 1, 0, none⟩ = some (.slice (some bd) n c') := fun q => (HB2.out.to (hx.step q.ext)).cell 0
          obtain ⟨u, hu⟩ : ∃ u, u = decide (x = y) := ⟨_, rfl⟩
          have heq : ∀ W, (Op.equalIn 10000 30 (.agg x.arr) (.agg y.arr)).run Try.prog W = .ok u W := fun W => by rw [hu]; exact nd_eq x y W
          have HU := Lib.hid hu
          clear hu
          cases u
          · obtain rfl : b = false := by
              cases b
              · rfl
              · have h1 := (HB.out.1 rfl).1
                have h2 := HXK.out
                rw [h1, HYK.out] at h2
                exact absurd (Option.some.inj h2).symm (of_decide_eq_false HU.out.symm)
            go_wp2_with fail
            refine wp_region_later w4 (Ext.refl _) (by kernel_rfl) (by kernel_rfl) ?_
            repeat (first
              | (refine wpQuiet_load_nd (by rfl) _ (by rfl) _ (by rfl) x hnx ?_; simp only [Act.put, List.setIfInBounds_toArray, List.set_cons_zero, List.set_cons_succ])
              | (refine wpQuiet_load_nd (by rfl) _ (by rfl) _ (by rfl) y hny ?_; simp only [Act.put, List.setIfInBounds_toArray, List.set_cons_zero, List.set_cons_succ])
              | go_big_quiet_step (fail))
            refine wpQuiet_nil ?_
            rintro _ ⟨q, rfl⟩
            go_wp2_with fail
            go_ret
            exact ⟨rfl, X2.out.step (hx.step q.ext)⟩
          · go_wp2_with fail
            refine wp_region_later w4 (Ext.refl _) (by kernel_rfl) (by kernel_rfl) ?_
            repeat (first
              | (refine wpQuiet_load_nd (by rfl) _ (by rfl) _ (by rfl) x hnx ?_; simp only [Act.put, List.setIfInBounds_toArray, List.set_cons_zero, List.set_cons_succ])
              | (refine wpQuiet_load_nd (by rfl) _ (by rfl) _ (by rfl) y hny ?_; simp only [Act.put, List.setIfInBounds_toArray, List.set_cons_zero, List.set_cons_succ])
              | go_big_quiet_step (fail))
            refine wpQuiet_nil ?_
            rintro _ ⟨q, rfl⟩
            go_wp2_with fail
            go_roundw
            case rel => exact ⟨hx.step q.ext, k + 1, by omega, by go_num, Lib.hid (fun i hi => by
              by_cases e : i = k
              · subst e
                rw [HXK.out, HYK.out, of_decide_eq_true HU.out.symm]
              · exact hall.out i (by omega))⟩
            case measure => simp [intOf]; omega
        · have hns := Lib.hid (show ns = ns' from List.ext_getElem? fun i => by
            by_cases hi : i < n
            · exact hall.out i (by omega)
            · rw [List.getElem?_eq_none (by have := HL.out; omega), List.getElem?_eq_none (by have := HL'.out; omega)])
          clear k0 k1
          have k0 : w4.cell? ⟨w.heap.size, 0, none⟩ = some (.slice A n c) := (HB1.out.to hx).cell 0
          have k1 : w4.cell? ⟨w.heap.size, 1, none⟩ = some (.slice B m d) := (HB1.out.to hx).cell 1
          go_wp2_with fail
          go_loopw [6, 44] (fun _ j wr => Ext w2 wr ∧ ∃ k : Nat, k ≤ m ∧ j = .int .i64 k ∧ Hid (∀ i, i < k → fs[i]? = fs'[i]?)) (fun _ j _ => m - (intOf j).toNat)
          case atStart => exact ⟨hx, 0, Nat.zero_le _, rfl, Lib.hid (fun i hi => by omega)⟩
          case round =>
            obtain ⟨hx5, k5, hk5, rfl, hall5⟩ := hrel
            rename World => w5
            clear k0 k1
            by_cases hlt5 : k5 < m
            · obtain ⟨x, hxk⟩ : ∃ x, fs[k5]? = some x := ⟨_, List.getElem?_eq_getElem (by have := HF.out; omega)⟩
              obtain ⟨y, hyk⟩ : ∃ y, fs'[k5]? = some y := ⟨_, List.getElem?_eq_getElem (by have := HF'.out; omega)⟩
              obtain ⟨ad, rfl, cx⟩ := (HA.out.to hx5).freeAt hxk
              obtain ⟨bd, rfl, cy⟩ := (HA'.out.to hx5).freeAt hyk
              have HXK := Lib.hid hxk
              have HYK := Lib.hid hyk
              clear hxk hyk
              have s0 : w5.cell? ⟨w.heap.size, 1, none⟩ = some (.slice (some ad) m d) := (HB1.out.to hx5).cell 1
              have s1 : w5.cell? ⟨w.heap.size + 1, 1, none⟩ = some (.slice (some bd) m d') := (HB2.out.to hx5).cell 1
              by_cases e : x = y
              · subst e
                go_wp2_with fail
                go_quiet (fail)
                go_wp2_with fail
                go_roundw
                case rel => exact ⟨hx5.drewN _, k5 + 1, by omega, by go_num, Lib.hid (fun i hi => by
                  by_cases e : i = k5
                  · subst e
                    rw [HXK.out, HYK.out]
                  · exact hall5.out i (by omega))⟩
                case measure => simp [intOf]; omega
              · have e1 : (x == y) = false := by simp [e]
                have e2 : (x != y) = true := by simp [e]
                have HE := Lib.hid e
                clear e
                obtain rfl : b = false := by
                  cases b
                  · rfl
                  · have h1 := (HB.out.1 rfl).2
                    have h2 := HXK.out
                    rw [h1, HYK.out] at h2
                    exact absurd (Option.some.inj h2).symm HE.out
                go_wp2_with fail
                go_quiet (fail)
                go_wp2_with fail
                go_ret
                exact ⟨rfl, X2.out.step (hx5.drewN _)⟩
            · obtain rfl : b = true := HB.out.2 ⟨hns.out, List.ext_getElem? fun i => by
                by_cases hi : i < m
                · exact hall5.out i (by omega)
                · rw [List.getElem?_eq_none (by have := HF.out; omega), List.getElem?_eq_none (by have := HF'.out; omega)]⟩
              go_wp2_with fail
              go_ret
              exact ⟨rfl, X2.out.step hx5⟩
    · obtain rfl : b = false := by
        cases b
        · rfl
        · exact absurd (by rw [← HF.out, ← HF'.out, (HB.out.1 rfl).2]) hmm
      subst hnn
      have e1 : ((m : Int) == (m' : Int)) = false := by simp; omega
      have e2 : ((m : Int) != (m' : Int)) = true := by simp; omega
      go_enter Try.func22, Try.ntmps22
      go_wp2_with fail
      go_ret
      exact ⟨rfl, ((Ext.refl w).new _).new _⟩
  · obtain rfl : b = false := by
      cases b
      · rfl
      · exact absurd (by rw [← HL.out, ← HL'.out, (HB.out.1 rfl).1]) hnn
    have e1 : ((n : Int) == (n' : Int)) = false := by simp; omega
    have e2 : ((n : Int) != (n' : Int)) = true := by simp; omega
    go_enter Try.func22, Try.ntmps22
    go_wp2_with fail
    go_ret
    exact ⟨rfl, ((Ext.refl w).new _).new _⟩

end Go.Proofs.Ytmfpgbiicncpcaa
