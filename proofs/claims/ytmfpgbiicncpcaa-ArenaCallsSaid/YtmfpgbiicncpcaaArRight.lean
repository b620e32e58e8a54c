/-
  Contract: which arenas may be, as the program tells it (Right).
-/
import Derived.Test.YtmfpgbiicncpcaaFree
set_option linter.unusedVariables false
set_option linter.unusedSimpArgs false
namespace Go.Proofs.Ytmfpgbiicncpcaa
open Go.RowKit

structure ArMay (ns : List Nd) (fs : List Int) : Prop where
  pos : 1 ≤ ns.length
  le : ns.length ≤ 512
  fits : ∀ x ∈ ns, x.Fits
  frees : Frees ns fs

set_option maxHeartbeats 1600000 in
theorem arRight_is (A B : Option Addr) (n m c d : Nat) (ns : List Nd) (fs : List Int) (w : World) (h : Ar w A n B m ns fs) (hn : n ≤ 1000) (hm : m ≤ 1000) (b : Bool) (hb : b = true ↔ ArMay ns fs) :
    Calls Try.prog 14 #[.agg #[.slice A n c, .slice B m d]] w fun e w' => e = .returned (.bool b) ∧ Ext w w' := by
  have HB := Lib.hid hb
  clear hb
  have HL := Lib.hid h.len
  obtain ⟨w1, hw1⟩ : ∃ w1, w1 = w.alloc (.cells #[.slice A n c, .slice B m d] 25) := ⟨_, rfl⟩
  obtain ⟨B1, hx1, hs1⟩ := box_made hw1
  have HB1 := Lib.hid B1
  have X1 := Lib.hid hx1
  have h1 := Lib.hid (h.to hx1)
  have H1 := Lib.hid hw1
  clear B1 hs1 hx1
  by_cases g1 : 1 ≤ n
  · by_cases g2 : n ≤ 512
    · have k0 : w1.cell? ⟨w.heap.size, 0, none⟩ = some (.slice A n c) := HB1.out.cell 0
      rw [hw1] at k0
      clear hw1
      go_enter Try.func14, Try.ntmps14
      go_wp2_with fail
      rw [← H1.out]
      rw [← H1.out] at k0
      go_loopw [4, 18] (fun _ j wr => Ext w1 wr ∧ ∃ k : Nat, k ≤ n ∧ j = .int .i64 k ∧ Hid (∀ (i : Nat) (x : Nd), i < k → ns[i]? = some x → x.Fits)) (fun _ j _ => n - (intOf j).toNat)
      case atStart => exact ⟨Ext.refl _, 0, Nat.zero_le _, rfl, fun i x hi => by omega⟩
      case round =>
        obtain ⟨hx, k, hk, rfl, hall⟩ := hrel
        rename World => w4
        have q0 : w4.cell? ⟨w.heap.size, 0, none⟩ = some (.slice A n c) := (HB1.out.to hx).cell 0
        have q1 : w4.cell? ⟨w.heap.size, 1, none⟩ = some (.slice B m d) := (HB1.out.to hx).cell 1
        clear k0
        by_cases hlt : k < n
        · obtain ⟨x, hxk⟩ : ∃ x, ns[k]? = some x := ⟨_, List.getElem?_eq_getElem (by have := HL.out; omega)⟩
          obtain ⟨ad, rfl, hn0⟩ := (h1.out.to hx).nodeAt hxk
          have HXK := Lib.hid hxk
          have hok := h1.out.ok x (List.mem_of_getElem? hxk)
          clear hxk
          obtain ⟨w5, hw5⟩ : ∃ w5, w5 = w4.alloc (.cells x.arr 30) := ⟨_, rfl⟩
          obtain ⟨B5, hx5, _⟩ := box_made hw5
          have hn5 := B5.node
          have HR := Lib.hid (rightNode_is x w5 hok)
          have H5 := Lib.hid hw5
          have X5 := Lib.hid hx5
          clear B5 hw5 hx5 hok
          obtain ⟨t, ht⟩ : ∃ t, t = decide x.Fits := ⟨_, rfl⟩
          rw [← ht] at HR
          have HT := Lib.hid ht
          clear ht
          go_wp2_with (first
            | (refine wpList_load_nd (by rfl) _ (by rfl) _ (by rfl) x hn0 ?_)
            | (refine wpList_load_nd (by rfl) _ (by rfl) _ (by rfl) x hn5 ?_)
            | (refine wpList_store_nd (W := w4) (by rfl) _ _ (by rfl) (by rfl) x (by rfl) _ (by rfl) (by rfl) ?_; rw [← H5.out]))
          refine HR.out.mono ?_; rintro e w6 ⟨rfl, hx6⟩
          have hx' := Lib.hid (hx.step (X5.out.step hx6))
          cases t
          · obtain rfl : b = false := by
              cases b
              · rfl
              · exact absurd ((HB.out.1 rfl).fits x (List.mem_of_getElem? HXK.out)) (of_decide_eq_false HT.out.symm)
            go_wp2_with fail
            go_ret
            exact ⟨rfl, X1.out.step hx'.out⟩
          · go_wp2_with fail
            go_roundw
            case rel => exact ⟨hx'.out, k + 1, by omega, by go_num, Lib.hid (fun i y hi hy => by
              by_cases e : i = k
              · subst e
                rw [HXK.out] at hy
                injection hy with hy
                subst hy
                exact of_decide_eq_true HT.out.symm
              · exact hall.out i y (by omega) hy)⟩
            case measure => simp [intOf]; omega
        · have hfit : ∀ x ∈ ns, x.Fits := fun x hx => by
            obtain ⟨i, hi⟩ := List.getElem?_of_mem hx
            have := (List.getElem?_eq_some_iff.1 hi).1
            exact hall.out i x (by have := HL.out; omega) hi
          have HR := Lib.hid (rightFree_is A B n m c d ns fs w4 (h1.out.to hx) hn hm b ⟨fun hb => (HB.out.1 hb).frees, fun hf => HB.out.2 ⟨by rw [HL.out]; exact g1, by rw [HL.out]; exact g2, hfit, hf⟩⟩)
          have hx' := Lib.hid hx
          clear hfit hall
          go_wp2_with fail
          refine HR.out.mono ?_; rintro e w6 ⟨rfl, hx6⟩
          go_wp2_with fail
          go_ret
          exact ⟨rfl, X1.out.step (hx'.out.step hx6)⟩
    · obtain rfl : b = false := by
        cases b
        · rfl
        · exact absurd (HB.out.1 rfl).le (by rw [HL.out]; exact g2)
      go_enter Try.func14, Try.ntmps14
      go_wp2_with fail
      go_ret
      exact ⟨rfl, (Ext.refl w).new _⟩
  · obtain rfl : b = false := by
      cases b
      · rfl
      · exact absurd (HB.out.1 rfl).pos (by rw [HL.out]; exact g1)
    go_enter Try.func14, Try.ntmps14
    go_wp2_with fail
    go_ret
    exact ⟨rfl, (Ext.refl w).new _⟩

end Go.Proofs.Ytmfpgbiicncpcaa
