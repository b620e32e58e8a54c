/-
  Contracts of the statements' helpers: few, sameInts, Like.
-/
import Derived.Test.YtmfpgbiicncpcaaCopied
set_option linter.unusedVariables false
set_option linter.unusedSimpArgs false
namespace Go.Proofs.Ytmfpgbiicncpcaa
open Go.RowKit

set_option maxHeartbeats 1600000 in
theorem few_is (A B : Option Addr) (n m c d : Nat) (w : World) (hA : A = none → n = 0) (hB : B = none → m = 0) (hn : n ≤ c) (hm : m ≤ d) (hc : c ≤ maxLen) (hd : d ≤ maxLen) :
    Calls Try.prog 9 #[.agg #[.slice A n c, .slice B m d]] w fun e w' => e = .returned (.agg #[.slice A (min n 40) c, .slice B (min m 42) d]) ∧ Ext w w' := by
  obtain ⟨w1, hw1⟩ : ∃ w1, w1 = w.alloc (.cells #[.slice A n c, .slice B m d] 25) := ⟨_, rfl⟩
  obtain ⟨w2, hw2⟩ : ∃ w2, w2 = w1.alloc (.cells #[.slice none 0 0, .slice none 0 0] 25) := ⟨_, rfl⟩
  obtain ⟨B1, hx1, hs1⟩ := box_made hw1
  obtain ⟨B2, hx2, hs2⟩ := box_made hw2
  rw [hs1] at B2
  have k0 : w2.cell? ⟨w.heap.size, 0, none⟩ = some (.slice A n c) := (B1.to hx2).cell 0
  have k1 : w2.cell? ⟨w.heap.size, 1, none⟩ = some (.slice B m d) := (B1.to hx2).cell 1
  have k2 : w2.frozen? ⟨w.heap.size, 0, none⟩ = false := (B1.to hx2).free 0
  have k3 : w2.frozen? ⟨w.heap.size, 1, none⟩ = false := (B1.to hx2).free 1
  have k4 : w2.cell? ⟨w.heap.size + 1, 0, none⟩ = some (.slice none 0 0) := B2.cell 0
  have k5 : w2.cell? ⟨w.heap.size + 1, 1, none⟩ = some (.slice none 0 0) := B2.cell 1
  have k6 : w2.frozen? ⟨w.heap.size + 1, 0, none⟩ = false := B2.free 0
  have k7 : w2.frozen? ⟨w.heap.size + 1, 1, none⟩ = false := B2.free 1
  have H1 := Lib.hid hw1
  have H2 := Lib.hid hw2
  simp only [maxLen] at hc hd
  rcases (by omega : n ≤ 40 ∨ 40 < n) with hn' | hn'
  · rcases (by omega : m ≤ 42 ∨ 42 < m) with hm' | hm'
    · have e1 : min n 40 = n := by omega
      have e2 : min m 42 = m := by omega
      have e3 : min (n : Int) 40 = n := by omega
      have e4 : min (m : Int) 42 = m := by omega
      rw [e1, e2]
      clear e1 e2
      go_enter Try.func9, Try.ntmps9
      go_wp2_with fail
      rw [← H1.out, ← H2.out]
      go_region
      all_goals go_wp2_with fail
      refine bodyPost_ret (results_ar rfl _ _ (w.heap.size + 1) #[.slice A n c, .slice B m d] (by rfl) ?_ rfl) rfl ⟨rfl, (((Ext.refl w).new _).new _).drew⟩
      have hb := (Bx.new (w.alloc (.cells #[.slice A n c, .slice B m d] 25)) #[.slice A n c, .slice B m d] 25).drew
      rw [show (w.alloc (.cells #[.slice A n c, .slice B m d] 25)).heap.size = w.heap.size + 1 by simp] at hb
      exact hb
    · have e1 : min n 40 = n := by omega
      have e2 : min m 42 = 42 := by omega
      have e3 : min (n : Int) 40 = n := by omega
      have e4 : min (m : Int) 42 = 42 := by omega
      rw [e1, e2]
      clear e1 e2
      go_enter Try.func9, Try.ntmps9
      go_wp2_with fail
      rw [← H1.out, ← H2.out]
      go_region
      all_goals go_wp2_with fail
      refine bodyPost_ret (results_ar rfl _ _ (w.heap.size + 1) #[.slice A n c, .slice B 42 d] (by rfl) ?_ rfl) rfl ⟨rfl, (((Ext.refl w).new _).new _).drew⟩
      have hb := (Bx.new (w.alloc (.cells #[.slice A n c, .slice B 42 d] 25)) #[.slice A n c, .slice B 42 d] 25).drew
      rw [show (w.alloc (.cells #[.slice A n c, .slice B 42 d] 25)).heap.size = w.heap.size + 1 by simp] at hb
      exact hb
  · rcases (by omega : m ≤ 42 ∨ 42 < m) with hm' | hm'
    · have e1 : min n 40 = 40 := by omega
      have e2 : min m 42 = m := by omega
      have e3 : min (n : Int) 40 = 40 := by omega
      have e4 : min (m : Int) 42 = m := by omega
      rw [e1, e2]
      clear e1 e2
      go_enter Try.func9, Try.ntmps9
      go_wp2_with fail
      rw [← H1.out, ← H2.out]
      go_region
      all_goals go_wp2_with fail
      refine bodyPost_ret (results_ar rfl _ _ (w.heap.size + 1) #[.slice A 40 c, .slice B m d] (by rfl) ?_ rfl) rfl ⟨rfl, (((Ext.refl w).new _).new _).drew⟩
      have hb := (Bx.new (w.alloc (.cells #[.slice A 40 c, .slice B m d] 25)) #[.slice A 40 c, .slice B m d] 25).drew
      rw [show (w.alloc (.cells #[.slice A 40 c, .slice B m d] 25)).heap.size = w.heap.size + 1 by simp] at hb
      exact hb
    · have e1 : min n 40 = 40 := by omega
      have e2 : min m 42 = 42 := by omega
      have e3 : min (n : Int) 40 = 40 := by omega
      have e4 : min (m : Int) 42 = 42 := by omega
      rw [e1, e2]
      clear e1 e2
      go_enter Try.func9, Try.ntmps9
      go_wp2_with fail
      rw [← H1.out, ← H2.out]
      go_region
      all_goals go_wp2_with fail
      refine bodyPost_ret (results_ar rfl _ _ (w.heap.size + 1) #[.slice A 40 c, .slice B 42 d] (by rfl) ?_ rfl) rfl ⟨rfl, (((Ext.refl w).new _).new _).drew⟩
      have hb := (Bx.new (w.alloc (.cells #[.slice A 40 c, .slice B 42 d] 25)) #[.slice A 40 c, .slice B 42 d] 25).drew
      rw [show (w.alloc (.cells #[.slice A 40 c, .slice B 42 d] 25)).heap.size = w.heap.size + 1 by simp] at hb
      exact hb

set_option maxHeartbeats 800000 in
theorem same_is (A B : Option Addr) (n m c d : Nat) (xs ys : List Int) (w : World) (hx : Rd w 1 A n (Ks .i64 xs)) (hy : Rd w 1 B m (Ks .i64 ys)) (hn : n ≤ 1000) (hm : m ≤ 1000) (b : Bool) (hb : b = true ↔ xs = ys) :
    Calls Try.prog 19 #[.slice A n c, .slice B m d] w fun e w' => e = .returned (.bool b) ∧ Ext w w' := by
  have HB := Lib.hid hb
  have HX := Lib.hid (show xs.length = n by have := hx.1; simpa [Ks] using this)
  have HY := Lib.hid (show ys.length = m by have := hy.1; simpa [Ks] using this)
  clear hb
  by_cases he : n = m
  · subst he
    go_enter Try.func19, Try.ntmps19
    go_wp2_with fail
    go_loopw [5, 13] (fun _ j wr => Ext w wr ∧ ∃ k : Nat, k ≤ n ∧ j = .int .i64 k ∧ Hid (∀ i, i < k → xs[i]? = ys[i]?)) (fun _ j _ => n - (intOf j).toNat)
    case atStart => exact ⟨Ext.refl w, 0, Nat.zero_le _, rfl, Lib.hid (fun i hi => by omega)⟩
    case round =>
      obtain ⟨hw, k, hk, rfl, hall⟩ := hrel
      by_cases hlt : k < n
      · obtain ⟨x, hxk⟩ : ∃ x, xs[k]? = some x := ⟨_, List.getElem?_eq_getElem (by have := HX.out; omega)⟩
        obtain ⟨y, hyk⟩ : ∃ y, ys[k]? = some y := ⟨_, List.getElem?_eq_getElem (by have := HY.out; omega)⟩
        obtain ⟨ad, rfl, cx⟩ := (hx.to hw).2 k (.int .i64 x) (by simp [Ks, hxk])
        obtain ⟨bd, rfl, cy⟩ := (hy.to hw).2 k (.int .i64 y) (by simp [Ks, hyk])
        have HXK := Lib.hid hxk
        have HYK := Lib.hid hyk
        clear hxk hyk
        by_cases e : x = y
        · subst e
          go_wp2_with fail
          go_quiet (fail)
          go_wp2_with fail
          go_roundw
          case rel => exact ⟨hw.drewN _, k + 1, by omega, by go_num, Lib.hid (fun i hi => by
            by_cases e : i = k
            · subst e
              rw [HXK.out, HYK.out]
            · exact hall.out i (by omega))⟩
          case measure => simp [intOf]; omega
        · have e1 : (x == y) = false := by simp [e]
          have e2 : (x != y) = true := by simp [e]
          have HE := Lib.hid e
          clear e
          obtain rfl : b = false := by
            cases b
            · rfl
            · have := HB.out.1 rfl
              subst this
              have h1 := HXK.out
              rw [HYK.out] at h1
              exact absurd (Option.some.inj h1).symm HE.out
          go_wp2_with fail
          go_quiet (fail)
          go_wp2_with fail
          go_ret
          exact ⟨rfl, hw.drewN _⟩
      · obtain rfl : b = true := HB.out.2 (List.ext_getElem? fun i => by
          by_cases hi : i < n
          · exact hall.out i (by omega)
          · rw [List.getElem?_eq_none (by have := HX.out; omega), List.getElem?_eq_none (by have := HY.out; omega)])
        go_wp2_with fail
        go_ret
        exact ⟨rfl, hw⟩
  · obtain rfl : b = false := by
      cases b
      · rfl
      · exact absurd (by rw [← HX.out, ← HY.out, HB.out.1 rfl]) he
    have e1 : ((n : Int) == (m : Int)) = false := by simp; omega
    have e2 : ((n : Int) != (m : Int)) = true := by simp; omega
    go_enter Try.func19, Try.ntmps19
    go_wp2_with fail
    go_ret
    exact ⟨rfl, Ext.refl w⟩

end Go.Proofs.Ytmfpgbiicncpcaa
