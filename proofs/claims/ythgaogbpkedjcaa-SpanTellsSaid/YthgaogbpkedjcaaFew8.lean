/-
  Contract: an arena cut to a few (few of the statements of layer 8).
-/
import Derived.Test.YthgaogbpkedjcaaGC
set_option linter.unusedVariables false
set_option linter.unusedSimpArgs false
namespace Go.Proofs.Ythgaogbpkedjcaa
open Go.RowKit

set_option maxHeartbeats 1600000 in
theorem few8_is (A B : Option Addr) (n m c d : Nat) (w : World) (hA : A = none → n = 0) (hB : B = none → m = 0) (hn : n ≤ c) (hm : m ≤ d) (hc : c ≤ maxLen) (hd : d ≤ maxLen) :
    Calls Try.prog 8 #[.agg #[.slice A n c, .slice B m d]] w fun e w' => e = .returned (.agg #[.slice A (min n 60) c, .slice B (min m 62) d]) ∧ Ext w w' := by
  obtain ⟨w1, hw1⟩ : ∃ w1, w1 = w.alloc (.cells #[.slice A n c, .slice B m d] 25) := ⟨_, rfl⟩
  obtain ⟨w2, hw2⟩ : ∃ w2, w2 = w1.alloc (.cells #[.slice none 0 0, .slice none 0 0] 25) := ⟨_, rfl⟩
  obtain ⟨B1, hx1, hs1⟩ := box_made hw1
  obtain ⟨B2, hx2, hs2⟩ := box_made hw2
  rw [hs1] at B2
  have k0 : w2.cell? ⟨w.heap.size, 0, none⟩ = some (.slice A n c) := (B1.to hx2).cell 0
  have k1 : w2.cell? ⟨w.heap.size, 1, none⟩ = some (.slice B m d) := (B1.to hx2).cell 1
  have k2 : w2.frozen? ⟨w.heap.size, 0, none⟩ = false := (B1.to hx2).free 0
  have k3 : w2.frozen? ⟨w.heap.size, 1, none⟩ = false := (B1.to hx2).free 1
  have k4 : w2.cell? ⟨w.heap.size + 1, 0, none⟩ = some (.slice none 0 0) := B2.cell 0
  have k5 : w2.cell? ⟨w.heap.size + 1, 1, none⟩ = some (.slice none 0 0) := B2.cell 1
  have k6 : w2.frozen? ⟨w.heap.size + 1, 0, none⟩ = false := B2.free 0
  have k7 : w2.frozen? ⟨w.heap.size + 1, 1, none⟩ = false := B2.free 1
  have H1 := Lib.hid hw1
  have H2 := Lib.hid hw2
  simp only [maxLen] at hc hd
  rcases (by omega : n ≤ 60 ∨ 60 < n) with hn' | hn'
  · rcases (by omega : m ≤ 62 ∨ 62 < m) with hm' | hm'
    · have e1 : min n 60 = n := by omega
      have e2 : min m 62 = m := by omega
      have e3 : min (n : Int) 60 = n := by omega
      have e4 : min (m : Int) 62 = m := by omega
      rw [e1, e2]
      clear e1 e2
      go_enter Try.func8, Try.ntmps8
      go_wp2_with fail
      rw [← H1.out, ← H2.out]
      go_region
      all_goals go_wp2_with fail
      refine bodyPost_ret (results_ar rfl _ _ (w.heap.size + 1) #[.slice A n c, .slice B m d] (by rfl) ?_ rfl) rfl ⟨rfl, (((Ext.refl w).new _).new _).drew⟩
      have hb := (Bx.new (w.alloc (.cells #[.slice A n c, .slice B m d] 25)) #[.slice A n c, .slice B m d] 25).drew
      rw [show (w.alloc (.cells #[.slice A n c, .slice B m d] 25)).heap.size = w.heap.size + 1 by simp] at hb
      exact hb
    · have e1 : min n 60 = n := by omega
      have e2 : min m 62 = 62 := by omega
      have e3 : min (n : Int) 60 = n := by omega
      have e4 : min (m : Int) 62 = 62 := by omega
      rw [e1, e2]
      clear e1 e2
      go_enter Try.func8, Try.ntmps8
      go_wp2_with fail
      rw [← H1.out, ← H2.out]
      go_region
      all_goals go_wp2_with fail
      refine bodyPost_ret (results_ar rfl _ _ (w.heap.size + 1) #[.slice A n c, .slice B 62 d] (by rfl) ?_ rfl) rfl ⟨rfl, (((Ext.refl w).new _).new _).drew⟩
      have hb := (Bx.new (w.alloc (.cells #[.slice A n c, .slice B 62 d] 25)) #[.slice A n c, .slice B 62 d] 25).drew
      rw [show (w.alloc (.cells #[.slice A n c, .slice B 62 d] 25)).heap.size = w.heap.size + 1 by simp] at hb
      exact hb
  · rcases (by omega : m ≤ 62 ∨ 62 < m) with hm' | hm'
    · have e1 : min n 60 = 60 := by omega
      have e2 : min m 62 = m := by omega
      have e3 : min (n : Int) 60 = 60 := by omega
      have e4 : min (m : Int) 62 = m := by omega
      rw [e1, e2]
      clear e1 e2
      go_enter Try.func8, Try.ntmps8
      go_wp2_with fail
      rw [← H1.out, ← H2.out]
      go_region
      all_goals go_wp2_with fail
      refine bodyPost_ret (results_ar rfl _ _ (w.heap.size + 1) #[.slice A 60 c, .slice B m d] (by rfl) ?_ rfl) rfl ⟨rfl, (((Ext.refl w).new _).new _).drew⟩
      have hb := (Bx.new (w.alloc (.cells #[.slice A 60 c, .slice B m d] 25)) #[.slice A 60 c, .slice B m d] 25).drew
      rw [show (w.alloc (.cells #[.slice A 60 c, .slice B m d] 25)).heap.size = w.heap.size + 1 by simp] at hb
      exact hb
    · have e1 : min n 60 = 60 := by omega
      have e2 : min m 62 = 62 := by omega
      have e3 : min (n : Int) 60 = 60 := by omega
      have e4 : min (m : Int) 62 = 62 := by omega
      rw [e1, e2]
      clear e1 e2
      go_enter Try.func8, Try.ntmps8
      go_wp2_with fail
      rw [← H1.out, ← H2.out]
      go_region
      all_goals go_wp2_with fail
      refine bodyPost_ret (results_ar rfl _ _ (w.heap.size + 1) #[.slice A 60 c, .slice B 62 d] (by rfl) ?_ rfl) rfl ⟨rfl, (((Ext.refl w).new _).new _).drew⟩
      have hb := (Bx.new (w.alloc (.cells #[.slice A 60 c, .slice B 62 d] 25)) #[.slice A 60 c, .slice B 62 d] 25).drew
      rw [show (w.alloc (.cells #[.slice A 60 c, .slice B 62 d] 25)).heap.size = w.heap.size + 1 by simp] at hb
      exact hb

end Go.Proofs.Ythgaogbpkedjcaa
