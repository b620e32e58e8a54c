/-
  Contracts: isMap, Right of package treap.
-/
import Derived.Test.YthgaogbpkedjcaaTrMeet
set_option linter.unusedVariables false
set_option linter.unusedSimpArgs false
namespace Go.Proofs.Ythgaogbpkedjcaa
open Go.RowKit

set_option maxHeartbeats 1000000 in
theorem isMap_is (A B : Option Addr) (n c m d : Nat) (ns : List Nd) (r : Int) (w : World) (h : Rd w 16 A n (flat Nd.cells ns)) (hok : ∀ x ∈ ns, x.Ok) (hn : n ≤ 1000) (hU : U r) (b : Bool) (hb : b = true ↔ MapAt ns r) :
    Calls Try.prog 44 #[.agg #[.slice A n c, .slice B m d], .int .u64 r] w fun e w' => e = .returned (.bool b) ∧ Ext w w' := by
  obtain ⟨w1, hw1⟩ : ∃ w1, w1 = w.alloc (.cells #[.slice A n c, .slice B m d] 25) := ⟨_, rfl⟩
  obtain ⟨w2, hw2⟩ : ∃ w2, w2 = w1.alloc (.cells #[.slice none 0 0] 50) := ⟨_, rfl⟩
  obtain ⟨w3, hw3⟩ : ∃ w3, w3 = w2.alloc (.cells #[fvM w.heap.size (w.heap.size + 1 + 1) (w.heap.size + 1)] 108) := ⟨_, rfl⟩
  obtain ⟨B1, hx1, hs1⟩ := box_made hw1
  obtain ⟨B2, hx2, hs2⟩ := box_made hw2
  obtain ⟨B3, hx3, hs3⟩ := box_made hw3
  rw [hs1] at B2
  rw [hs2, hs1] at B3
  have E3 : Ext w w3 := hx1.step (hx2.step hx3)
  have sp : SpM w.heap.size w.heap.size (w.heap.size + 1 + 1) (w.heap.size + 1) := by
    refine ⟨?_, ?_, ?_, ?_, ?_⟩ <;> omega
  have K : Km w #[.slice A n c, .slice B m d] w.heap.size (w.heap.size + 1 + 1) (w.heap.size + 1) w3 none 0 [] :=
    ⟨B1.to (hx2.step hx3), B3, B2.to hx3, World.ownsRow_nil _ _ _ _, (fun k hk => by cases hk), E3⟩
  have hnl : ns.length = n := by
    have := h.1
    rw [flat_length Nd.cells_length] at this
    omega
  have HM := Lib.hid (meet_is w A B n m c d ns h hok hn w.heap.size (w.heap.size + 1 + 1) (w.heap.size + 1) sp (ns.length + 1) r (fun p x hg => Nat.lt_succ_of_le (after_le ns x.n)) w3 none 0 [] K ⟨by simp [Inc], by simp⟩ hU)
  have HB := Lib.hid (hb.trans mapAt_good)
  have hmf : ∀ (fn : Fn) (first cap : Array Value) (w : World), (Instr.makeFunc fn first cap).run Try.prog w = .ok (.func fn first cap) w := fun fn first cap w => rfl
  have hww : w3 = (((w.alloc (.cells #[.slice A n c, .slice B m d] 25)).alloc (.cells #[.slice none 0 0] 50)).alloc (.cells #[fvM w.heap.size (w.heap.size + 1 + 1) (w.heap.size + 1)] 108)) := by rw [hw3, hw2, hw1]
  have HW := Lib.hid hww
  clear hww hw1 hw2 hw3 B1 B2 B3 hx1 hx2 hx3 hs1 hs2 hs3 sp K hnl hb h hok E3
  go_enter Try.func44, Try.ntmps44
  go_wp2_with fail
  have HMo := HM.out
  rw [HW.out] at HMo
  refine HMo.mono ?_
  rintro e w9 (⟨t, P9, q9, hgt, rfl, hG9, _, _⟩ | ⟨hno, rfl, hx9⟩)
  · obtain rfl : b = true := HB.out.2 ⟨t, hgt⟩
    have HE := Lib.hid hG9.ext
    clear HMo hgt hG9
    go_wp2_with fail
    go_ret
    exact ⟨rfl, HE.out⟩
  · obtain rfl : b = false := by
      cases b
      · rfl
      · obtain ⟨t, ht⟩ := HB.out.1 rfl
        exact absurd ht (hno t)
    clear HMo hno
    go_wp2_with fail
    go_ret
    exact ⟨rfl, hx9⟩

set_option maxHeartbeats 1000000 in
theorem trRight_is (A B : Option Addr) (n m c d : Nat) (ns : List Nd) (fs : List Int) (r : Int) (w : World) (h : Ar w A n B m ns fs) (hn : n ≤ 1000) (hm : m ≤ 1000) (hU : U r) (b : Bool) (hb : b = true ↔ ArMay ns fs ∧ MapAt ns r) :
    Calls Try.prog 23 #[.agg #[.slice A n c, .slice B m d], .int .u64 r] w fun e w' => e = .returned (.bool b) ∧ Ext w w' := by
  obtain ⟨w1, hw1⟩ : ∃ w1, w1 = w.alloc (.cells #[.slice A n c, .slice B m d] 25) := ⟨_, rfl⟩
  obtain ⟨B1, hx1, hs1⟩ := box_made hw1
  obtain ⟨b1, hb1⟩ : ∃ b : Bool, b = true ↔ ArMay ns fs := by
    by_cases hq : ArMay ns fs
    · exact ⟨true, by simp [hq]⟩
    · exact ⟨false, by simp [hq]⟩
  obtain ⟨b2, hb2⟩ : ∃ b : Bool, b = true ↔ MapAt ns r := by
    by_cases hq : MapAt ns r
    · exact ⟨true, by simp [hq]⟩
    · exact ⟨false, by simp [hq]⟩
  have HBB := Lib.hid (show b = (b1 && b2) by rw [Bool.eq_iff_iff, hb, Bool.and_eq_true, hb1, hb2])
  have HA := Lib.hid (h.to hx1)
  have HR1 := Lib.hid (fun W (hW : Ext w1 W) => arRight_is A B n m c d ns fs W (HA.out.to hW) hn hm b1 hb1)
  have HR2 := Lib.hid (fun W (hW : Ext w1 W) => isMap_is A B n c m d ns r W (HA.out.to hW).nodes (HA.out.to hW).ok hn hU b2 hb2)
  have HB1 := Lib.hid B1
  have k0 : w1.cell? ⟨w.heap.size, 0, none⟩ = some (.slice A n c) := B1.cell 0
  have k1 : w1.cell? ⟨w.heap.size, 1, none⟩ = some (.slice B m d) := B1.cell 1
  have H1 := Lib.hid hw1
  have X1 := Lib.hid hx1
  clear hw1 B1 hx1 hs1 hb hb1 hb2 h
  go_enter Try.func23, Try.ntmps23
  go_wp2_with fail
  rw [← H1.out]
  go_wp2_with fail
  refine (HR1.out _ (Ext.refl _)).mono ?_; rintro e w2 ⟨rfl, hx2⟩
  have k0 : w2.cell? ⟨w.heap.size, 0, none⟩ = some (.slice A n c) := (HB1.out.to hx2).cell 0
  have k1 : w2.cell? ⟨w.heap.size, 1, none⟩ = some (.slice B m d) := (HB1.out.to hx2).cell 1
  have HX2 := Lib.hid hx2
  clear hx2
  cases b1
  · obtain rfl : b = false := by have := HBB.out; simpa using this
    go_wp2_with fail
    go_ret
    exact ⟨rfl, X1.out.step HX2.out⟩
  · obtain rfl : b = b2 := by have := HBB.out; simpa using this
    go_wp2_with fail
    refine (HR2.out _ HX2.out).mono ?_; rintro e w3 ⟨rfl, hx3⟩
    go_wp2_with fail
    go_ret
    exact ⟨rfl, X1.out.step (HX2.out.step hx3)⟩

end Go.Proofs.Ythgaogbpkedjcaa
