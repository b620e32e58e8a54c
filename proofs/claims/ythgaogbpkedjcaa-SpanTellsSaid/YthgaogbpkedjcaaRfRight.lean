/-
  Contract: which references are maps', as the document tells it (Right of layer 6).
-/
import Derived.Test.YthgaogbpkedjcaaRfIs
import Derived.Test.YthgaogbpkedjcaaGB
set_option linter.unusedVariables false
set_option linter.unusedSimpArgs false
namespace Go.Proofs.Ythgaogbpkedjcaa
open Go.RowKit

theorem boolOf (p : Prop) : ∃ b : Bool, b = true ↔ p := by
  by_cases hq : p
  · exact ⟨true, by simp [hq]⟩
  · exact ⟨false, by simp [hq]⟩

set_option maxHeartbeats 2000000 in
theorem rfRight_is (A B : Option Addr) (n m c d : Nat) (ns : List Nd) (fs : List Int) (r : Int) (w : World) (h : Ar w A n B m ns fs) (hn : n ≤ 1000) (hm : m ≤ 1000) (hU : U r) (b : Bool) (hb : b = true ↔ ArMay ns fs ∧ MapAt ns r) :
    Calls Try.prog 14 #[.agg #[.slice A n c, .slice B m d], .int .u64 r] w fun e w' => e = .returned (.bool b) ∧ Ext w w' := by
  obtain ⟨w1, hw1⟩ : ∃ w1, w1 = w.alloc (.cells #[.slice A n c, .slice B m d] 25) := ⟨_, rfl⟩
  obtain ⟨B1, hx1, hs1⟩ := box_made hw1
  have HA := Lib.hid (h.to hx1)
  have HROW := Lib.hid (row_is A B n c m d ns h.ok 201 r w1 (by omega) hU (h.to hx1).nodes)
  obtain ⟨l, hl⟩ : ∃ l, l = rowF ns 201 r := ⟨_, rfl⟩
  have hlen : l.length ≤ 201 := by rw [hl]; exact rowF_len ns 201 r
  rw [← hl] at HROW
  obtain ⟨b1, hb1⟩ := boolOf (ArMay ns fs)
  obtain ⟨b3, hb3⟩ := boolOf (Srt l)
  obtain ⟨b4, hb4⟩ := boolOf (IsP ns r l)
  have HR1 := Lib.hid (fun W (hW : Ext w1 W) => want_right A B n m c d ns fs W (HA.out.to hW) hn hm b1 hb1)
  have HBB := Lib.hid (show b = true ↔ b1 = true ∧ l.length ≤ 200 ∧ b3 = true ∧ b4 = true by rw [hb, hb1, hb3, hb4, mapAt_iff, hl])
  have H3 := Lib.hid hb3
  have H4 := Lib.hid hb4
  have k0 : w1.cell? ⟨w.heap.size, 0, none⟩ = some (.slice A n c) := B1.cell 0
  have k1 : w1.cell? ⟨w.heap.size, 1, none⟩ = some (.slice B m d) := B1.cell 1
  have HB1 := Lib.hid B1
  have H1 := Lib.hid hw1
  have X1 := Lib.hid hx1
  have HOK := Lib.hid h.ok
  clear hw1 B1 hx1 hs1 hl hb hb1 hb3 hb4 h
  go_enter Try.func14, Try.ntmps14
  go_wp2_with fail
  rw [← H1.out]
  go_wp2_with fail
  rw [show ((201 : Nat) : Int) = 201 from rfl] at HROW
  refine HROW.out.mono ?_; rintro e w2 ⟨L, cL, rfl, hr, hc, hcm, hx2⟩
  obtain ⟨j, hj⟩ : ∃ j, j = l.length := ⟨_, rfl⟩
  rw [← hj] at hr hc hlen HBB ⊢
  have HJ := Lib.hid hj
  have HR := Lib.hid hr
  have HC := Lib.hid hc
  have HCM := Lib.hid hcm
  have HX2 := Lib.hid hx2
  have k0 : w2.cell? ⟨w.heap.size, 0, none⟩ = some (.slice A n c) := (HB1.out.to hx2).cell 0
  have k1 : w2.cell? ⟨w.heap.size, 1, none⟩ = some (.slice B m d) := (HB1.out.to hx2).cell 1
  clear hj hr hc hcm hx2
  go_wp2_with fail
  refine (HR1.out _ HX2.out).mono ?_; rintro e w3 ⟨rfl, hx3⟩
  have HX3 := Lib.hid (HX2.out.step hx3)
  have HR3 := Lib.hid (HR.out.to hx3)
  clear hx3 k0 k1
  cases b1
  · obtain rfl : b = false := by
      cases b
      · rfl
      · exact absurd (HBB.out.1 rfl).1 (by simp)
    clear HBB
    go_wp2_with fail
    go_ret
    exact ⟨rfl, X1.out.step HX3.out⟩
  · by_cases h200 : j ≤ 200
    · have HO := Lib.hid (ordered_is L j cL l w3 HR3.out (by omega) b3 H3.out)
      go_wp2_with fail
      refine HO.out.mono ?_; rintro e w4 ⟨rfl, hx4⟩
      have HX4 := Lib.hid (HX3.out.step hx4)
      have HR4 := Lib.hid (HR3.out.to hx4)
      clear hx4
      cases b3
      · obtain rfl : b = false := by
          cases b
          · rfl
          · exact absurd (HBB.out.1 rfl).2.2.1 (by simp)
        clear HBB
        go_wp2_with fail
        go_ret
        exact ⟨rfl, X1.out.step HX4.out⟩
      · obtain rfl : b = b4 := Bool.eq_iff_iff.2 (HBB.out.trans ⟨fun h => h.2.2.2, fun h => ⟨by simp, h200, by simp, h⟩⟩)
        have HI := Lib.hid (is_is A B n c m d ns HOK.out j l r L cL w4 b HJ.out.symm (by omega) HC.out HCM.out HR4.out (H3.out.1 rfl) hU (HA.out.to HX4.out).nodes H4.out)
        have k0 : w4.cell? ⟨w.heap.size, 0, none⟩ = some (.slice A n c) := (HB1.out.to HX4.out).cell 0
        have k1 : w4.cell? ⟨w.heap.size, 1, none⟩ = some (.slice B m d) := (HB1.out.to HX4.out).cell 1
        clear HBB
        go_wp2_with fail
        refine HI.out.mono ?_; rintro e w5 ⟨rfl, hx5⟩
        go_wp2_with fail
        go_ret
        exact ⟨rfl, X1.out.step (HX4.out.step hx5)⟩
    · obtain rfl : b = false := by
        cases b
        · rfl
        · exact absurd (HBB.out.1 rfl).2.1 h200
      clear HBB
      have hge : ¬ ((j : Int) ≤ 200) := by omega
      go_wp2_with fail
      go_ret
      exact ⟨rfl, X1.out.step HX3.out⟩

end Go.Proofs.Ythgaogbpkedjcaa
