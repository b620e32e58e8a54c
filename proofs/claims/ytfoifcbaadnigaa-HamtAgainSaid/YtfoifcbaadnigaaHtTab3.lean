/-
  Contracts: which references are tables' (isTable, isTrie, isClash).
-/
import Derived.Test.YtfoifcbaadnigaaHtTab2
set_option linter.unusedVariables false
set_option linter.unusedSimpArgs false
namespace Go.Proofs.Ytfoifcbaadnigaa
open Go.RowKit

/-- What isTable tells at a level. -/
def TabC (A B : Option Addr) (n c m d : Nat) (ns : List Nd) (w : World) (lv : Nat) : Prop :=
  ∀ (z q : Int) (t : Bool) (W : World), Ext w W → U z → 0 ≤ q → q < (4 : Int) ^ lv → (t = true ↔ TabQ ns lv q z) →
    Calls Try.prog 37 #[.agg #[.slice A n c, .slice B m d], .int .u64 z, .int .i64 lv, .int .i64 q] W fun e w' => e = .returned (.bool t) ∧ Ext W w'

set_option maxHeartbeats 8000000 in
set_option maxRecDepth 100000 in
theorem htTrie_is (A B : Option Addr) (n c m d : Nat) (ns : List Nd) (x : Nd) (lv : Nat) (q : Int) (w : World) (hxo : x.Ok) (h : Rd w 16 A n (flat Nd.cells ns)) (hlv : lv < 10) (hq0 : 0 ≤ q) (hq1 : q < (4 : Int) ^ lv)
    (HC : TabC A B n c m d ns w (lv + 1)) (b : Bool) (hb : b = true ↔ TrieOk ns lv q x) :
    Calls Try.prog 56 #[.agg #[.slice A n c, .slice B m d], .agg x.arr, .int .i64 lv, .int .i64 q] w fun e w' => e = .returned (.bool b) ∧ Ext w w' := by
  have HA := Lib.hid h
  have HCC := Lib.hid HC
  obtain ⟨w1, hw1⟩ : ∃ w1, w1 = w.alloc (.cells #[.slice A n c, .slice B m d] 26) := ⟨_, rfl⟩
  obtain ⟨B1, hx1, hs1⟩ := box_made hw1
  obtain ⟨w2, hw2⟩ : ∃ w2, w2 = w1.alloc (.cells x.arr 68) := ⟨_, rfl⟩
  obtain ⟨B2, hx2, hs2⟩ := box_made hw2
  rw [hs1] at B2
  have H1 := Lib.hid hw1
  have H2 := Lib.hid hw2
  have HB1 := Lib.hid (B1.to hx2)
  have HB2 := Lib.hid B2
  have X2 := Lib.hid (hx1.step hx2)
  have HXO := Lib.hid hxo
  have n2 := B2.node
  obtain ⟨s, hs⟩ : ∃ s, s = x.s := ⟨_, rfl⟩
  have HS := Lib.hid hs
  have k4 : w2.cell? ⟨w.heap.size + 1, 4, none⟩ = some (.int .i64 s) := by rw [hs]; exact (B2.cell 4).trans x.a4
  have k1 : w2.cell? ⟨w.heap.size + 1, 1, none⟩ = some (.int .i64 x.g) := (B2.cell 1).trans x.a1
  have i0 : w2.cell? ⟨w.heap.size, 0, none⟩ = some (.slice A n c) := HB1.out.cell 0
  have i1 : w2.cell? ⟨w.heap.size, 1, none⟩ = some (.slice B m d) := HB1.out.cell 1
  have HBB := Lib.hid hb
  obtain ⟨zs, hzs⟩ : ∃ zs, zs = [x.r0, x.r1, x.r2, x.r3] := ⟨_, rfl⟩
  have HZ := Lib.hid hzs
  have HR2 := Lib.hid (show ∀ W, Ext w2 W → Rd W 1 (some ⟨w.heap.size + 1, 5, none⟩) 4 (Us zs) from fun W hW => by rw [hzs]; exact (HB2.out.to hW).kidRow (m := 4) (by omega))
  have HW := Lib.hid (fun W (hW : Ext w2 W) cc => htWith_is A B n c m d ns 2 x.g (some ⟨w.heap.size + 1, 5, none⟩) 4 cc zs W (HA.out.to (X2.out.step hW)) (HR2.out W hW) (by omega) (fun z hz => by
    rw [hzs] at hz
    exact HXO.out z (by simp [Nd.kids] at hz ⊢; rcases hz with rfl | rfl | rfl | rfl <;> simp)))
  obtain ⟨S, hS⟩ : ∃ S, S = sumS ns zs := ⟨_, rfl⟩
  rw [← hS] at HW
  have HSS := Lib.hid hS
  obtain ⟨u, hu⟩ : ∃ u, u = decide (x = boxNd 2 x.g S zs) := ⟨_, rfl⟩
  have heq : ∀ W, (Op.equalIn 10000 68 (.agg x.arr) (.agg (boxNd 2 x.g S zs).arr)).run Try.prog W = .ok u W := fun W => by rw [hu]; exact nd_eq x (boxNd 2 x.g S zs) W
  have HU := Lib.hid hu
  have HQ0 := Lib.hid hq0
  have HQ1 := Lib.hid hq1
  have s0 := fun q : Later w2 => q.ext.cellOf i0
  have s1 := fun q : Later w2 => q.ext.cellOf i1
  have s2 := fun q : Later w2 => q.ext.cellOf k1
  have s3 := fun q : Later w2 => q.ext.cellOf k4
  have Z := Lib.hid (And.intro s0 (And.intro s1 (And.intro s2 s3)))
  clear hw1 B1 hx1 hs1 hw2 B2 hx2 hs2 h hxo hb hzs hS hu HC s0 s1 s2 s3 hs hq0 hq1
  have hlow : s < 2 ∨ 200 < s ∨ (2 ≤ s ∧ s ≤ 200) := by omega
  rcases hlow with h2 | h2 | ⟨h2, h3⟩
  · obtain rfl : b = false := by
      cases b with
      | false => rfl
      | true => have := (HBB.out.1 rfl).two; have := HS.out; omega
    clear heq
    go_enter Try.func56, Try.ntmps56
    go_upto_region 1 with fail
    rw [← H1.out, ← H2.out]
    go_upto_region 2 with fail
    obtain ⟨s0, s1, s2, s3⟩ := Z.out
    refine wp_region_later w2 (Ext.refl _) (by kernel_rfl) (by kernel_rfl) ?_
    repeat (go_big_quiet_step (fail))
    refine wpQuiet_nil ?_
    rintro _ ⟨q1, rfl⟩
    clear s0 s1 s2 s3
    go_wp2_with fail
    go_ret
    exact ⟨rfl, X2.out.step q1.ext⟩
  · obtain rfl : b = false := by
      cases b with
      | false => rfl
      | true => have := (HBB.out.1 rfl).le; have := HS.out; omega
    have h22 : ¬ s < 2 := by omega
    clear heq
    go_enter Try.func56, Try.ntmps56
    go_upto_region 1 with fail
    rw [← H1.out, ← H2.out]
    go_upto_region 2 with fail
    obtain ⟨s0, s1, s2, s3⟩ := Z.out
    refine wp_region_later w2 (Ext.refl _) (by kernel_rfl) (by kernel_rfl) ?_
    repeat (go_big_quiet_step (fail))
    refine wpQuiet_nil ?_
    rintro _ ⟨q1, rfl⟩
    clear s0 s1 s2 s3
    go_wp2_with fail
    go_ret
    exact ⟨rfl, X2.out.step q1.ext⟩
  have h22 : ¬ s < 2 := by omega
  have h33 : ¬ 200 < s := by omega
  go_enter Try.func56, Try.ntmps56
  go_upto_region 1 with fail
  rw [← H1.out, ← H2.out]
  go_upto_region 2 with fail
  obtain ⟨s0, s1, s2, s3⟩ := Z.out
  refine wp_region_later w2 (Ext.refl _) (by kernel_rfl) (by kernel_rfl) ?_
  repeat (first
    | go_big_quiet_step (first | (go_at_call 59; exact later_call (fun W hW => HW.out W hW 9)))
    | (refine wpQuiet_load_node ?_ (.tmp 5) (by rfl) _ ?_ x n2 ?_
       · rfl
       · rfl
       simp only [Act.put, List.setIfInBounds_toArray, List.set_cons_zero, List.set_cons_succ]))
  refine wpQuiet_nil ?_
  rintro _ ⟨q1, rfl⟩
  clear s0 s1 s2 s3
  cases u with
  | false =>
    obtain rfl : b = false := by
      cases b with
      | false => rfl
      | true =>
        have h3 := (HBB.out.1 rfl).is
        have h4 := HU.out
        rw [HSS.out, HZ.out] at h4
        exact absurd h3 (of_decide_eq_false h4.symm)
    go_wp2_with fail
    go_ret
    exact ⟨rfl, X2.out.step q1.ext⟩
  | true =>
  have HIS := Lib.hid (show x = boxNd 2 x.g (sumS ns zs) zs by rw [← HSS.out]; exact of_decide_eq_true HU.out.symm)
  have HQ := Lib.hid q1.ext
  have HSL := Lib.hid (And.intro h2 h3)
  clear heq
  go_wp2_with fail
  go_loopw [33, 10, 11] (fun j _ _ wr => Hid (Ext w2 wr) ∧ ∃ k : Nat, k ≤ 4 ∧ j = .int .i64 k ∧ Hid (∀ i : Nat, i < k → TabQ ns (lv + 1) (q + i * (4 : Int) ^ lv) (ith x.kids i))) (fun j _ _ _ => 4 - (intOf j).toNat)
  case atStart => exact ⟨HQ, 0, by omega, rfl, Lib.hid (fun i hi => by omega)⟩
  case round =>
    obtain ⟨hx, k, hk, rfl, hP⟩ := hrel
    rename World => w5
    by_cases hkm : k < 4
    · obtain ⟨z, hz⟩ : ∃ z, z = ith x.kids k := ⟨_, rfl⟩
      have c5 : w5.cell? ⟨w.heap.size + 1, 5 + k, none⟩ = some (.int .u64 z) := by rw [hz]; exact (HB2.out.to hx.out).kidAt (by omega)
      have hUz : U z := by rw [hz]; exact ok_kid HXO.out k
      have c0 : w5.cell? ⟨w.heap.size, 0, none⟩ = some (.slice A n c) := hx.out.cellOf i0
      have c1 : w5.cell? ⟨w.heap.size, 1, none⟩ = some (.slice B m d) := hx.out.cellOf i1
      have s0 := fun q : Later w5 => q.ext.cellOf c0
      have s1 := fun q : Later w5 => q.ext.cellOf c1
      obtain ⟨t, ht⟩ : ∃ t : Bool, t = true ↔ TabQ ns (lv + 1) (q + k * (4 : Int) ^ lv) z := by
        by_cases hh : TabQ ns (lv + 1) (q + k * (4 : Int) ^ lv) z
        · exact ⟨true, by simp [hh]⟩
        · exact ⟨false, by simp [hh]⟩
      have HTT := Lib.hid ht
      have HZZ := Lib.hid hz
      have hq4 : 0 ≤ q + k * (4 : Int) ^ lv ∧ q + k * (4 : Int) ^ lv < (4 : Int) ^ (lv + 1) := by
        have h1 := HQ0.out
        have h2 := HQ1.out
        have h3 := pw_pos lv
        rw [Int.pow_succ]
        generalize (4 : Int) ^ lv = P at *
        rcases (by omega : k = 0 ∨ k = 1 ∨ k = 2 ∨ k = 3) with rfl | rfl | rfl | rfl <;> constructor <;> omega
      have HCZ := Lib.hid (fun W (hW : Ext w5 W) => HCC.out z (q + k * (4 : Int) ^ lv) t W (X2.out.step (hx.out.step hW)) hUz hq4.1 hq4.2 ht)
      obtain ⟨P, hPP⟩ : ∃ P, P = (4 : Int) ^ lv := ⟨_, rfl⟩
      rw [← hPP] at HCZ
      have hqb := Lib.hid (show 0 ≤ q ∧ q < P by rw [hPP]; exact ⟨HQ0.out, HQ1.out⟩)
      have hX5 := hx
      have HRR := Lib.hid (And.intro s0 s1)
      clear hx hz ht hq4 s0 s1
      go_upto_region 7 with fail
      cases t with
      | false =>
        obtain rfl : b = false := by
          cases b with
          | false => rfl
          | true =>
            have h7 := (HBB.out.1 rfl).kids k hkm
            rw [← HZZ.out] at h7
            exact absurd (HTT.out.2 h7) (by simp)
        have HFIN := Lib.hid (show ∀ W, Ext w5 W → Ext w W from fun W hW => X2.out.step (hX5.out.step hW))
        clear HBB HTT
        rcases (by omega : lv = 0 ∨ lv = 1 ∨ lv = 2 ∨ lv = 3 ∨ lv = 4 ∨ lv = 5 ∨ lv = 6 ∨ lv = 7 ∨ lv = 8 ∨ lv = 9) with rfl | rfl | rfl | rfl | rfl | rfl | rfl | rfl | rfl | rfl
        · obtain ⟨q0, q1⟩ := hqb.out
          simp only [hPP] at q1 HCZ
          have q2 : q < 1 := q1
          have HCL := Lib.hid (show ∀ W, Ext w5 W → Calls Try.prog 37 #[.agg #[.slice A n c, .slice B m d], .int .u64 z, .int .i64 1, .int .i64 (q + (k : Int))] W fun e w' => e = .returned (.bool false) ∧ Ext W w' from fun W hW => by have h := HCZ.out W hW; rw [show q + (k : Int) * (4 : Int) ^ 0 = q + (k : Int) by rw [Int.pow_zero, Int.mul_one]] at h; exact h)
          clear q1 HCZ
          obtain ⟨s0, s1⟩ := HRR.out
          refine wp_region_later w5 (Ext.refl _) (by kernel_rfl) (by kernel_rfl) ?_
          repeat (go_big_quiet_step (first | (go_at_call 37; with_reducible exact later_call HCL.out)))
          refine wpQuiet_nil ?_
          rintro _ ⟨q7, rfl⟩
          clear s0 s1
          go_wp2_with fail
          go_ret
          exact ⟨rfl, HFIN.out _ q7.ext⟩
        · obtain ⟨q0, q1⟩ := hqb.out
          simp only [hPP] at q1 HCZ
          have q2 : q < 4 := q1
          have HCL := Lib.hid (show ∀ W, Ext w5 W → Calls Try.prog 37 #[.agg #[.slice A n c, .slice B m d], .int .u64 z, .int .i64 2, .int .i64 (q + (k : Int) * 4)] W fun e w' => e = .returned (.bool false) ∧ Ext W w' from HCZ.out)
          clear q1 HCZ
          obtain ⟨s0, s1⟩ := HRR.out
          refine wp_region_later w5 (Ext.refl _) (by kernel_rfl) (by kernel_rfl) ?_
          repeat (go_big_quiet_step (first | (go_at_call 37; with_reducible exact later_call HCL.out)))
          refine wpQuiet_nil ?_
          rintro _ ⟨q7, rfl⟩
          clear s0 s1
          go_wp2_with fail
          go_ret
          exact ⟨rfl, HFIN.out _ q7.ext⟩
        · obtain ⟨q0, q1⟩ := hqb.out
          simp only [hPP] at q1 HCZ
          have q2 : q < 16 := q1
          have HCL := Lib.hid (show ∀ W, Ext w5 W → Calls Try.prog 37 #[.agg #[.slice A n c, .slice B m d], .int .u64 z, .int .i64 3, .int .i64 (q + (k : Int) * 16)] W fun e w' => e = .returned (.bool false) ∧ Ext W w' from HCZ.out)
          clear q1 HCZ
          obtain ⟨s0, s1⟩ := HRR.out
          refine wp_region_later w5 (Ext.refl _) (by kernel_rfl) (by kernel_rfl) ?_
          repeat (go_big_quiet_step (first | (go_at_call 37; with_reducible exact later_call HCL.out)))
          refine wpQuiet_nil ?_
          rintro _ ⟨q7, rfl⟩
          clear s0 s1
          go_wp2_with fail
          go_ret
          exact ⟨rfl, HFIN.out _ q7.ext⟩
        · obtain ⟨q0, q1⟩ := hqb.out
          simp only [hPP] at q1 HCZ
          have q2 : q < 64 := q1
          have HCL := Lib.hid (show ∀ W, Ext w5 W → Calls Try.prog 37 #[.agg #[.slice A n c, .slice B m d], .int .u64 z, .int .i64 4, .int .i64 (q + (k : Int) * 64)] W fun e w' => e = .returned (.bool false) ∧ Ext W w' from HCZ.out)
          clear q1 HCZ
          obtain ⟨s0, s1⟩ := HRR.out
          refine wp_region_later w5 (Ext.refl _) (by kernel_rfl) (by kernel_rfl) ?_
          repeat (go_big_quiet_step (first | (go_at_call 37; with_reducible exact later_call HCL.out)))
          refine wpQuiet_nil ?_
          rintro _ ⟨q7, rfl⟩
          clear s0 s1
          go_wp2_with fail
          go_ret
          exact ⟨rfl, HFIN.out _ q7.ext⟩
        · obtain ⟨q0, q1⟩ := hqb.out
          simp only [hPP] at q1 HCZ
          have q2 : q < 256 := q1
          have HCL := Lib.hid (show ∀ W, Ext w5 W → Calls Try.prog 37 #[.agg #[.slice A n c, .slice B m d], .int .u64 z, .int .i64 5, .int .i64 (q + (k : Int) * 256)] W fun e w' => e = .returned (.bool false) ∧ Ext W w' from HCZ.out)
          clear q1 HCZ
          obtain ⟨s0, s1⟩ := HRR.out
          refine wp_region_later w5 (Ext.refl _) (by kernel_rfl) (by kernel_rfl) ?_
          repeat (go_big_quiet_step (first | (go_at_call 37; with_reducible exact later_call HCL.out)))
          refine wpQuiet_nil ?_
          rintro _ ⟨q7, rfl⟩
          clear s0 s1
          go_wp2_with fail
          go_ret
          exact ⟨rfl, HFIN.out _ q7.ext⟩
        · obtain ⟨q0, q1⟩ := hqb.out
          simp only [hPP] at q1 HCZ
          have q2 : q < 1024 := q1
          have HCL := Lib.hid (show ∀ W, Ext w5 W → Calls Try.prog 37 #[.agg #[.slice A n c, .slice B m d], .int .u64 z, .int .i64 6, .int .i64 (q + (k : Int) * 1024)] W fun e w' => e = .returned (.bool false) ∧ Ext W w' from HCZ.out)
          clear q1 HCZ
          obtain ⟨s0, s1⟩ := HRR.out
          refine wp_region_later w5 (Ext.refl _) (by kernel_rfl) (by kernel_rfl) ?_
          repeat (go_big_quiet_step (first | (go_at_call 37; with_reducible exact later_call HCL.out)))
          refine wpQuiet_nil ?_
          rintro _ ⟨q7, rfl⟩
          clear s0 s1
          go_wp2_with fail
          go_ret
          exact ⟨rfl, HFIN.out _ q7.ext⟩
        · obtain ⟨q0, q1⟩ := hqb.out
          simp only [hPP] at q1 HCZ
          have q2 : q < 4096 := q1
          have HCL := Lib.hid (show ∀ W, Ext w5 W → Calls Try.prog 37 #[.agg #[.slice A n c, .slice B m d], .int .u64 z, .int .i64 7, .int .i64 (q + (k : Int) * 4096)] W fun e w' => e = .returned (.bool false) ∧ Ext W w' from HCZ.out)
          clear q1 HCZ
          obtain ⟨s0, s1⟩ := HRR.out
          refine wp_region_later w5 (Ext.refl _) (by kernel_rfl) (by kernel_rfl) ?_
          repeat (go_big_quiet_step (first | (go_at_call 37; with_reducible exact later_call HCL.out)))
          refine wpQuiet_nil ?_
          rintro _ ⟨q7, rfl⟩
          clear s0 s1
          go_wp2_with fail
          go_ret
          exact ⟨rfl, HFIN.out _ q7.ext⟩
        · obtain ⟨q0, q1⟩ := hqb.out
          simp only [hPP] at q1 HCZ
          have q2 : q < 16384 := q1
          have HCL := Lib.hid (show ∀ W, Ext w5 W → Calls Try.prog 37 #[.agg #[.slice A n c, .slice B m d], .int .u64 z, .int .i64 8, .int .i64 (q + (k : Int) * 16384)] W fun e w' => e = .returned (.bool false) ∧ Ext W w' from HCZ.out)
          clear q1 HCZ
          obtain ⟨s0, s1⟩ := HRR.out
          refine wp_region_later w5 (Ext.refl _) (by kernel_rfl) (by kernel_rfl) ?_
          repeat (go_big_quiet_step (first | (go_at_call 37; with_reducible exact later_call HCL.out)))
          refine wpQuiet_nil ?_
          rintro _ ⟨q7, rfl⟩
          clear s0 s1
          go_wp2_with fail
          go_ret
          exact ⟨rfl, HFIN.out _ q7.ext⟩
        · obtain ⟨q0, q1⟩ := hqb.out
          simp only [hPP] at q1 HCZ
          have q2 : q < 65536 := q1
          have HCL := Lib.hid (show ∀ W, Ext w5 W → Calls Try.prog 37 #[.agg #[.slice A n c, .slice B m d], .int .u64 z, .int .i64 9, .int .i64 (q + (k : Int) * 65536)] W fun e w' => e = .returned (.bool false) ∧ Ext W w' from HCZ.out)
          clear q1 HCZ
          obtain ⟨s0, s1⟩ := HRR.out
          refine wp_region_later w5 (Ext.refl _) (by kernel_rfl) (by kernel_rfl) ?_
          repeat (go_big_quiet_step (first | (go_at_call 37; with_reducible exact later_call HCL.out)))
          refine wpQuiet_nil ?_
          rintro _ ⟨q7, rfl⟩
          clear s0 s1
          go_wp2_with fail
          go_ret
          exact ⟨rfl, HFIN.out _ q7.ext⟩
        · obtain ⟨q0, q1⟩ := hqb.out
          simp only [hPP] at q1 HCZ
          have q2 : q < 262144 := q1
          have HCL := Lib.hid (show ∀ W, Ext w5 W → Calls Try.prog 37 #[.agg #[.slice A n c, .slice B m d], .int .u64 z, .int .i64 10, .int .i64 (q + (k : Int) * 262144)] W fun e w' => e = .returned (.bool false) ∧ Ext W w' from HCZ.out)
          clear q1 HCZ
          obtain ⟨s0, s1⟩ := HRR.out
          refine wp_region_later w5 (Ext.refl _) (by kernel_rfl) (by kernel_rfl) ?_
          repeat (go_big_quiet_step (first | (go_at_call 37; with_reducible exact later_call HCL.out)))
          refine wpQuiet_nil ?_
          rintro _ ⟨q7, rfl⟩
          clear s0 s1
          go_wp2_with fail
          go_ret
          exact ⟨rfl, HFIN.out _ q7.ext⟩
      | true =>
        have HFIN := Lib.hid (show ∀ i : Nat, i < k + 1 → TabQ ns (lv + 1) (q + i * (4 : Int) ^ lv) (ith x.kids i) from fun i hi => by
          rcases (by omega : i < k ∨ i = k) with h | rfl
          · exact hP.out i h
          · rw [← HZZ.out]
            have := HTT.out
            simpa using this)
        clear HBB HTT
        rcases (by omega : lv = 0 ∨ lv = 1 ∨ lv = 2 ∨ lv = 3 ∨ lv = 4 ∨ lv = 5 ∨ lv = 6 ∨ lv = 7 ∨ lv = 8 ∨ lv = 9) with rfl | rfl | rfl | rfl | rfl | rfl | rfl | rfl | rfl | rfl
        · obtain ⟨q0, q1⟩ := hqb.out
          simp only [hPP] at q1 HCZ
          have q2 : q < 1 := q1
          have HCL := Lib.hid (show ∀ W, Ext w5 W → Calls Try.prog 37 #[.agg #[.slice A n c, .slice B m d], .int .u64 z, .int .i64 1, .int .i64 (q + (k : Int))] W fun e w' => e = .returned (.bool true) ∧ Ext W w' from fun W hW => by have h := HCZ.out W hW; rw [show q + (k : Int) * (4 : Int) ^ 0 = q + (k : Int) by rw [Int.pow_zero, Int.mul_one]] at h; exact h)
          clear q1 HCZ
          obtain ⟨s0, s1⟩ := HRR.out
          refine wp_region_later w5 (Ext.refl _) (by kernel_rfl) (by kernel_rfl) ?_
          repeat (go_big_quiet_step (first | (go_at_call 37; with_reducible exact later_call HCL.out)))
          refine wpQuiet_nil ?_
          rintro _ ⟨q7, rfl⟩
          clear s0 s1
          go_wp2_with fail
          refine ⟨?_, by simp [intOf]; omega⟩
          first
            | exact ⟨Lib.hid (hX5.out.step q7.ext), k + 1, by omega, rfl, HFIN⟩
            | (repeat apply Exists.intro; exact ⟨⟨Lib.hid (hX5.out.step q7.ext), k + 1, by omega, rfl, HFIN⟩, rfl, rfl, rfl, rfl⟩)
        · obtain ⟨q0, q1⟩ := hqb.out
          simp only [hPP] at q1 HCZ
          have q2 : q < 4 := q1
          have HCL := Lib.hid (show ∀ W, Ext w5 W → Calls Try.prog 37 #[.agg #[.slice A n c, .slice B m d], .int .u64 z, .int .i64 2, .int .i64 (q + (k : Int) * 4)] W fun e w' => e = .returned (.bool true) ∧ Ext W w' from HCZ.out)
          clear q1 HCZ
          obtain ⟨s0, s1⟩ := HRR.out
          refine wp_region_later w5 (Ext.refl _) (by kernel_rfl) (by kernel_rfl) ?_
          repeat (go_big_quiet_step (first | (go_at_call 37; with_reducible exact later_call HCL.out)))
          refine wpQuiet_nil ?_
          rintro _ ⟨q7, rfl⟩
          clear s0 s1
          go_wp2_with fail
          refine ⟨?_, by simp [intOf]; omega⟩
          first
            | exact ⟨Lib.hid (hX5.out.step q7.ext), k + 1, by omega, rfl, HFIN⟩
            | (repeat apply Exists.intro; exact ⟨⟨Lib.hid (hX5.out.step q7.ext), k + 1, by omega, rfl, HFIN⟩, rfl, rfl, rfl, rfl⟩)
        · obtain ⟨q0, q1⟩ := hqb.out
          simp only [hPP] at q1 HCZ
          have q2 : q < 16 := q1
          have HCL := Lib.hid (show ∀ W, Ext w5 W → Calls Try.prog 37 #[.agg #[.slice A n c, .slice B m d], .int .u64 z, .int .i64 3, .int .i64 (q + (k : Int) * 16)] W fun e w' => e = .returned (.bool true) ∧ Ext W w' from HCZ.out)
          clear q1 HCZ
          obtain ⟨s0, s1⟩ := HRR.out
          refine wp_region_later w5 (Ext.refl _) (by kernel_rfl) (by kernel_rfl) ?_
          repeat (go_big_quiet_step (first | (go_at_call 37; with_reducible exact later_call HCL.out)))
          refine wpQuiet_nil ?_
          rintro _ ⟨q7, rfl⟩
          clear s0 s1
          go_wp2_with fail
          refine ⟨?_, by simp [intOf]; omega⟩
          first
            | exact ⟨Lib.hid (hX5.out.step q7.ext), k + 1, by omega, rfl, HFIN⟩
            | (repeat apply Exists.intro; exact ⟨⟨Lib.hid (hX5.out.step q7.ext), k + 1, by omega, rfl, HFIN⟩, rfl, rfl, rfl, rfl⟩)
        · obtain ⟨q0, q1⟩ := hqb.out
          simp only [hPP] at q1 HCZ
          have q2 : q < 64 := q1
          have HCL := Lib.hid (show ∀ W, Ext w5 W → Calls Try.prog 37 #[.agg #[.slice A n c, .slice B m d], .int .u64 z, .int .i64 4, .int .i64 (q + (k : Int) * 64)] W fun e w' => e = .returned (.bool true) ∧ Ext W w' from HCZ.out)
          clear q1 HCZ
          obtain ⟨s0, s1⟩ := HRR.out
          refine wp_region_later w5 (Ext.refl _) (by kernel_rfl) (by kernel_rfl) ?_
          repeat (go_big_quiet_step (first | (go_at_call 37; with_reducible exact later_call HCL.out)))
          refine wpQuiet_nil ?_
          rintro _ ⟨q7, rfl⟩
          clear s0 s1
          go_wp2_with fail
          refine ⟨?_, by simp [intOf]; omega⟩
          first
            | exact ⟨Lib.hid (hX5.out.step q7.ext), k + 1, by omega, rfl, HFIN⟩
            | (repeat apply Exists.intro; exact ⟨⟨Lib.hid (hX5.out.step q7.ext), k + 1, by omega, rfl, HFIN⟩, rfl, rfl, rfl, rfl⟩)
        · obtain ⟨q0, q1⟩ := hqb.out
          simp only [hPP] at q1 HCZ
          have q2 : q < 256 := q1
          have HCL := Lib.hid (show ∀ W, Ext w5 W → Calls Try.prog 37 #[.agg #[.slice A n c, .slice B m d], .int .u64 z, .int .i64 5, .int .i64 (q + (k : Int) * 256)] W fun e w' => e = .returned (.bool true) ∧ Ext W w' from HCZ.out)
          clear q1 HCZ
          obtain ⟨s0, s1⟩ := HRR.out
          refine wp_region_later w5 (Ext.refl _) (by kernel_rfl) (by kernel_rfl) ?_
          repeat (go_big_quiet_step (first | (go_at_call 37; with_reducible exact later_call HCL.out)))
          refine wpQuiet_nil ?_
          rintro _ ⟨q7, rfl⟩
          clear s0 s1
          go_wp2_with fail
          refine ⟨?_, by simp [intOf]; omega⟩
          first
            | exact ⟨Lib.hid (hX5.out.step q7.ext), k + 1, by omega, rfl, HFIN⟩
            | (repeat apply Exists.intro; exact ⟨⟨Lib.hid (hX5.out.step q7.ext), k + 1, by omega, rfl, HFIN⟩, rfl, rfl, rfl, rfl⟩)
        · obtain ⟨q0, q1⟩ := hqb.out
          simp only [hPP] at q1 HCZ
          have q2 : q < 1024 := q1
          have HCL := Lib.hid (show ∀ W, Ext w5 W → Calls Try.prog 37 #[.agg #[.slice A n c, .slice B m d], .int .u64 z, .int .i64 6, .int .i64 (q + (k : Int) * 1024)] W fun e w' => e = .returned (.bool true) ∧ Ext W w' from HCZ.out)
          clear q1 HCZ
          obtain ⟨s0, s1⟩ := HRR.out
          refine wp_region_later w5 (Ext.refl _) (by kernel_rfl) (by kernel_rfl) ?_
          repeat (go_big_quiet_step (first | (go_at_call 37; with_reducible exact later_call HCL.out)))
          refine wpQuiet_nil ?_
          rintro _ ⟨q7, rfl⟩
          clear s0 s1
          go_wp2_with fail
          refine ⟨?_, by simp [intOf]; omega⟩
          first
            | exact ⟨Lib.hid (hX5.out.step q7.ext), k + 1, by omega, rfl, HFIN⟩
            | (repeat apply Exists.intro; exact ⟨⟨Lib.hid (hX5.out.step q7.ext), k + 1, by omega, rfl, HFIN⟩, rfl, rfl, rfl, rfl⟩)
        · obtain ⟨q0, q1⟩ := hqb.out
          simp only [hPP] at q1 HCZ
          have q2 : q < 4096 := q1
          have HCL := Lib.hid (show ∀ W, Ext w5 W → Calls Try.prog 37 #[.agg #[.slice A n c, .slice B m d], .int .u64 z, .int .i64 7, .int .i64 (q + (k : Int) * 4096)] W fun e w' => e = .returned (.bool true) ∧ Ext W w' from HCZ.out)
          clear q1 HCZ
          obtain ⟨s0, s1⟩ := HRR.out
          refine wp_region_later w5 (Ext.refl _) (by kernel_rfl) (by kernel_rfl) ?_
          repeat (go_big_quiet_step (first | (go_at_call 37; with_reducible exact later_call HCL.out)))
          refine wpQuiet_nil ?_
          rintro _ ⟨q7, rfl⟩
          clear s0 s1
          go_wp2_with fail
          refine ⟨?_, by simp [intOf]; omega⟩
          first
            | exact ⟨Lib.hid (hX5.out.step q7.ext), k + 1, by omega, rfl, HFIN⟩
            | (repeat apply Exists.intro; exact ⟨⟨Lib.hid (hX5.out.step q7.ext), k + 1, by omega, rfl, HFIN⟩, rfl, rfl, rfl, rfl⟩)
        · obtain ⟨q0, q1⟩ := hqb.out
          simp only [hPP] at q1 HCZ
          have q2 : q < 16384 := q1
          have HCL := Lib.hid (show ∀ W, Ext w5 W → Calls Try.prog 37 #[.agg #[.slice A n c, .slice B m d], .int .u64 z, .int .i64 8, .int .i64 (q + (k : Int) * 16384)] W fun e w' => e = .returned (.bool true) ∧ Ext W w' from HCZ.out)
          clear q1 HCZ
          obtain ⟨s0, s1⟩ := HRR.out
          refine wp_region_later w5 (Ext.refl _) (by kernel_rfl) (by kernel_rfl) ?_
          repeat (go_big_quiet_step (first | (go_at_call 37; with_reducible exact later_call HCL.out)))
          refine wpQuiet_nil ?_
          rintro _ ⟨q7, rfl⟩
          clear s0 s1
          go_wp2_with fail
          refine ⟨?_, by simp [intOf]; omega⟩
          first
            | exact ⟨Lib.hid (hX5.out.step q7.ext), k + 1, by omega, rfl, HFIN⟩
            | (repeat apply Exists.intro; exact ⟨⟨Lib.hid (hX5.out.step q7.ext), k + 1, by omega, rfl, HFIN⟩, rfl, rfl, rfl, rfl⟩)
        · obtain ⟨q0, q1⟩ := hqb.out
          simp only [hPP] at q1 HCZ
          have q2 : q < 65536 := q1
          have HCL := Lib.hid (show ∀ W, Ext w5 W → Calls Try.prog 37 #[.agg #[.slice A n c, .slice B m d], .int .u64 z, .int .i64 9, .int .i64 (q + (k : Int) * 65536)] W fun e w' => e = .returned (.bool true) ∧ Ext W w' from HCZ.out)
          clear q1 HCZ
          obtain ⟨s0, s1⟩ := HRR.out
          refine wp_region_later w5 (Ext.refl _) (by kernel_rfl) (by kernel_rfl) ?_
          repeat (go_big_quiet_step (first | (go_at_call 37; with_reducible exact later_call HCL.out)))
          refine wpQuiet_nil ?_
          rintro _ ⟨q7, rfl⟩
          clear s0 s1
          go_wp2_with fail
          refine ⟨?_, by simp [intOf]; omega⟩
          first
            | exact ⟨Lib.hid (hX5.out.step q7.ext), k + 1, by omega, rfl, HFIN⟩
            | (repeat apply Exists.intro; exact ⟨⟨Lib.hid (hX5.out.step q7.ext), k + 1, by omega, rfl, HFIN⟩, rfl, rfl, rfl, rfl⟩)
        · obtain ⟨q0, q1⟩ := hqb.out
          simp only [hPP] at q1 HCZ
          have q2 : q < 262144 := q1
          have HCL := Lib.hid (show ∀ W, Ext w5 W → Calls Try.prog 37 #[.agg #[.slice A n c, .slice B m d], .int .u64 z, .int .i64 10, .int .i64 (q + (k : Int) * 262144)] W fun e w' => e = .returned (.bool true) ∧ Ext W w' from HCZ.out)
          clear q1 HCZ
          obtain ⟨s0, s1⟩ := HRR.out
          refine wp_region_later w5 (Ext.refl _) (by kernel_rfl) (by kernel_rfl) ?_
          repeat (go_big_quiet_step (first | (go_at_call 37; with_reducible exact later_call HCL.out)))
          refine wpQuiet_nil ?_
          rintro _ ⟨q7, rfl⟩
          clear s0 s1
          go_wp2_with fail
          refine ⟨?_, by simp [intOf]; omega⟩
          first
            | exact ⟨Lib.hid (hX5.out.step q7.ext), k + 1, by omega, rfl, HFIN⟩
            | (repeat apply Exists.intro; exact ⟨⟨Lib.hid (hX5.out.step q7.ext), k + 1, by omega, rfl, HFIN⟩, rfl, rfl, rfl, rfl⟩)
    · obtain rfl : k = 4 := by omega
      obtain rfl : b = true := HBB.out.2 ⟨by rw [← HS.out]; exact HSL.out.1, by rw [← HS.out]; exact HSL.out.2, by rw [← HZ.out]; exact HIS.out, fun i hi => hP.out i hi⟩
      go_wp2_with fail
      go_ret
      exact ⟨rfl, X2.out.step hx.out⟩

end Go.Proofs.Ytfoifcbaadnigaa
