/-
  Contract: whether a reference is the map of a row, as the document tells it (Is).
-/
import Derived.Test.YthgaogbpkedjcaaGK
import Derived.Test.YthgaogbpkedjcaaGG
set_option linter.unusedVariables false
set_option linter.unusedSimpArgs false
namespace Go.Proofs.Ythgaogbpkedjcaa
open Go.RowKit

theorem RdI.drop {w : World} {ad : Addr} {n : Nat} {a b : Row} {j : Nat} (h : RdI w (some ad) n (a ++ b)) (hj : a.length = j) : RdI w (some (ad.add (j * 2))) (n - j) b := by
  have hl := h.len
  refine ⟨by rw [flat_length itc_length]; simp at hl; congr 1; omega, fun i u hu => ⟨_, rfl, ?_⟩⟩
  rw [addr_add]
  refine h.cells (j * 2 + i) u ?_
  rw [← flat_append, List.getElem?_append_right (by rw [flat_length itc_length, hj]; omega), flat_length itc_length, hj]
  rw [show j * 2 + i - j * 2 = i by omega]
  exact hu

set_option maxHeartbeats 6400000 in
set_option maxRecDepth 100000 in
theorem is_is (A B : Option Addr) (n c m' d : Nat) (ns : List Nd) (hok : ∀ x ∈ ns, x.Ok) : ∀ (m : Nat) (l : Row) (r : Int) (L : Option Addr) (cL : Nat) (w : World) (b : Bool), l.length = m → m ≤ 1000 → m ≤ cL → cL ≤ maxLen → RdI w L m l → Srt l → U r → Rd w 16 A n (flat Nd.cells ns) →
    (b = true ↔ IsP ns r l) → Calls Try.prog 31 #[.agg #[.slice A n c, .slice B m' d], .int .u64 r, .slice L m cL] w fun e w' => e = .returned (.bool b) ∧ Ext w w' := by
  intro m
  induction m using Nat.strongRecOn with
  | _ m ih =>
    intro l r L cL w b hlm hm hmc hcL hL hs hU h hb
    obtain ⟨w1, hw1⟩ : ∃ w1, w1 = w.alloc (.cells #[.slice A n c, .slice B m' d] 25) := ⟨_, rfl⟩
    obtain ⟨B1, hx1, hs1⟩ := box_made hw1
    have HT := Lib.hid (top_is L m cL l w1 (hL.to hx1) hm hs)
    have H1 := Lib.hid hw1
    have X1 := Lib.hid hx1
    have HB1 := Lib.hid B1
    by_cases hnil : l = []
    · subst hnil
      have hb' := hb.trans isP_nil
      have HB := Lib.hid (show b = (r == 0) by rw [Bool.eq_iff_iff, hb']; simp)
      clear hw1 hx1 hs1 B1 ih hlm hmc hcL hL hs h hb hb' hm
      go_enter Try.func31, Try.ntmps31
      go_wp2_with fail
      rw [← H1.out]
      refine HT.out.mono ?_; rintro e w2 ⟨hh, hx2⟩
      obtain rfl : e = .returned (.int .i64 (-1)) := by
        rcases hh with ⟨_, h⟩ | ⟨a, k, v, b', h, _⟩
        · exact h
        · simp at h
      clear hh
      go_wp2_with fail
      go_ret
      exact ⟨by rw [HB.out]; rfl, X1.out.step hx2⟩
    · have HNIL := Lib.hid hnil
      have k0 : w1.cell? ⟨w.heap.size, 0, none⟩ = some (.slice A n c) := B1.cell 0
      have k1 : w1.cell? ⟨w.heap.size, 1, none⟩ = some (.slice B m' d) := B1.cell 1
      have HIH := Lib.hid ih
      have HLM := Lib.hid hlm
      have HL := Lib.hid hL
      have HS := Lib.hid hs
      have HA := Lib.hid h
      have HBB := Lib.hid hb
      have HOK := Lib.hid hok
      have HM := Lib.hid hm
      have HMC := Lib.hid hmc
      have HCL := Lib.hid hcL
      clear hw1 hx1 hs1 B1 ih hlm hL hs h hb hnil hok hm hmc hcL
      go_enter Try.func31, Try.ntmps31
      go_wp2_with fail
      rw [← H1.out]
      refine HT.out.mono ?_; rintro e w2 ⟨hh, hx2⟩
      rcases hh with ⟨h, _⟩ | ⟨a, k, v, bb, hl, ha, hbb, rfl⟩
      · exact absurd h HNIL.out
      obtain ⟨j, hj⟩ : ∃ j, j = a.length := ⟨_, rfl⟩
      rw [← hj]
      have HJ := Lib.hid hj
      have HLL := Lib.hid hl
      have HBa := Lib.hid ha
      have HBb := Lib.hid hbb
      have k0 : w2.cell? ⟨w.heap.size, 0, none⟩ = some (.slice A n c) := (HB1.out.to hx2).cell 0
      have k1 : w2.cell? ⟨w.heap.size, 1, none⟩ = some (.slice B m' d) := (HB1.out.to hx2).cell 1
      have X2 := Lib.hid (X1.out.step hx2)
      have hj0 : ¬ ((j : Int) < 0) := by omega
      have hsp := Lib.hid (Srt.mid.1 (HLL.out ▸ HS.out))
      have hlen := Lib.hid (show m = j + 1 + bb.length by rw [← HLM.out, HLL.out, HJ.out]; simp; omega)
      have HBA2 := Lib.hid (HB1.out.to hx2)
      clear hl ha hbb hj hx2
      rcases got_or ns r with ⟨p, x, hg⟩ | hg
      · have HAt := Lib.hid (at_yes A n c m' d B ns r p x w2 hU.1 hU.2 (HA.out.to X2.out) hg)
        obtain ⟨ad, rfl, hnd⟩ := NdAt.of (HA.out.to X2.out) hg.at_
        have HND := Lib.hid hnd
        have hl : ns.length = n := by
          have := HA.out.1
          rw [flat_length Nd.cells_length] at this
          omega
        have hpn : p < n := by have := (List.getElem?_eq_some_iff.1 hg.at_).1; omega
        have hnp : ¬ n ≤ p := by omega
        have hp0 : ¬ ((p : Int) < 0) := by omega
        have HOX := Lib.hid (HOK.out x (List.mem_of_getElem? hg.at_))
        have HG := Lib.hid hg
        clear hnd hl hg
        go_wp2_with fail
        refine HAt.out.mono ?_; rintro e w3 ⟨rfl, hx3⟩
        have k0 : w3.cell? ⟨w.heap.size, 0, none⟩ = some (.slice (some ad) n c) := (HBA2.out.to hx3).cell 0
        have k1 : w3.cell? ⟨w.heap.size, 1, none⟩ = some (.slice B m' d) := (HBA2.out.to hx3).cell 1
        have hn3 := HND.out.to hx3
        obtain ⟨w4, hw4⟩ : ∃ w4, w4 = w3.alloc (.cells x.arr 66) := ⟨_, rfl⟩
        obtain ⟨B4, hx4, hs4⟩ := box_made hw4
        have H4 := Lib.hid hw4
        have HB4 := Lib.hid B4
        have HBA4 := Lib.hid (HBA2.out.to (hx3.step hx4))
        have X4 := Lib.hid (X2.out.step (hx3.step hx4))
        have HLT := Lib.hid (show w.heap.size < w3.heap.size ∧ w4.heap.size = w3.heap.size + 1 from ⟨Nat.lt_of_lt_of_le HBA2.out.lt hx3.size, hs4⟩)
        obtain ⟨adL, rfl, hit⟩ := HL.out.item (k := j) (x := (k, v)) (by rw [HLL.out, HJ.out]; simp)
        have HIT := Lib.hid (hit.to X4.out)
        have hjm : j < m := by have := hlen.out; omega
        have hmj : ¬ m ≤ j := by omega
        obtain ⟨gg, hgg⟩ : ∃ gg, gg = x.g := ⟨_, rfl⟩
        have HGG := Lib.hid hgg
        clear hw4 B4 hx4 hs4 hx3 hit hgg
        go_wp2_with (first
          | (refine wpList_load_nd (by rfl) _ (by rfl) _ (by rfl) x hn3 ?_)
          | (refine wpList_store_nd (W := w3) (by rfl) _ _ (by rfl) (by rfl) x (by rfl) _ (by rfl) (by rfl) ?_
             rw [← H4.out]))
        clear k0 k1 hn3
        have s0 := HIT.out.1
        have s1 := HIT.out.2
        have s2 : w4.cell? ⟨w3.heap.size, 1, none⟩ = some (.int .i64 gg) := by rw [HGG.out]; exact (HB4.out.cell 1).trans x.a1
        simp only at s0 s1
        simp only [Act.put]
        have e40 : (0 : Int) ≤ (j : Int) := by omega
        have e41 : (j : Int) < (m : Int) := by omega
        go_region_held3 (fun W => W.cell? (adL.add (j * 2)) = some (.int .i64 k) ∧ W.cell? { block := (adL.add (j * 2)).block, off := (adL.add (j * 2)).off + 1 } = some (.int .i64 v) ∧ W.cell? ⟨w3.heap.size, 1, none⟩ = some (.int .i64 gg)) (first | exact ⟨s0, s1, s2⟩ | exact ⟨((Ext.refl w4).drew.new _).cellOf s0, ((Ext.refl w4).drew.new _).cellOf s1, ((Ext.refl w4).drew.new _).cellOf s2⟩ | go_keep) (fail)
        clear s0 s1 s2
        obtain ⟨w5, hw5⟩ : ∃ w5, w5 = (w4.alloc (.cells #[.int .i64 1, .int .i64 gg, .int .i64 k, .int .i64 v, .int .i64 m, .int .u64 0, .int .u64 0, .int .u64 0, .int .u64 0, .int .u64 0, .int .u64 0, .int .u64 0, .int .u64 0, .int .u64 0, .int .i64 0, .int .i64 0] 66)).drew := ⟨_, rfl⟩
        have B5 : Bx w5 w4.heap.size (trNd gg k v m 0 0).arr := by rw [hw5]; exact (Bx.new w4 #[.int .i64 1, .int .i64 gg, .int .i64 k, .int .i64 v, .int .i64 m, .int .u64 0, .int .u64 0, .int .u64 0, .int .u64 0, .int .u64 0, .int .u64 0, .int .u64 0, .int .u64 0, .int .u64 0, .int .i64 0, .int .i64 0] 66).drew
        have hx5 : Ext w4 w5 := by rw [hw5]; exact ((Ext.refl w4).new _).drew
        have H5 := Lib.hid hw5
        have HB5n := Lib.hid (HB4.out.to hx5)
        have HBA5 := Lib.hid (HBA4.out.to hx5)
        have X5 := Lib.hid (X4.out.step hx5)
        have hne : w4.heap.size ≠ w3.heap.size := by have := HLT.out.2; omega
        have hne0 : w4.heap.size ≠ w.heap.size := by have := HLT.out; omega
        have hge0 : w.heap.size ≤ w4.heap.size := by have := HLT.out; omega
        have HNE := Lib.hid (And.intro hne (And.intro hne0 hge0))
        have c5 : w5.cell? ⟨w3.heap.size, 5, none⟩ = some (.int .u64 x.r0) := (HB5n.out.cell 5).trans x.a5
        rw [← hw5]
        clear hw5 hx5 hne hne0 hge0
        go_wp2_with (first
          | (refine wpList_store_cell (by rfl) 27 (.tmp 46) (.tmp 44) (by rfl) w4.heap.size 5 (by rfl) (.int .u64 x.r0) (by rfl) rfl (by kernel_rfl) _ B5 (by rw [Nd.arr_size]; omega) ?_
             intro w6 B6 O6
             have HB6n := Lib.hid (O6.bx HB5n.out HNE.out.1.symm)
             have HBA6 := Lib.hid (O6.bx HBA5.out HNE.out.2.1.symm)
             have X6 := Lib.hid (O6.new X5.out HNE.out.2.2)
             have HB6 := Lib.hid B6
             have c6 : w6.cell? ⟨w3.heap.size, 6, none⟩ = some (.int .u64 x.r1) := (HB6n.out.cell 6).trans x.a6
             clear O6 B6)
          | (refine wpList_store_cell (by rfl) 27 (.tmp 51) (.tmp 49) (by rfl) w4.heap.size 6 (by rfl) (.int .u64 x.r1) (by rfl) rfl (by kernel_rfl) _ HB6.out (by rw [Array.size_setIfInBounds, Nd.arr_size]; omega) ?_
             intro w7 B7 O7))
        clear c5 c6
        have B7y : Bx w7 w4.heap.size (trNd gg k v m x.r0 x.r1).arr := B7
        have B7n := O7.bx HB6n.out HNE.out.1.symm
        have B7a := O7.bx HBA6.out HNE.out.2.1.symm
        have X7 := Lib.hid (O7.new X6.out HNE.out.2.2)
        obtain ⟨y, hy⟩ : ∃ y, y = trNd gg k v m x.r0 x.r1 := ⟨_, rfl⟩
        rw [← hy] at B7y
        obtain ⟨b1, hb1⟩ : ∃ b1, b1 = decide (x = y) := ⟨_, rfl⟩
        have heq : ∀ W, (Op.equalIn 10000 66 (.agg x.arr) (.agg y.arr)).run Try.prog W = .ok b1 W := fun W => by rw [hb1]; exact nd_eq x y W
        have nx := B7n.node
        have ny := B7y.node
        have z0 := fun q : Later w7 => (B7a.to q.ext).cell 0
        have z1 := fun q : Later w7 => (B7a.to q.ext).cell 1
        have z5 := fun q : Later w7 => ((B7n.to q.ext).cell 5).trans x.a5
        have z6 := fun q : Later w7 => ((B7n.to q.ext).cell 6).trans x.a6
        simp only [List.getElem?_toArray, List.getElem?_cons_zero, List.getElem?_cons_succ] at z0 z1
        have Z := Lib.hid (And.intro z0 (And.intro z1 (And.intro z5 z6)))
        have HIFF := Lib.hid (show b = true ↔ b1 = true ∧ IsP ns x.r0 a ∧ IsP ns x.r1 bb by
          have h1 := HBB.out
          rw [HLL.out, isP_mid (HLL.out ▸ HS.out) HBa.out HBb.out HG.out] at h1
          rw [h1, hb1, decide_eq_true_eq, hy, HGG.out, ← HLL.out, HLM.out])
        clear B7 B7y B7n B7a O7 hy hb1 z0 z1 z5 z6
        simp only [Act.put]
        go_wp2_with fail
        obtain ⟨z0, z1, z5, z6⟩ := Z.out
        cases b1
        · obtain rfl : b = false := by
            cases b
            · rfl
            · exact absurd (HIFF.out.1 rfl).1 (by simp)
          clear HIFF
          refine wp_region_later w7 (Ext.refl _) (by kernel_rfl) (by kernel_rfl) ?_
          repeat (first
            | go_big_quiet_step (fail)
            | (refine wpQuiet_load_node ?_ (.tmp 9) (by rfl) _ ?_ x nx ?_
               · rfl
               · rfl
               simp only [Act.put, List.setIfInBounds_toArray, List.set_cons_zero, List.set_cons_succ])
            | (refine wpQuiet_load_node ?_ (.tmp 10) (by rfl) _ ?_ y ny ?_
               · rfl
               · rfl
               simp only [Act.put, List.setIfInBounds_toArray, List.set_cons_zero, List.set_cons_succ]))
          refine wpQuiet_nil ?_
          rintro _ ⟨q, rfl⟩
          clear z0 z1 z5 z6
          go_wp2_with fail
          go_ret
          exact ⟨rfl, X7.out.step q.ext⟩
        · obtain ⟨b2, hb2⟩ : ∃ b : Bool, b = true ↔ IsP ns x.r0 a := by
            by_cases hq : IsP ns x.r0 a
            · exact ⟨true, by simp [hq]⟩
            · exact ⟨false, by simp [hq]⟩
          obtain ⟨b3, hb3⟩ : ∃ b : Bool, b = true ↔ IsP ns x.r1 bb := by
            by_cases hq : IsP ns x.r1 bb
            · exact ⟨true, by simp [hq]⟩
            · exact ⟨false, by simp [hq]⟩
          have HB := Lib.hid (show b = (b2 && b3) by rw [Bool.eq_iff_iff, HIFF.out, Bool.and_eq_true, hb2, hb3]; simp)
          have hra : RdI w (some adL) j a := by
            have := HL.out.take (k := j) (by omega)
            rw [flat_take itc_length, HLL.out, HJ.out] at this
            rw [HJ.out]
            simpa using this
          have HC2 := Lib.hid (fun W (hW : Ext w7 W) => HIH.out j hjm a x.r0 (some adL) cL W b2 HJ.out.symm (by have := HM.out; omega) (by have := HMC.out; omega) HCL.out (hra.to (X7.out.step hW)) hsp.out.1 (HOX.out x.r0 (by simp [Nd.kids])) (HA.out.to (X7.out.step hW)) hb2)
          have hjc : j ≤ cL := by have := HMC.out; omega
          have hcj : ¬ cL < j := by omega
          have hjc1 : j + 1 ≤ cL := by have := HMC.out; omega
          have hmj1 : ¬ m < j + 1 := by omega
          have hjm1 : j + 1 ≤ m := by omega
          have hmc := HMC.out
          have hm1000 := HM.out
          have hcL := HCL.out
          simp only [maxLen] at hcL
          have e1 : IntKind.i64.wrap ((j : Int) + 1) = ((j + 1 : Nat) : Int) := by rw [IntKind.wrap_i64]; omega
          clear HIFF hb2 hra
          cases b2
          · obtain rfl : b = false := by have := HB.out; simpa using this
            clear hb3 HB
            refine wp_region_later w7 (Ext.refl _) (by kernel_rfl) (by kernel_rfl) ?_
            repeat (first
              | go_big_quiet_step (first | (go_at_call 31; exact later_call (fun W hW => HC2.out W hW)))
              | (refine wpQuiet_load_node ?_ (.tmp 9) (by rfl) _ ?_ x nx ?_
                 · rfl
                 · rfl
                 simp only [Act.put, List.setIfInBounds_toArray, List.set_cons_zero, List.set_cons_succ])
              | (refine wpQuiet_load_node ?_ (.tmp 10) (by rfl) _ ?_ y ny ?_
                 · rfl
                 · rfl
                 simp only [Act.put, List.setIfInBounds_toArray, List.set_cons_zero, List.set_cons_succ]))
            refine wpQuiet_nil ?_
            rintro _ ⟨q, rfl⟩
            clear z0 z1 z5 z6 e1
            go_wp2_with fail
            go_ret
            exact ⟨rfl, X7.out.step q.ext⟩
          · obtain rfl : b = b3 := by have := HB.out; simpa using this
            clear HB
            by_cases hcap : cL = j + 1
            · obtain rfl : bb = [] := List.eq_nil_of_length_eq_zero (by have := hlen.out; omega)
              subst hcap
              obtain rfl : m = j + 1 := by omega
              have HC3 := Lib.hid (fun W (hW : Ext w7 W) => HIH.out 0 (by omega) [] x.r1 (some adL) 0 W b (by simp) (by omega) (by omega) (by unfold maxLen; omega) (Rd.nil _ _ _) (by simp [Srt]) (HOX.out x.r1 (by simp [Nd.kids])) (HA.out.to (X7.out.step hW)) hb3)
              clear hb3
              refine wp_region_later w7 (Ext.refl _) (by kernel_rfl) (by kernel_rfl) ?_
              repeat (first
                | go_big_quiet_step (first | (go_at_call 31; with_reducible exact later_call HC2.out) | (go_at_call 31; with_reducible exact later_call HC3.out))
                | (refine wpQuiet_load_node ?_ (.tmp 9) (by rfl) _ ?_ x nx ?_
                   · rfl
                   · rfl
                   simp only [Act.put, List.setIfInBounds_toArray, List.set_cons_zero, List.set_cons_succ])
                | (refine wpQuiet_load_node ?_ (.tmp 10) (by rfl) _ ?_ y ny ?_
                   · rfl
                   · rfl
                   simp only [Act.put, List.setIfInBounds_toArray, List.set_cons_zero, List.set_cons_succ]))
              refine wpQuiet_nil ?_
              rintro _ ⟨q, rfl⟩
              clear z0 z1 z5 z6 e1
              go_wp2_with fail
              go_ret
              exact ⟨rfl, X7.out.step q.ext⟩
            · have HC3 := Lib.hid (fun W (hW : Ext w7 W) => HIH.out (m - (j + 1)) (by omega) bb x.r1 (some (adL.add ((j + 1) * 2))) (cL - (j + 1)) W b (by have := hlen.out; omega) (by omega) (by omega) (by unfold maxLen; omega) ((RdI.drop (a := a ++ [(k, v)]) (by have h0 := HL.out; rw [HLL.out] at h0; simpa using h0) (by simp; exact HJ.out.symm)).to (X7.out.step hW)) hsp.out.2.1 (HOX.out x.r1 (by simp [Nd.kids])) (HA.out.to (X7.out.step hW)) hb3)
              clear hb3
              refine wp_region_later w7 (Ext.refl _) (by kernel_rfl) (by kernel_rfl) ?_
              repeat (first
                | go_big_quiet_step (first | (go_at_call 31; with_reducible exact later_call HC2.out) | (go_at_call 31; with_reducible exact later_call HC3.out))
                | (refine wpQuiet_load_node ?_ (.tmp 9) (by rfl) _ ?_ x nx ?_
                   · rfl
                   · rfl
                   simp only [Act.put, List.setIfInBounds_toArray, List.set_cons_zero, List.set_cons_succ])
                | (refine wpQuiet_load_node ?_ (.tmp 10) (by rfl) _ ?_ y ny ?_
                   · rfl
                   · rfl
                   simp only [Act.put, List.setIfInBounds_toArray, List.set_cons_zero, List.set_cons_succ]))
              refine wpQuiet_nil ?_
              rintro _ ⟨q, rfl⟩
              clear z0 z1 z5 z6 e1
              go_wp2_with fail
              go_ret
              exact ⟨rfl, X7.out.step q.ext⟩
      · have HAt := Lib.hid (at_no A n c m' d B ns r w2 hU.1 hU.2 (HA.out.to X2.out) hg)
        obtain rfl : b = false := by
          cases b
          · rfl
          · exact absurd (HBB.out.1 rfl) (isP_gone HNIL.out hg)
        clear hg
        go_wp2_with fail
        refine HAt.out.mono ?_; rintro e w3 ⟨rfl, hx3⟩
        go_wp2_with fail
        go_ret
        exact ⟨rfl, X2.out.step hx3⟩

end Go.Proofs.Ythgaogbpkedjcaa
