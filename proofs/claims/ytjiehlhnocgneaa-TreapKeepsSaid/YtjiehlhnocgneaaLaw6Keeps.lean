/-
  The walk of TreapKeeps.
-/
import Derived.Test.YtjiehlhnocgneaaKeep6
import Derived.Test.YtjiehlhnocgneaaActOpen6
import Derived.Test.YtjiehlhnocgneaaGB
set_option linter.unusedVariables false
set_option linter.unusedSimpArgs false
namespace Go.Proofs.Ytjiehlhnocgneaa
open Go.RowKit

set_option maxHeartbeats 51200000 in
set_option maxRecDepth 100000 in
theorem keeps6_m (AL : Option Addr) (nL cL : Nat) (acs : List Ac) (w : World) (h : Rd w 3 AL nL (flat Ac.cells acs)) (hnc : nL ≤ cL) (hc : cL ≤ maxLen) :
    Calls Try.prog 4 #[.slice AL nL cL] w fun e w' => e = .returned (.bool true) ∧ Ext w w' := by
  have HAl := Lib.hid (fun W => alive6_is W)
  have HN := Lib.hid (new_yes 512 w (by omega) (by omega))
  rw [show ((512 : Nat) : Int) = 512 from rfl] at HN
  have hmay : ArMay (List.replicate 512 (bare 0)) (down 512) := new_may (by omega) (by omega)
  obtain ⟨ns0, hns⟩ : ∃ ns, ns = List.replicate 512 (bare 0) := ⟨_, rfl⟩
  obtain ⟨fs0, hfs⟩ : ∃ fs, fs = down 512 := ⟨_, rfl⟩
  unfold NewA at HN
  rw [← hns, ← hfs] at hmay HN
  obtain ⟨i0, hi0, hz0, hz1, hz2⟩ := info_parts ref_info
  obtain ⟨i1, hi1, hy0, hy1, hy2⟩ := info_parts items_info
  have HMay := Lib.hid hmay
  have HH := Lib.hid h
  have HL := Lib.hid (show acs.length = nL by have := h.1; rw [flat_length Ac.cells_length] at this; omega)
  have hBn : nL = 0 ∨ ∃ ad, AL = some ad := by
    rcases Nat.eq_zero_or_pos nL with h' | h'
    · exact .inl h'
    · exact .inr (h.some_ h' (by omega))
  have hAL : AL = none → nL = 0 := fun e => by
    rcases hBn with h' | ⟨ad, h'⟩
    · exact h'
    · rw [e] at h'; cases h'
  simp only [maxLen] at hc
  clear h hmay hns hfs
  go_enter Try.func4, Try.ntmps4
  go_wp2_with fail
  refine HN.out.mono ?_; rintro e w1 ⟨g1, cc1, h1, dd1, rfl, hd11, hd12, hA1, hx1, hf1⟩
  obtain ⟨w2, hw2⟩ : ∃ w2, w2 = w1.alloc (.cells #[.slice (some ⟨g1, 0, none⟩) 512 cc1, .slice (some ⟨h1, 0, none⟩) 512 dd1] 25) := ⟨_, rfl⟩
  obtain ⟨B2, hx2, hs2⟩ := box_made hw2
  obtain ⟨ba, hba⟩ : ∃ b, b = w1.heap.size := ⟨_, rfl⟩
  obtain ⟨base, hbase⟩ : ∃ b, b = w1.heap.size + 1 := ⟨_, rfl⟩
  obtain ⟨w3, hw3⟩ : ∃ w3, w3 = w2.alloc (.cells #[] 60) := ⟨_, rfl⟩
  have hx3 : Ext w2 w3 := by rw [hw3]; exact (Ext.refl _).new _
  have HBA := Lib.hid (show w.heap.size ≤ ba ∧ ba < base ∧ base ≤ w3.heap.size from ⟨by rw [hba]; exact hx1.size, by rw [hba, hbase]; exact Nat.lt_succ_self _, by rw [hbase, ← hs2]; exact hx3.size⟩)
  have X3 := Lib.hid (hx1.step (hx2.step hx3))
  rw [← hba] at B2
  have HK0 := Lib.hid (show KI w3 ba base (some ⟨g1, 0, none⟩) 512 cc1 (some ⟨h1, 0, none⟩) 512 dd1 ns0 fs0 0 (.slice (some ⟨base, 0, none⟩) 0 0) [] (.slice none 0 0) (.slice none 0 0) [] from
    ⟨B2.to hx3, ⟨hA1.to (hx2.step hx3), HMay.out⟩, MapV.nil _, RdR.nilq _ _, OwnP.nil _ _ _ _, OwnP.nil _ _ _ _, fun x hx => (by cases hx), HBA.out.2.1⟩)
  have H2 := Lib.hid hw2
  have H3 := Lib.hid hw3
  have Hba := Lib.hid hba
  have Hbase := Lib.hid hbase
  clear hw2 hw3 hA1 hx1 hf1 hd11 hd12 B2 hx2 hs2 hx3 hba hbase
  go_wp2_with fail
  rw [← H2.out, ← H3.out, ← Hbase.out, ← Hba.out]
  go_loopw [27, 5, 6, 7, 8, 9, 10, 11, 12, 13, 14, 15, 16, 17, 18, 19] (fun j r v6 v7 v8 _ _ _ _ _ _ _ _ _ _ _ wr => Hid (Ext w wr) ∧ ∃ (k : Nat) (zr : Int), k ≤ nL ∧ j = .int .i64 k ∧ r = .int .u64 zr ∧ Hid (base ≤ wr.heap.size) ∧ Hid (∃ A n c B m d ns fs row rs, KI wr ba base A n c B m d ns fs zr v8 row v7 v6 rs ∧ rs.length = k ∧ row.length ≤ k ∧ k ≤ 12)) (fun j _ _ _ _ _ _ _ _ _ _ _ _ _ _ _ _ => nL - (intOf j).toNat)
  case atStart => exact ⟨X3, 0, 0, Nat.zero_le _, rfl, rfl, Lib.hid HBA.out.2.2, Lib.hid ⟨_, _, _, _, _, _, _, _, [], [], HK0.out, rfl, by simp, by omega⟩⟩
  case round =>
    obtain ⟨hx, k, zr, hk, rfl, rfl, hbs, hKI⟩ := hrel
    rename World => w4
    obtain ⟨A, n, c, B, m, d, ns, fs, row, rs, hK, hrl, hrow, hk12⟩ := hKI.out
    have HK := Lib.hid hK
    have HRL := Lib.hid hrl
    have HRow := Lib.hid hrow
    have HMP := Lib.hid hK.mp
    obtain ⟨A8, j8, c8, hv8, hr8, hj8⟩ := hK.rd.sl
    subst hv8
    clear hj8 hr8 hK hrl hrow hKI HK0 X3
    by_cases hlt : k < nL
    · obtain ⟨ad, rfl⟩ : ∃ ad, AL = some ad := by
        rcases hBn with h' | h'
        · omega
        · exact h'
      obtain ⟨xa, hxa⟩ : ∃ x, acs[k]? = some x := ⟨_, List.getElem?_eq_getElem (by have := HL.out; omega)⟩
      have t0 := (HH.out.to hx.out).cells (k * 3 + 0) (.bool xa.drop) ((flat_get Ac.cells_length acs k 0 xa hxa (by omega)).trans rfl)
      have t1 := (HH.out.to hx.out).cells (k * 3 + 1) (.int .i64 xa.kind) ((flat_get Ac.cells_length acs k 1 xa hxa (by omega)).trans rfl)
      have t2 := (HH.out.to hx.out).cells (k * 3 + 2) (.int .i64 xa.at_) ((flat_get Ac.cells_length acs k 2 xa hxa (by omega)).trans rfl)
      rw [← addr_add] at t1 t2
      obtain ⟨dl, KX, VX⟩ := xa
      have c0 : w4.cell? (ad.add (k * 3)) = some (.bool dl) := t0
      have c1 : w4.cell? { block := (ad.add (k * 3)).block, off := (ad.add (k * 3)).off + 1 } = some (.int .i64 KX) := t1
      have c2 : w4.cell? { block := (ad.add (k * 3)).block, off := (ad.add (k * 3)).off + 2 } = some (.int .i64 VX) := t2
      clear t0 t1 t2 hxa
      have hnk : ¬ nL ≤ k := by omega
      obtain ⟨w5, hw5⟩ : ∃ w5, w5 = w4.alloc (.cells #[.bool dl, .int .i64 KX, .int .i64 VX] 52) := ⟨_, rfl⟩
      obtain ⟨B5, hx5, hs5⟩ := box_made hw5
      have H5 := Lib.hid hw5
      have HX5 := Lib.hid B5
      have X5 := Lib.hid (hx.out.step hx5)
      have HK5 := Lib.hid (HK.out.to hx5)
      have HS5 := Lib.hid (show base ≤ w5.heap.size from Nat.le_trans hbs.out hx5.size)
      obtain ⟨bA, hbA⟩ : ∃ b, b = w4.heap.size := ⟨_, rfl⟩
      have HbA := Lib.hid hbA
      rw [← hbA] at HX5
      have HLA := Lib.hid (show base ≤ bA by rw [hbA]; exact hbs.out)
      obtain ⟨m, hm⟩ : ∃ q, q = m := ⟨_, rfl⟩
      subst hm
      have s1 : w5.cell? ⟨ba, 1, none⟩ = some (.slice B m d) := HK5.out.box.cell 1
      have x0 : w5.cell? ⟨bA, 0, none⟩ = some (.bool dl) := HX5.out.cell 0
      have x1 : w5.cell? ⟨bA, 1, none⟩ = some (.int .i64 KX) := HX5.out.cell 1
      have x2 : w5.cell? ⟨bA, 2, none⟩ = some (.int .i64 VX) := HX5.out.cell 2
      have a0 : w5.cell? ⟨ba, 0, none⟩ = some (.slice A n c) := HK5.out.box.cell 0
      have hmf := HK5.out.av.ar.lenF
      have HMF := Lib.hid hmf
      rw [hw5] at s1 x0 x1 x2 a0
      rw [hbA] at x0 x1 x2
      clear hw5 B5 hx5 hs5 hbA hmf HK
      by_cases h12 : 12 ≤ k
      · have h12' : (12 : Int) ≤ (k : Int) := by omega
        go_wp2_with fail
        rw [← H5.out]
        refine (HAl.out _).mono ?_
        rintro e y1 ⟨rfl, hy1⟩
        have KE := Lib.hid (HK5.out.to hy1)
        have q0 : y1.cell? ⟨ba, 0, none⟩ = some (.slice A n c) := KE.out.box.cell 0
        have q1 : y1.cell? ⟨ba, 1, none⟩ = some (.slice B m d) := KE.out.box.cell 1
        have HW := Lib.hid (want_right A B n m c d ns fs y1 KE.out.av.ar KE.out.av.n1 KE.out.av.m1 true (by simp [KE.out.av.may]))
        have Y1 := Lib.hid (X5.out.step hy1)
        clear hy1
        go_wp2_with fail
        refine HW.out.mono ?_
        rintro e y2 ⟨rfl, hy2⟩
        have Y2 := Lib.hid (Y1.out.step hy2)
        clear hy2
        go_wp2_with fail
        go_ret
        exact ⟨rfl, Y2.out⟩
      have h12' : ¬ (12 : Int) ≤ (k : Int) := by omega
      by_cases h400 : m < 400
      · have h400' : (m : Int) < 400 := by omega
        go_wp2_with fail
        rw [← H5.out]
        refine (HAl.out _).mono ?_
        rintro e y1 ⟨rfl, hy1⟩
        have KE := Lib.hid (HK5.out.to hy1)
        have q0 : y1.cell? ⟨ba, 0, none⟩ = some (.slice A n c) := KE.out.box.cell 0
        have q1 : y1.cell? ⟨ba, 1, none⟩ = some (.slice B m d) := KE.out.box.cell 1
        have HW := Lib.hid (want_right A B n m c d ns fs y1 KE.out.av.ar KE.out.av.n1 KE.out.av.m1 true (by simp [KE.out.av.may]))
        have Y1 := Lib.hid (X5.out.step hy1)
        clear hy1
        go_wp2_with fail
        refine HW.out.mono ?_
        rintro e y2 ⟨rfl, hy2⟩
        have Y2 := Lib.hid (Y1.out.step hy2)
        clear hy2
        go_wp2_with fail
        go_ret
        exact ⟨rfl, Y2.out⟩
      have h400' : ¬ (m : Int) < 400 := by omega
      have hF400 := Lib.hid (show 400 ≤ fs.length by have := HMF.out; omega)
      obtain ⟨KK, hKK, hKKI⟩ := key20 KX
      have HKI := Lib.hid hKKI
      clear hKKI
      cases dl with
      | true =>
        by_cases hhas : HasK row KK
        · have HC := Lib.hid (av_del (c := c) (d := d) HK5.out.av HMP.out KK hhas (by have := hF400.out; have := HRow.out; omega) _ (Ext.refl _))
          unfold MadeV at HC
          have HHas := Lib.hid hhas
          clear hhas
          go_wp2_with fail
          rw [← H5.out, ← HbA.out]
          clear s1 x0 x1 x2 a0 c0 c1 c2
          refine HC.out.mono ?_
          rintro e w6 ⟨A5, n5, c5, B5, m5, d5, ns5, fs5, z5, rfl, hav5, hG5, hM5, hx6⟩
          obtain ⟨w7, hw7⟩ : ∃ w7, w7 = w6.alloc (.cells #[.slice A5 n5 c5, .slice B5 m5 d5] 25) := ⟨_, rfl⟩
          obtain ⟨B7, hx7, hs7⟩ := box_made hw7
          have H7 := Lib.hid hw7
          have HBb := Lib.hid B7
          have K7 := Lib.hid (HK5.out.to (hx6.step hx7))
          have X7 := Lib.hid (X5.out.step (hx6.step hx7))
          have Sw7 := Lib.hid (show base ≤ w7.heap.size from Nat.le_trans HS5.out (hx6.step hx7).size)
          have HAV := Lib.hid (hav5.to hx7)
          have HG := Lib.hid hG5
          have HM5 := Lib.hid hM5
          obtain ⟨bb, hbb⟩ : ∃ b, b = w6.heap.size := ⟨_, rfl⟩
          have Hbb := Lib.hid hbb
          have HLB := Lib.hid (show base ≤ bb by rw [hbb]; exact Nat.le_trans HS5.out hx6.size)
          rw [← hbb] at HBb
          have HAt := Lib.hid (rdr_at K7.out.rd (by have := HRow.out; omega) KK _ (Ext.refl _))
          clear hw7 B7 hx7 hs7 hbb hx6 hav5 hG5 hM5
          go_wp2_with fail
          rw [← H7.out, ← Hbb.out]
          unfold AtA at HAt
          refine HAt.out.mono ?_
          rintro e w8 ⟨⟨hno, rfl⟩ | ⟨jj, vv, hjj, rfl⟩, hx8⟩
          · exact absurd HHas.out hno
          have K8 := Lib.hid (K7.out.to hx8)
          have X8 := Lib.hid (X7.out.step hx8)
          have HB8 := Lib.hid (HBb.out.to hx8)
          have HAV8 := Lib.hid (HAV.out.to hx8)
          have Sw8 := Lib.hid (show base ≤ w8.heap.size from Nat.le_trans Sw7.out hx8.size)
          have hjn : ¬ ((jj : Int) < 0) := by omega
          clear hx8 hjj
          go_wp2_with fail
          obtain ⟨SS, hSS⟩ : ∃ SS : World → Prop, SS = (fun W => W.cell? ⟨bb, 0, none⟩ = some (.slice A5 n5 c5) ∧ W.cell? ⟨bb, 1, none⟩ = some (.slice B5 m5 d5)) := ⟨_, rfl⟩
          have mkS : ∀ W, Bx W bb #[.slice A5 n5 c5, .slice B5 m5 d5] → SS W := fun W h1 => by rw [hSS]; exact ⟨h1.cell 0, h1.cell 1⟩
          have HMK := Lib.hid mkS
          have hS0 : SS w8.drew := mkS _ HB8.out.drew
          have HSS := Lib.hid hSS
          have HRr := Lib.hid (rdr_del K8.out.rd (by have := HRow.out; omega) KK _ (Ext.refl w8).drew)
          clear hSS mkS
          refine wp_region_held (S := SS) (by kernel_rfl) ?_
          refine wpAnyH_take (i := 0) (v := .agg #[.slice A5 n5 c5, .slice B5 m5 d5]) rfl (by kernel_rfl) (by kernel_rfl) (by kernel_rfl) (fun _ _ _ h => h) (Or.inl ⟨by rfl, by intro W hW; rw [HSS.out] at hW; obtain ⟨g0, g1⟩ := hW; go_simp⟩) hS0 ?_
          try simp only [Act.put, List.getElem_toArray, List.getElem_cons_succ, List.getElem_cons_zero, List.setIfInBounds_toArray, List.set_cons_zero, List.set_cons_succ]
          refine wpAnyH_take (i := 1) (v := .int .u64 z5) rfl (by kernel_rfl) (by kernel_rfl) (by kernel_rfl) (fun _ _ _ h => h) (Or.inl ⟨by rfl, by intro W hW; rw [HSS.out] at hW; obtain ⟨g0, g1⟩ := hW; go_simp⟩) hS0 ?_
          try simp only [Act.put, List.getElem_toArray, List.getElem_cons_succ, List.getElem_cons_zero, List.setIfInBounds_toArray, List.set_cons_zero, List.set_cons_succ]
          refine wpAnyH_take (i := 2) (v := .slice A8 j8 c8) rfl (by kernel_rfl) (by kernel_rfl) (by kernel_rfl) (fun _ _ _ h => h) (Or.inl ⟨by rfl, by intro W hW; rw [HSS.out] at hW; obtain ⟨g0, g1⟩ := hW; go_simp⟩) hS0 ?_
          try simp only [Act.put, List.getElem_toArray, List.getElem_cons_succ, List.getElem_cons_zero, List.setIfInBounds_toArray, List.set_cons_zero, List.set_cons_succ]
          refine wpAnyH_take (i := 3) (v := .int .i64 KK) rfl (by kernel_rfl) (by kernel_rfl) (by kernel_rfl) (fun _ _ _ h => h) (Or.inl ⟨by rfl, by intro W hW; rw [HSS.out] at hW; obtain ⟨g0, g1⟩ := hW; go_simp⟩) hS0 ?_
          try simp only [Act.put, List.getElem_toArray, List.getElem_cons_succ, List.getElem_cons_zero, List.setIfInBounds_toArray, List.set_cons_zero, List.set_cons_succ]
          refine held_one2 (i := 4) (by kernel_rfl) rfl (by rfl) ?_
          go_simp
          unfold RowS at HRr
          refine HRr.out.mono ?_
          rintro e w9 ⟨A9, j9, c9, rfl, hr9, hx9'⟩
          have hx9 : Ext w8 w9 := hx9'.undrew
          have K9 := Lib.hid (K8.out.to hx9)
          have X9 := Lib.hid (X8.out.step hx9)
          have HB9 := Lib.hid (HB8.out.to hx9)
          have HAV9 := Lib.hid (HAV8.out.to hx9)
          have HR9 := Lib.hid hr9
          have S9 := Lib.hid (show base ≤ w9.heap.size from Nat.le_trans Sw8.out hx9.size)
          have hS1 : SS w9 := HMK.out _ HB9.out
          clear hr9 hx9 hx9' hS0
          refine ⟨hS1, ?_⟩
          try simp only [Act.put, List.getElem_toArray, List.getElem_cons_succ, List.getElem_cons_zero, List.setIfInBounds_toArray, List.set_cons_zero, List.set_cons_succ]
          refine held_one2 (i := 5) (by kernel_rfl) rfl (by rfl) ?_
          refine wp_store_arx (.tmp 3) (.tmp 72) (by rfl) ba (by rfl) (.slice A5 n5 c5) (.slice B5 m5 d5) (by rfl) rfl rfl _ K9.out.box (by rfl) ?_
          intro v9 B9 O9
          have K10 := Lib.hid (K9.out.move HAV9.out HG.out HM5.out HR9.out B9 O9)
          have HB10 := Lib.hid (O9.bx HB9.out (by have := HLB.out; have := HBA.out; omega))
          have X10 := Lib.hid (O9.new X9.out (by have := HBA.out; omega))
          have Sv9 := Lib.hid (show base ≤ v9.heap.size from Nat.le_trans S9.out O9.size)
          have hS2 : SS v9 := HMK.out _ HB10.out
          clear B9 O9 hS1
          refine ⟨hS2, ?_⟩
          try simp only [Act.put, List.getElem_toArray, List.getElem_cons_succ, List.getElem_cons_zero, List.setIfInBounds_toArray, List.set_cons_zero, List.set_cons_succ]
          refine wpAnyH_take (i := 6) (v := .int .u64 z5) rfl (by kernel_rfl) (by kernel_rfl) (by kernel_rfl) (fun _ _ _ h => h) (Or.inl ⟨by rfl, by intro W hW; rw [HSS.out] at hW; obtain ⟨g0, g1⟩ := hW; go_simp⟩) hS2 ?_
          try simp only [Act.put, List.getElem_toArray, List.getElem_cons_succ, List.getElem_cons_zero, List.setIfInBounds_toArray, List.set_cons_zero, List.set_cons_succ]
          refine wpAnyH_take (i := 7) (v := .slice A9 j9 c9) rfl (by kernel_rfl) (by kernel_rfl) (by kernel_rfl) (fun _ _ _ h => h) (Or.inl ⟨by rfl, by intro W hW; rw [HSS.out] at hW; obtain ⟨g0, g1⟩ := hW; go_simp⟩) hS2 ?_
          try simp only [Act.put, List.getElem_toArray, List.getElem_cons_succ, List.getElem_cons_zero, List.setIfInBounds_toArray, List.set_cons_zero, List.set_cons_succ]
          refine ⟨by kernel_rfl, ?_⟩
          have HRow1 := Lib.hid (show (delR row KK).length ≤ k + 1 from Nat.le_trans (List.length_filter_le _ _) (by have := HRow.out; omega))
          clear hS2
          obtain ⟨u1, hu1⟩ : ∃ u, u = v9.alloc (.cells #[.int .u64 z5] 27) := ⟨_, rfl⟩
          obtain ⟨Bu1, hxu1, hsu1⟩ := box_made hu1
          have Hu1 := Lib.hid hu1
          have KU1 := Lib.hid (K10.out.to hxu1)
          have YU1 := Lib.hid (X10.out.step hxu1)
          have cu1 := Lib.hid (show u1.cell? ⟨v9.heap.size, 0, none⟩ = some (.int .u64 z5) from Bu1.cell 0)
          have SU1 := Lib.hid (show base ≤ u1.heap.size from Nat.le_trans Sv9.out hxu1.size)
          obtain ⟨kk, hkk⟩ : ∃ q, q = rs.length := ⟨_, rfl⟩
          have HKK' := Lib.hid hkk
          have hkk12 : kk ≤ 12 := by rw [hkk, HRL.out]; exact hk12
          have KUr := Lib.hid KU1.out.roots
          rw [← hkk] at KUr
          clear hu1 Bu1 hxu1 hsu1 hkk
          go_wp2_with (first
            | (at_builtin
               rw [← Hu1.out]
               refine wpList_append_p _ rfl (.tmp 96) (.tmp 98) _ rfl base 27 i0 (.int .u64 0) 8 Try.underlying50 hi0 hz0 hz1 hz2 rfl isU ⟨0, rfl⟩ u7 kk (Us (rs.map (·.1))) (by rfl) KUr.out ⟨v9.heap.size, 0, none⟩ 1 (by rfl) (.int .u64 z5) cu1.out rfl ⟨_, rfl⟩ (by simp only [maxLen]; omega) (by omega) SU1.out ?_
               intro A7 c7 u2 ho7 hg7
               have KR2 := Lib.hid (KU1.out.root (by rw [← HKK'.out]; exact ho7) hg7)
               have Y2 := Lib.hid (YU1.out.grown hg7 (fun q hq => by have := KU1.out.roots.ge hq; have := HBA.out; omega))
               have S2 := Lib.hid (show base ≤ u2.heap.size from Nat.le_trans SU1.out hg7.size)
               obtain ⟨u3, hu3⟩ : ∃ u, u = u2.alloc (.cells #[.slice A9 j9 c9] 31) := ⟨_, rfl⟩
               obtain ⟨Bu3, hxu3, hsu3⟩ := box_made hu3
               have Hu3 := Lib.hid hu3
               have KR3 := Lib.hid (KR2.out.to hxu3)
               have Y3 := Lib.hid (Y2.out.step hxu3)
               have cu3 := Lib.hid (show u3.cell? ⟨u2.heap.size, 0, none⟩ = some (.slice A9 j9 c9) from Bu3.cell 0)
               have S3 := Lib.hid (show base ≤ u3.heap.size from Nat.le_trans S2.out hxu3.size)
               have KRr := Lib.hid KR3.out.rows
               rw [← HKK'.out] at KRr
               clear ho7 hg7 hu3 Bu3 hxu3 hsu3)
            | (at_builtin
               rw [← Hu3.out]
               refine wpList_append_p _ rfl (.tmp 100) (.tmp 102) _ rfl base 31 i1 (.slice none 0 0) 24 Try.underlying49 hi1 hy0 hy1 hy2 rfl isS ⟨_, _, _, rfl⟩ u6 kk (rs.map (·.2.1)) (by rfl) KRr.out ⟨u2.heap.size, 0, none⟩ 1 (by rfl) (.slice A9 j9 c9) cu3.out rfl ⟨_, _, _, rfl⟩ (by simp only [maxLen]; omega) (by omega) S3.out ?_
               intro A6 c6 u4 ho6 hg6
               have KU4 := Lib.hid (KR3.out.push (by rw [← HKK'.out]; exact ho6) hg6)
               have Y4 := Lib.hid (Y3.out.grown hg6 (fun q hq => by have := KR3.out.rows.ge hq; have := HBA.out; omega))
               have S4 := Lib.hid (show base ≤ u4.heap.size from Nat.le_trans S3.out hg6.size)
               clear ho6 hg6))
          obtain ⟨RS, hRS⟩ : ∃ q, q = rs ++ [(z5, (.slice A9 j9 c9 : Value), (delR row KK))] := ⟨_, rfl⟩
          obtain ⟨k1, hk1⟩ : ∃ q, q = kk + 1 := ⟨_, rfl⟩
          have HRS := Lib.hid (show RS.length = k1 by rw [hRS, hk1, HKK'.out]; simp)
          have hk1' : k1 = k + 1 := by rw [hk1, HKK'.out, HRL.out]
          have HK1 := Lib.hid hk1'
          have HK1K := Lib.hid hk1
          have hk113 : k1 ≤ 13 := by omega
          rw [← hRS] at KU4
          rw [← hk1] at KU4 ⊢
          clear hRS hk1 hk1' hkk12
          have hdec : decide ((k : Int) < (nL : Int)) = true := by simp; omega
          go_loopw [106, 18, 19] (fun j _ _ wr => Hid (Ext u4 wr) ∧ ∃ q : Nat, q ≤ k1 ∧ j = .int .i64 q) (fun j _ _ _ => k1 - (intOf j).toNat)
          case atStart => exact ⟨Lib.hid (Ext.refl _), 0, Nat.zero_le _, rfl⟩
          case round =>
            obtain ⟨hq, q, hqk, rfl⟩ := hrel
            rename World => u5
            by_cases hqlt : q < k1
            · obtain ⟨xq, hxq⟩ : ∃ x, RS[q]? = some x := ⟨_, List.getElem?_eq_getElem (by rw [HRS.out]; exact hqlt)⟩
              have KQ := Lib.hid (KU4.out.to hq.out)
              have hmem := KQ.out.all xq (List.mem_of_getElem? hxq)
              obtain ⟨zq, vq, lq⟩ := xq
              obtain ⟨Aq, jq, cq, hvq, hrq, hjq⟩ := hmem.1.sl
              clear hjq
              simp only at hvq
              subst hvq
              have h7 := KQ.out.roots.own
              have h6 := KQ.out.rows.own
              rw [HRS.out] at h7 h6
              replace h7 := Rd.own h7
              replace h6 := Rd.own h6
              obtain ⟨ad7, had7⟩ := h7.some_ (by omega) (by omega)
              obtain ⟨ad6, had6⟩ := h6.some_ (by omega) (by omega)
              subst had7 had6
              have d7 : u5.cell? (ad7.add q) = some (.int .u64 zq) := h7.cells q _ (by rw [Us_get, List.getElem?_map, hxq]; rfl)
              have d6 : u5.cell? (ad6.add q) = some (.slice Aq jq cq) := h6.cells q _ (by rw [List.getElem?_map, hxq]; rfl)
              have HI := Lib.hid (fun W (hW : Ext u5 W) => av_is (c := c5) (d := d5) KQ.out.av hmem.2 hrq W hW)
              have l0 := fun p : Later u5 => (KQ.out.box.to p.ext).cell 0
              have l1 := fun p : Later u5 => (KQ.out.box.to p.ext).cell 1
              have l6 := fun p : Later u5 => p.ext.cellOf d6
              simp only [List.getElem?_toArray, List.getElem?_cons_zero, List.getElem?_cons_succ] at l0 l1
              have hqk1 : ¬ k1 ≤ q := by omega
              have hqk2 : (q : Int) < (kk : Int) + 1 := by have := HK1K.out; omega
              have hqk3 : ¬ (kk : Int) + 1 ≤ (q : Int) := by omega
              clear hmem hxq h7 h6 hrq
              go_wp2_with fail
              refine wp_region_later u5 (Ext.refl _) (by kernel_rfl) (by kernel_rfl) ?_
              repeat (go_big_quiet_step (first | (go_at_call 21; with_reducible exact later_call HI.out)))
              refine wpQuiet_nil ?_
              rintro _ ⟨p, rfl⟩
              have HP := Lib.hid (hq.out.step p.ext)
              clear l0 l1 l6 d6 d7
              go_wp2_with fail
              go_roundw
              case rel => exact ⟨HP, q + 1, by omega, by go_num⟩
              case measure => simp [intOf]; omega
            · have hqe : k1 ≤ q := by omega
              have hqq : q = k1 := by omega
              have hqk2 : ¬ (q : Int) < (kk : Int) + 1 := by have := HK1K.out; omega
              have HFIN := Lib.hid (show ∃ A n c B m d ns fs row rs, KI u5 ba base A n c B m d ns fs z5 (.slice A9 j9 c9) row (.slice A7 k1 c7) (.slice A6 k1 c6) rs ∧ rs.length = k + 1 ∧ row.length ≤ k + 1 ∧ k + 1 ≤ 12 from ⟨_, _, _, _, _, _, _, _, _, RS, KU4.out.to hq.out, by rw [HRS.out, HK1.out], HRow1.out, by omega⟩)
              have YF := Lib.hid (Y4.out.step hq.out)
              have SF := Lib.hid (show base ≤ u5.heap.size from Nat.le_trans S4.out hq.out.size)
              go_wp2_with fail
              go_roundw
              case rel => exact ⟨YF, k + 1, z5, by omega, by go_num, rfl, SF, HFIN⟩
              case measure => simp [intOf]; omega
        · have HC := Lib.hid (av_delnone (c := c) (d := d) HK5.out.av HMP.out KK hhas _ (Ext.refl _))
          unfold ErrA at HC
          have HHas := Lib.hid hhas
          clear hhas
          go_wp2_with fail
          rw [← H5.out, ← HbA.out]
          clear s1 x0 x1 x2 a0 c0 c1 c2
          refine HC.out.mono ?_
          rintro e w6 ⟨rfl, hx6⟩
          obtain ⟨w7, hw7⟩ : ∃ w7, w7 = w6.alloc (.cells #[.slice none 0 0, .slice none 0 0] 25) := ⟨_, rfl⟩
          obtain ⟨B7, hx7, hs7⟩ := box_made hw7
          have H7 := Lib.hid hw7
          have K7 := Lib.hid (HK5.out.to (hx6.step hx7))
          have X7 := Lib.hid (X5.out.step (hx6.step hx7))
          have Sw7 := Lib.hid (show base ≤ w7.heap.size from Nat.le_trans HS5.out (hx6.step hx7).size)
          have HAt := Lib.hid (rdr_at K7.out.rd (by have := HRow.out; omega) KK _ (Ext.refl _))
          clear hw7 B7 hx7 hs7 hx6
          go_wp2_with fail
          rw [← H7.out]
          unfold AtA at HAt
          refine HAt.out.mono ?_
          rintro e w8 ⟨⟨hno, rfl⟩ | ⟨jj, vv, hjj, rfl⟩, hx8⟩
          case inr => exact absurd ⟨vv, List.mem_of_getElem? hjj⟩ HHas.out
          have K8 := Lib.hid (K7.out.to hx8)
          have X8 := Lib.hid (X7.out.step hx8)
          have Sw8 := Lib.hid (show base ≤ w8.heap.size from Nat.le_trans Sw7.out hx8.size)
          have HRow1 := Lib.hid (show row.length ≤ k + 1 by have := HRow.out; omega)
          clear hx8 hno
          obtain ⟨u1, hu1⟩ : ∃ u, u = w8.alloc (.cells #[.int .u64 zr] 27) := ⟨_, rfl⟩
          obtain ⟨Bu1, hxu1, hsu1⟩ := box_made hu1
          have Hu1 := Lib.hid hu1
          have KU1 := Lib.hid (K8.out.to hxu1)
          have YU1 := Lib.hid (X8.out.step hxu1)
          have cu1 := Lib.hid (show u1.cell? ⟨w8.heap.size, 0, none⟩ = some (.int .u64 zr) from Bu1.cell 0)
          have SU1 := Lib.hid (show base ≤ u1.heap.size from Nat.le_trans Sw8.out hxu1.size)
          obtain ⟨kk, hkk⟩ : ∃ q, q = rs.length := ⟨_, rfl⟩
          have HKK' := Lib.hid hkk
          have hkk12 : kk ≤ 12 := by rw [hkk, HRL.out]; exact hk12
          have KUr := Lib.hid KU1.out.roots
          rw [← hkk] at KUr
          clear hu1 Bu1 hxu1 hsu1 hkk
          go_wp2_with (first
            | (at_builtin
               rw [← Hu1.out]
               refine wpList_append_p _ rfl (.tmp 96) (.tmp 98) _ rfl base 27 i0 (.int .u64 0) 8 Try.underlying50 hi0 hz0 hz1 hz2 rfl isU ⟨0, rfl⟩ u7 kk (Us (rs.map (·.1))) (by rfl) KUr.out ⟨w8.heap.size, 0, none⟩ 1 (by rfl) (.int .u64 zr) cu1.out rfl ⟨_, rfl⟩ (by simp only [maxLen]; omega) (by omega) SU1.out ?_
               intro A7 c7 u2 ho7 hg7
               have KR2 := Lib.hid (KU1.out.root (by rw [← HKK'.out]; exact ho7) hg7)
               have Y2 := Lib.hid (YU1.out.grown hg7 (fun q hq => by have := KU1.out.roots.ge hq; have := HBA.out; omega))
               have S2 := Lib.hid (show base ≤ u2.heap.size from Nat.le_trans SU1.out hg7.size)
               obtain ⟨u3, hu3⟩ : ∃ u, u = u2.alloc (.cells #[.slice A8 j8 c8] 31) := ⟨_, rfl⟩
               obtain ⟨Bu3, hxu3, hsu3⟩ := box_made hu3
               have Hu3 := Lib.hid hu3
               have KR3 := Lib.hid (KR2.out.to hxu3)
               have Y3 := Lib.hid (Y2.out.step hxu3)
               have cu3 := Lib.hid (show u3.cell? ⟨u2.heap.size, 0, none⟩ = some (.slice A8 j8 c8) from Bu3.cell 0)
               have S3 := Lib.hid (show base ≤ u3.heap.size from Nat.le_trans S2.out hxu3.size)
               have KRr := Lib.hid KR3.out.rows
               rw [← HKK'.out] at KRr
               clear ho7 hg7 hu3 Bu3 hxu3 hsu3)
            | (at_builtin
               rw [← Hu3.out]
               refine wpList_append_p _ rfl (.tmp 100) (.tmp 102) _ rfl base 31 i1 (.slice none 0 0) 24 Try.underlying49 hi1 hy0 hy1 hy2 rfl isS ⟨_, _, _, rfl⟩ u6 kk (rs.map (·.2.1)) (by rfl) KRr.out ⟨u2.heap.size, 0, none⟩ 1 (by rfl) (.slice A8 j8 c8) cu3.out rfl ⟨_, _, _, rfl⟩ (by simp only [maxLen]; omega) (by omega) S3.out ?_
               intro A6 c6 u4 ho6 hg6
               have KU4 := Lib.hid (KR3.out.push (by rw [← HKK'.out]; exact ho6) hg6)
               have Y4 := Lib.hid (Y3.out.grown hg6 (fun q hq => by have := KR3.out.rows.ge hq; have := HBA.out; omega))
               have S4 := Lib.hid (show base ≤ u4.heap.size from Nat.le_trans S3.out hg6.size)
               clear ho6 hg6))
          obtain ⟨RS, hRS⟩ : ∃ q, q = rs ++ [(zr, (.slice A8 j8 c8 : Value), row)] := ⟨_, rfl⟩
          obtain ⟨k1, hk1⟩ : ∃ q, q = kk + 1 := ⟨_, rfl⟩
          have HRS := Lib.hid (show RS.length = k1 by rw [hRS, hk1, HKK'.out]; simp)
          have hk1' : k1 = k + 1 := by rw [hk1, HKK'.out, HRL.out]
          have HK1 := Lib.hid hk1'
          have HK1K := Lib.hid hk1
          have hk113 : k1 ≤ 13 := by omega
          rw [← hRS] at KU4
          rw [← hk1] at KU4 ⊢
          clear hRS hk1 hk1' hkk12
          have hdec : decide ((k : Int) < (nL : Int)) = true := by simp; omega
          go_loopw [106, 18, 19] (fun j _ _ wr => Hid (Ext u4 wr) ∧ ∃ q : Nat, q ≤ k1 ∧ j = .int .i64 q) (fun j _ _ _ => k1 - (intOf j).toNat)
          case atStart => exact ⟨Lib.hid (Ext.refl _), 0, Nat.zero_le _, rfl⟩
          case round =>
            obtain ⟨hq, q, hqk, rfl⟩ := hrel
            rename World => u5
            by_cases hqlt : q < k1
            · obtain ⟨xq, hxq⟩ : ∃ x, RS[q]? = some x := ⟨_, List.getElem?_eq_getElem (by rw [HRS.out]; exact hqlt)⟩
              have KQ := Lib.hid (KU4.out.to hq.out)
              have hmem := KQ.out.all xq (List.mem_of_getElem? hxq)
              obtain ⟨zq, vq, lq⟩ := xq
              obtain ⟨Aq, jq, cq, hvq, hrq, hjq⟩ := hmem.1.sl
              clear hjq
              simp only at hvq
              subst hvq
              have h7 := KQ.out.roots.own
              have h6 := KQ.out.rows.own
              rw [HRS.out] at h7 h6
              replace h7 := Rd.own h7
              replace h6 := Rd.own h6
              obtain ⟨ad7, had7⟩ := h7.some_ (by omega) (by omega)
              obtain ⟨ad6, had6⟩ := h6.some_ (by omega) (by omega)
              subst had7 had6
              have d7 : u5.cell? (ad7.add q) = some (.int .u64 zq) := h7.cells q _ (by rw [Us_get, List.getElem?_map, hxq]; rfl)
              have d6 : u5.cell? (ad6.add q) = some (.slice Aq jq cq) := h6.cells q _ (by rw [List.getElem?_map, hxq]; rfl)
              have HI := Lib.hid (fun W (hW : Ext u5 W) => av_is (c := c) (d := d) KQ.out.av hmem.2 hrq W hW)
              have l0 := fun p : Later u5 => (KQ.out.box.to p.ext).cell 0
              have l1 := fun p : Later u5 => (KQ.out.box.to p.ext).cell 1
              have l6 := fun p : Later u5 => p.ext.cellOf d6
              simp only [List.getElem?_toArray, List.getElem?_cons_zero, List.getElem?_cons_succ] at l0 l1
              have hqk1 : ¬ k1 ≤ q := by omega
              have hqk2 : (q : Int) < (kk : Int) + 1 := by have := HK1K.out; omega
              have hqk3 : ¬ (kk : Int) + 1 ≤ (q : Int) := by omega
              clear hmem hxq h7 h6 hrq
              go_wp2_with fail
              refine wp_region_later u5 (Ext.refl _) (by kernel_rfl) (by kernel_rfl) ?_
              repeat (go_big_quiet_step (first | (go_at_call 21; with_reducible exact later_call HI.out)))
              refine wpQuiet_nil ?_
              rintro _ ⟨p, rfl⟩
              have HP := Lib.hid (hq.out.step p.ext)
              clear l0 l1 l6 d6 d7
              go_wp2_with fail
              go_roundw
              case rel => exact ⟨HP, q + 1, by omega, by go_num⟩
              case measure => simp [intOf]; omega
            · have hqe : k1 ≤ q := by omega
              have hqq : q = k1 := by omega
              have hqk2 : ¬ (q : Int) < (kk : Int) + 1 := by have := HK1K.out; omega
              have HFIN := Lib.hid (show ∃ A n c B m d ns fs row rs, KI u5 ba base A n c B m d ns fs zr (.slice A8 j8 c8) row (.slice A7 k1 c7) (.slice A6 k1 c6) rs ∧ rs.length = k + 1 ∧ row.length ≤ k + 1 ∧ k + 1 ≤ 12 from ⟨_, _, _, _, _, _, _, _, _, RS, KU4.out.to hq.out, by rw [HRS.out, HK1.out], HRow1.out, by omega⟩)
              have YF := Lib.hid (Y4.out.step hq.out)
              have SF := Lib.hid (show base ≤ u5.heap.size from Nat.le_trans S4.out hq.out.size)
              go_wp2_with fail
              go_roundw
              case rel => exact ⟨YF, k + 1, zr, by omega, by go_num, rfl, SF, HFIN⟩
              case measure => simp [intOf]; omega
      | false =>
        have HC := Lib.hid (av_put (c := c) (d := d) HK5.out.av HMP.out KK VX HKI.out (by have := HRow.out; omega) (by have := hF400.out; have := HRow.out; omega) _ (Ext.refl _))
        unfold MadeV at HC
        go_wp2_with fail
        rw [← H5.out, ← HbA.out]
        clear s1 x0 x1 x2 a0 c0 c1 c2
        refine HC.out.mono ?_
        rintro e w6 ⟨A5, n5, c5, B5, m5, d5, ns5, fs5, z5, rfl, hav5, hG5, hM5, hx6⟩
        obtain ⟨w7, hw7⟩ : ∃ w7, w7 = w6.alloc (.cells #[.slice A5 n5 c5, .slice B5 m5 d5] 25) := ⟨_, rfl⟩
        obtain ⟨B7, hx7, hs7⟩ := box_made hw7
        have H7 := Lib.hid hw7
        have HB8 := Lib.hid B7
        have K8 := Lib.hid (HK5.out.to (hx6.step hx7))
        have X8 := Lib.hid (X5.out.step (hx6.step hx7))
        have HXA8 := Lib.hid (HX5.out.to (hx6.step hx7))
        have Sw7 := Lib.hid (show base ≤ w7.heap.size from Nat.le_trans HS5.out (hx6.step hx7).size)
        have HAV8 := Lib.hid (hav5.to hx7)
        have HG := Lib.hid hG5
        have HM5 := Lib.hid hM5
        obtain ⟨bb, hbb⟩ : ∃ b, b = w6.heap.size := ⟨_, rfl⟩
        have Hbb := Lib.hid hbb
        have HLB := Lib.hid (show base ≤ bb by rw [hbb]; exact Nat.le_trans HS5.out hx6.size)
        rw [← hbb] at HB8
        clear hw7 B7 hx7 hs7 hbb hx6 hav5 hG5 hM5
        go_wp2_with fail
        rw [← H7.out, ← Hbb.out]
        obtain ⟨SS, hSS⟩ : ∃ SS : World → Prop, SS = (fun W => W.cell? ⟨bb, 0, none⟩ = some (.slice A5 n5 c5) ∧ W.cell? ⟨bb, 1, none⟩ = some (.slice B5 m5 d5) ∧ W.cell? ⟨bA, 2, none⟩ = some (.int .i64 VX)) := ⟨_, rfl⟩
        have mkS : ∀ W, Bx W bb #[.slice A5 n5 c5, .slice B5 m5 d5] → Bx W bA #[.bool false, .int .i64 KX, .int .i64 VX] → SS W := fun W h1 h2 => by rw [hSS]; exact ⟨h1.cell 0, h1.cell 1, h2.cell 2⟩
        have HMK := Lib.hid mkS
        have hS0 : SS w7.drew := mkS _ HB8.out.drew HXA8.out.drew
        have HSS := Lib.hid hSS
        have HRr := Lib.hid (rdr_put K8.out.rd (by have := HRow.out; omega) HMP.out.srt KK VX _ (Ext.refl w7).drew)
        clear hSS mkS
        refine wp_region_held (S := SS) (by kernel_rfl) ?_
        refine wpAnyH_take (i := 0) (v := .agg #[.slice A5 n5 c5, .slice B5 m5 d5]) rfl (by kernel_rfl) (by kernel_rfl) (by kernel_rfl) (fun _ _ _ h => h) (Or.inl ⟨by rfl, by intro W hW; rw [HSS.out] at hW; obtain ⟨g0, g1, g2⟩ := hW; go_simp⟩) hS0 ?_
        try simp only [Act.put, List.getElem_toArray, List.getElem_cons_succ, List.getElem_cons_zero, List.setIfInBounds_toArray, List.set_cons_zero, List.set_cons_succ]
        refine wpAnyH_take (i := 1) (v := .int .u64 z5) rfl (by kernel_rfl) (by kernel_rfl) (by kernel_rfl) (fun _ _ _ h => h) (Or.inl ⟨by rfl, by intro W hW; rw [HSS.out] at hW; obtain ⟨g0, g1, g2⟩ := hW; go_simp⟩) hS0 ?_
        try simp only [Act.put, List.getElem_toArray, List.getElem_cons_succ, List.getElem_cons_zero, List.setIfInBounds_toArray, List.set_cons_zero, List.set_cons_succ]
        refine wpAnyH_take (i := 2) (v := .slice A8 j8 c8) rfl (by kernel_rfl) (by kernel_rfl) (by kernel_rfl) (fun _ _ _ h => h) (Or.inl ⟨by rfl, by intro W hW; rw [HSS.out] at hW; obtain ⟨g0, g1, g2⟩ := hW; go_simp⟩) hS0 ?_
        try simp only [Act.put, List.getElem_toArray, List.getElem_cons_succ, List.getElem_cons_zero, List.setIfInBounds_toArray, List.set_cons_zero, List.set_cons_succ]
        refine wpAnyH_take (i := 3) (v := .int .i64 KK) rfl (by kernel_rfl) (by kernel_rfl) (by kernel_rfl) (fun _ _ _ h => h) (Or.inl ⟨by rfl, by intro W hW; rw [HSS.out] at hW; obtain ⟨g0, g1, g2⟩ := hW; go_simp⟩) hS0 ?_
        try simp only [Act.put, List.getElem_toArray, List.getElem_cons_succ, List.getElem_cons_zero, List.setIfInBounds_toArray, List.set_cons_zero, List.set_cons_succ]
        refine wpAnyH_take (i := 4) (v := .pointer (some ⟨bA, 2, none⟩)) rfl (by kernel_rfl) (by kernel_rfl) (by kernel_rfl) (fun _ _ _ h => h) (Or.inl ⟨by rfl, by intro W hW; rw [HSS.out] at hW; obtain ⟨g0, g1, g2⟩ := hW; go_simp⟩) hS0 ?_
        try simp only [Act.put, List.getElem_toArray, List.getElem_cons_succ, List.getElem_cons_zero, List.setIfInBounds_toArray, List.set_cons_zero, List.set_cons_succ]
        refine wpAnyH_take (i := 5) (v := .int .i64 VX) rfl (by kernel_rfl) (by kernel_rfl) (by kernel_rfl) (fun _ _ _ h => h) (Or.inl ⟨by rfl, by intro W hW; rw [HSS.out] at hW; obtain ⟨g0, g1, g2⟩ := hW; go_simp⟩) hS0 ?_
        try simp only [Act.put, List.getElem_toArray, List.getElem_cons_succ, List.getElem_cons_zero, List.setIfInBounds_toArray, List.set_cons_zero, List.set_cons_succ]
        refine held_one2 (i := 6) (by kernel_rfl) rfl (by rfl) ?_
        go_simp
        unfold RowS at HRr
        refine HRr.out.mono ?_
        rintro e w9 ⟨A9, j9, c9, rfl, hr9, hx9'⟩
        have hx9 : Ext w7 w9 := hx9'.undrew
        have K9 := Lib.hid (K8.out.to hx9)
        have X9 := Lib.hid (X8.out.step hx9)
        have HB9 := Lib.hid (HB8.out.to hx9)
        have HXA9 := Lib.hid (HXA8.out.to hx9)
        have HAV9 := Lib.hid (HAV8.out.to hx9)
        have HR9 := Lib.hid hr9
        have S9 := Lib.hid (show base ≤ w9.heap.size from Nat.le_trans Sw7.out hx9.size)
        have hS1 : SS w9 := HMK.out _ HB9.out HXA9.out
        clear hr9 hx9 hx9' hS0
        refine ⟨hS1, ?_⟩
        try simp only [Act.put, List.getElem_toArray, List.getElem_cons_succ, List.getElem_cons_zero, List.setIfInBounds_toArray, List.set_cons_zero, List.set_cons_succ]
        refine held_one2 (i := 7) (by kernel_rfl) rfl (by rfl) ?_
        refine wp_store_arx (.tmp 3) (.tmp 89) (by rfl) ba (by rfl) (.slice A5 n5 c5) (.slice B5 m5 d5) (by rfl) rfl rfl _ K9.out.box (by rfl) ?_
        intro v9 B9 O9
        have K10 := Lib.hid (K9.out.move HAV9.out HG.out HM5.out HR9.out B9 O9)
        have HB10 := Lib.hid (O9.bx HB9.out (by have := HLB.out; have := HBA.out; omega))
        have HXA10 := Lib.hid (O9.bx HXA9.out (by have := HLA.out; have := HBA.out; omega))
        have X10 := Lib.hid (O9.new X9.out (by have := HBA.out; omega))
        have Sv9 := Lib.hid (show base ≤ v9.heap.size from Nat.le_trans S9.out O9.size)
        have hS2 : SS v9 := HMK.out _ HB10.out HXA10.out
        clear B9 O9 hS1
        refine ⟨hS2, ?_⟩
        try simp only [Act.put, List.getElem_toArray, List.getElem_cons_succ, List.getElem_cons_zero, List.setIfInBounds_toArray, List.set_cons_zero, List.set_cons_succ]
        refine wpAnyH_take (i := 8) (v := .int .u64 z5) rfl (by kernel_rfl) (by kernel_rfl) (by kernel_rfl) (fun _ _ _ h => h) (Or.inl ⟨by rfl, by intro W hW; rw [HSS.out] at hW; obtain ⟨g0, g1, g2⟩ := hW; go_simp⟩) hS2 ?_
        try simp only [Act.put, List.getElem_toArray, List.getElem_cons_succ, List.getElem_cons_zero, List.setIfInBounds_toArray, List.set_cons_zero, List.set_cons_succ]
        refine wpAnyH_take (i := 9) (v := .slice A9 j9 c9) rfl (by kernel_rfl) (by kernel_rfl) (by kernel_rfl) (fun _ _ _ h => h) (Or.inl ⟨by rfl, by intro W hW; rw [HSS.out] at hW; obtain ⟨g0, g1, g2⟩ := hW; go_simp⟩) hS2 ?_
        try simp only [Act.put, List.getElem_toArray, List.getElem_cons_succ, List.getElem_cons_zero, List.setIfInBounds_toArray, List.set_cons_zero, List.set_cons_succ]
        refine ⟨by kernel_rfl, ?_⟩
        have HRow1 := Lib.hid (show (putR row KK VX).length ≤ k + 1 from Nat.le_trans (putR_len1 HMP.out.srt) (by have := HRow.out; omega))
        clear hS2
        obtain ⟨u1, hu1⟩ : ∃ u, u = v9.alloc (.cells #[.int .u64 z5] 27) := ⟨_, rfl⟩
        obtain ⟨Bu1, hxu1, hsu1⟩ := box_made hu1
        have Hu1 := Lib.hid hu1
        have KU1 := Lib.hid (K10.out.to hxu1)
        have YU1 := Lib.hid (X10.out.step hxu1)
        have cu1 := Lib.hid (show u1.cell? ⟨v9.heap.size, 0, none⟩ = some (.int .u64 z5) from Bu1.cell 0)
        have SU1 := Lib.hid (show base ≤ u1.heap.size from Nat.le_trans Sv9.out hxu1.size)
        obtain ⟨kk, hkk⟩ : ∃ q, q = rs.length := ⟨_, rfl⟩
        have HKK' := Lib.hid hkk
        have hkk12 : kk ≤ 12 := by rw [hkk, HRL.out]; exact hk12
        have KUr := Lib.hid KU1.out.roots
        rw [← hkk] at KUr
        clear hu1 Bu1 hxu1 hsu1 hkk
        go_wp2_with (first
          | (at_builtin
             rw [← Hu1.out]
             refine wpList_append_p _ rfl (.tmp 96) (.tmp 98) _ rfl base 27 i0 (.int .u64 0) 8 Try.underlying50 hi0 hz0 hz1 hz2 rfl isU ⟨0, rfl⟩ u7 kk (Us (rs.map (·.1))) (by rfl) KUr.out ⟨v9.heap.size, 0, none⟩ 1 (by rfl) (.int .u64 z5) cu1.out rfl ⟨_, rfl⟩ (by simp only [maxLen]; omega) (by omega) SU1.out ?_
             intro A7 c7 u2 ho7 hg7
             have KR2 := Lib.hid (KU1.out.root (by rw [← HKK'.out]; exact ho7) hg7)
             have Y2 := Lib.hid (YU1.out.grown hg7 (fun q hq => by have := KU1.out.roots.ge hq; have := HBA.out; omega))
             have S2 := Lib.hid (show base ≤ u2.heap.size from Nat.le_trans SU1.out hg7.size)
             obtain ⟨u3, hu3⟩ : ∃ u, u = u2.alloc (.cells #[.slice A9 j9 c9] 31) := ⟨_, rfl⟩
             obtain ⟨Bu3, hxu3, hsu3⟩ := box_made hu3
             have Hu3 := Lib.hid hu3
             have KR3 := Lib.hid (KR2.out.to hxu3)
             have Y3 := Lib.hid (Y2.out.step hxu3)
             have cu3 := Lib.hid (show u3.cell? ⟨u2.heap.size, 0, none⟩ = some (.slice A9 j9 c9) from Bu3.cell 0)
             have S3 := Lib.hid (show base ≤ u3.heap.size from Nat.le_trans S2.out hxu3.size)
             have KRr := Lib.hid KR3.out.rows
             rw [← HKK'.out] at KRr
             clear ho7 hg7 hu3 Bu3 hxu3 hsu3)
          | (at_builtin
             rw [← Hu3.out]
             refine wpList_append_p _ rfl (.tmp 100) (.tmp 102) _ rfl base 31 i1 (.slice none 0 0) 24 Try.underlying49 hi1 hy0 hy1 hy2 rfl isS ⟨_, _, _, rfl⟩ u6 kk (rs.map (·.2.1)) (by rfl) KRr.out ⟨u2.heap.size, 0, none⟩ 1 (by rfl) (.slice A9 j9 c9) cu3.out rfl ⟨_, _, _, rfl⟩ (by simp only [maxLen]; omega) (by omega) S3.out ?_
             intro A6 c6 u4 ho6 hg6
             have KU4 := Lib.hid (KR3.out.push (by rw [← HKK'.out]; exact ho6) hg6)
             have Y4 := Lib.hid (Y3.out.grown hg6 (fun q hq => by have := KR3.out.rows.ge hq; have := HBA.out; omega))
             have S4 := Lib.hid (show base ≤ u4.heap.size from Nat.le_trans S3.out hg6.size)
             clear ho6 hg6))
        obtain ⟨RS, hRS⟩ : ∃ q, q = rs ++ [(z5, (.slice A9 j9 c9 : Value), (putR row KK VX))] := ⟨_, rfl⟩
        obtain ⟨k1, hk1⟩ : ∃ q, q = kk + 1 := ⟨_, rfl⟩
        have HRS := Lib.hid (show RS.length = k1 by rw [hRS, hk1, HKK'.out]; simp)
        have hk1' : k1 = k + 1 := by rw [hk1, HKK'.out, HRL.out]
        have HK1 := Lib.hid hk1'
        have HK1K := Lib.hid hk1
        have hk113 : k1 ≤ 13 := by omega
        rw [← hRS] at KU4
        rw [← hk1] at KU4 ⊢
        clear hRS hk1 hk1' hkk12
        have hdec : decide ((k : Int) < (nL : Int)) = true := by simp; omega
        go_loopw [106, 18, 19] (fun j _ _ wr => Hid (Ext u4 wr) ∧ ∃ q : Nat, q ≤ k1 ∧ j = .int .i64 q) (fun j _ _ _ => k1 - (intOf j).toNat)
        case atStart => exact ⟨Lib.hid (Ext.refl _), 0, Nat.zero_le _, rfl⟩
        case round =>
          obtain ⟨hq, q, hqk, rfl⟩ := hrel
          rename World => u5
          by_cases hqlt : q < k1
          · obtain ⟨xq, hxq⟩ : ∃ x, RS[q]? = some x := ⟨_, List.getElem?_eq_getElem (by rw [HRS.out]; exact hqlt)⟩
            have KQ := Lib.hid (KU4.out.to hq.out)
            have hmem := KQ.out.all xq (List.mem_of_getElem? hxq)
            obtain ⟨zq, vq, lq⟩ := xq
            obtain ⟨Aq, jq, cq, hvq, hrq, hjq⟩ := hmem.1.sl
            clear hjq
            simp only at hvq
            subst hvq
            have h7 := KQ.out.roots.own
            have h6 := KQ.out.rows.own
            rw [HRS.out] at h7 h6
            replace h7 := Rd.own h7
            replace h6 := Rd.own h6
            obtain ⟨ad7, had7⟩ := h7.some_ (by omega) (by omega)
            obtain ⟨ad6, had6⟩ := h6.some_ (by omega) (by omega)
            subst had7 had6
            have d7 : u5.cell? (ad7.add q) = some (.int .u64 zq) := h7.cells q _ (by rw [Us_get, List.getElem?_map, hxq]; rfl)
            have d6 : u5.cell? (ad6.add q) = some (.slice Aq jq cq) := h6.cells q _ (by rw [List.getElem?_map, hxq]; rfl)
            have HI := Lib.hid (fun W (hW : Ext u5 W) => av_is (c := c5) (d := d5) KQ.out.av hmem.2 hrq W hW)
            have l0 := fun p : Later u5 => (KQ.out.box.to p.ext).cell 0
            have l1 := fun p : Later u5 => (KQ.out.box.to p.ext).cell 1
            have l6 := fun p : Later u5 => p.ext.cellOf d6
            simp only [List.getElem?_toArray, List.getElem?_cons_zero, List.getElem?_cons_succ] at l0 l1
            have hqk1 : ¬ k1 ≤ q := by omega
            have hqk2 : (q : Int) < (kk : Int) + 1 := by have := HK1K.out; omega
            have hqk3 : ¬ (kk : Int) + 1 ≤ (q : Int) := by omega
            clear hmem hxq h7 h6 hrq
            go_wp2_with fail
            refine wp_region_later u5 (Ext.refl _) (by kernel_rfl) (by kernel_rfl) ?_
            repeat (go_big_quiet_step (first | (go_at_call 21; with_reducible exact later_call HI.out)))
            refine wpQuiet_nil ?_
            rintro _ ⟨p, rfl⟩
            have HP := Lib.hid (hq.out.step p.ext)
            clear l0 l1 l6 d6 d7
            go_wp2_with fail
            go_roundw
            case rel => exact ⟨HP, q + 1, by omega, by go_num⟩
            case measure => simp [intOf]; omega
          · have hqe : k1 ≤ q := by omega
            have hqq : q = k1 := by omega
            have hqk2 : ¬ (q : Int) < (kk : Int) + 1 := by have := HK1K.out; omega
            have HFIN := Lib.hid (show ∃ A n c B m d ns fs row rs, KI u5 ba base A n c B m d ns fs z5 (.slice A9 j9 c9) row (.slice A7 k1 c7) (.slice A6 k1 c6) rs ∧ rs.length = k + 1 ∧ row.length ≤ k + 1 ∧ k + 1 ≤ 12 from ⟨_, _, _, _, _, _, _, _, _, RS, KU4.out.to hq.out, by rw [HRS.out, HK1.out], HRow1.out, by omega⟩)
            have YF := Lib.hid (Y4.out.step hq.out)
            have SF := Lib.hid (show base ≤ u5.heap.size from Nat.le_trans S4.out hq.out.size)
            go_wp2_with fail
            go_roundw
            case rel => exact ⟨YF, k + 1, z5, by omega, by go_num, rfl, SF, HFIN⟩
            case measure => simp [intOf]; omega
    · have hge : nL ≤ k := by omega
      go_wp2_with fail
      refine (HAl.out _).mono ?_
      rintro e y1 ⟨rfl, hy1⟩
      have KE := Lib.hid (HK.out.to hy1)
      have q0 : y1.cell? ⟨ba, 0, none⟩ = some (.slice A n c) := KE.out.box.cell 0
      have q1 : y1.cell? ⟨ba, 1, none⟩ = some (.slice B m d) := KE.out.box.cell 1
      have HW := Lib.hid (want_right A B n m c d ns fs y1 KE.out.av.ar KE.out.av.n1 KE.out.av.m1 true (by simp [KE.out.av.may]))
      have Y1 := Lib.hid (hx.out.step hy1)
      clear hy1
      go_wp2_with fail
      refine HW.out.mono ?_
      rintro e y2 ⟨rfl, hy2⟩
      have Y2 := Lib.hid (Y1.out.step hy2)
      clear hy2
      go_wp2_with fail
      go_ret
      exact ⟨rfl, Y2.out⟩

theorem TreapKeeps_walk (w : World) (A : Option Addr) (n c : Nat) (acs : List Ac) (h : Rd w 3 A n (flat Ac.cells acs)) (hn : n ≤ c) (hc : c ≤ maxLen) (_ : ∀ y ∈ acs, y.Ok) :
    Calls Try.prog 4 #[.slice A n c] w fun e w' => e = .returned (.bool true) ∧ Ext w w' :=
  keeps6_m A n c acs w h hn hc

end Go.Proofs.Ytjiehlhnocgneaa
