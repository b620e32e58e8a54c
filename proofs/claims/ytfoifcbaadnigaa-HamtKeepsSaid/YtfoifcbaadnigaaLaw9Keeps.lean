/-
  The walk of HamtKeeps.
-/
import Derived.Test.YtfoifcbaadnigaaHtArs
import Derived.Test.YtfoifcbaadnigaaActOpen9
import Derived.Test.YtfoifcbaadnigaaGB
import Derived.Test.YtfoifcbaadnigaaGG
import Derived.Deep.CutBlock
set_option linter.unusedVariables false
set_option linter.unusedSimpArgs false
namespace Go.Proofs.Ytfoifcbaadnigaa
open Go.RowKit

theorem key30 (q : Int) : ∃ K, (wrap64 (q.tmod 30 + 30)).tmod 30 = K ∧ (0 ≤ K ∧ K < 60) := by
  have h1 : -30 < q.tmod 30 := Int.lt_tmod_of_pos q (by omega)
  have h2 : q.tmod 30 < 30 := Int.tmod_lt_of_pos q (by omega)
  have e : wrap64 (q.tmod 30 + 30) = q.tmod 30 + 30 := by unfold wrap64; omega
  have h3 : 0 ≤ (q.tmod 30 + 30).tmod 30 := Int.tmod_nonneg _ (by omega)
  have h4 : (q.tmod 30 + 30).tmod 30 < 30 := Int.tmod_lt_of_pos _ (by omega)
  exact ⟨_, rfl, by rw [e]; exact ⟨by omega, by omega⟩⟩
/-- What the rounds keep: a box with an arena, the table of a row in it, the row's slice. -/
structure KJ (W : World) (ba : Nat) (A : Option Addr) (n c : Nat) (B : Option Addr) (m d : Nat) (ns : List Nd) (fs : List Int) (zr : Int) (v : Value) (row : Row) : Prop where
  box : Bx W ba #[.slice A n c, .slice B m d]
  av : Av W A n B m ns fs
  tab : TabV ns zr row
  rd : RdR W v row
  sm : Sm row
section
variable {W W' : World} {ba n c m d : Nat} {A B : Option Addr} {ns : List Nd} {fs : List Int} {zr : Int} {v : Value} {row : Row}
theorem KJ.to (h : KJ W ba A n c B m d ns fs zr v row) (hx : Ext W W') : KJ W' ba A n c B m d ns fs zr v row := ⟨h.box.to hx, h.av.to hx, h.tab, h.rd.to hx, h.sm⟩
theorem Av.past (h : Av W A n B m ns fs) {b : Nat} {u x : Value} (hB : Bx W b #[u, x]) (hu : ∀ k z, u ≠ .int k z) (hx : ∀ k z, x ≠ .int k z) (ho : Only b W W') : Av W' A n B m ns fs := ⟨h.ar.past hB (noInt hu hx) ho, h.may⟩
theorem KJ.past (h : KJ W ba A n c B m d ns fs zr v row) {b : Nat} {u x : Value} (hB : Bx W b #[u, x]) (hu : ∀ k z, u ≠ .int k z) (hx : ∀ k z, x ≠ .int k z) (ho : Only b W W') (hb : ba ≠ b) : KJ W' ba A n c B m d ns fs zr v row :=
  ⟨ho.bx h.box hb, h.av.past hB hu hx ho, h.tab, h.rd.past hB hu hx ho, h.sm⟩
end
/-- No reference is the table of an empty row. -/
theorem TabV.zero {ns : List Nd} {z : Int} (h : TabV ns z []) : z = 0 := isH_nil.1 h.isH
theorem del_head {x : Int × Int} {l : Row} (h : Srt (x :: l)) : delR (x :: l) x.1 = l := by
  have h1 := (List.pairwise_cons.1 h).1
  unfold delR
  rw [List.filter_cons]
  simp only [ne_eq, not_true_eq_false, decide_false, Bool.false_eq_true, if_false]
  exact List.filter_eq_self.2 (fun y hy => by have := h1 y hy; simp; omega)

set_option maxHeartbeats 51200000 in
set_option maxRecDepth 100000 in
theorem keeps9_m (AL : Option Addr) (nL cL : Nat) (acs : List Ac) (w : World) (h : Rd w 3 AL nL (flat Ac.cells acs)) (hnc : nL ≤ cL) (hc : cL ≤ maxLen) :
    Calls Try.prog 3 #[.slice AL nL cL] w fun e w' => e = .returned (.bool true) ∧ Ext w w' := by
  have HAl := Lib.hid (fun W => alive9_is W)
  have HN := Lib.hid (new_yes 512 w (by omega) (by omega))
  rw [show ((512 : Nat) : Int) = 512 from rfl] at HN
  have hmay : ArMay (List.replicate 512 (bare 0)) (down 512) := new_may (by omega) (by omega)
  obtain ⟨ns0, hns⟩ : ∃ ns, ns = List.replicate 512 (bare 0) := ⟨_, rfl⟩
  obtain ⟨fs0, hfs⟩ : ∃ fs, fs = down 512 := ⟨_, rfl⟩
  unfold NewA at HN
  rw [← hns, ← hfs] at hmay HN
  have HMay := Lib.hid hmay
  have HH := Lib.hid h
  have HL := Lib.hid (show acs.length = nL by have := h.1; rw [flat_length Ac.cells_length] at this; omega)
  have hBn : nL = 0 ∨ ∃ ad, AL = some ad := by
    rcases Nat.eq_zero_or_pos nL with h' | h'
    · exact .inl h'
    · exact .inr (h.some_ h' (by omega))
  have hAL : AL = none → nL = 0 := fun e => by
    rcases hBn with h' | ⟨ad, h'⟩
    · exact h'
    · rw [e] at h'; cases h'
  simp only [maxLen] at hc
  clear h hmay hns hfs
  go_enter Try.func3, Try.ntmps3
  go_wp2_with fail
  refine HN.out.mono ?_; rintro e w1 ⟨g1, cc1, h1, dd1, rfl, hd11, hd12, hA1, hx1, hf1⟩
  obtain ⟨w2, hw2⟩ : ∃ w2, w2 = w1.alloc (.cells #[.slice (some ⟨g1, 0, none⟩) 512 cc1, .slice (some ⟨h1, 0, none⟩) 512 dd1] 26) := ⟨_, rfl⟩
  obtain ⟨B2, hx2, hs2⟩ := box_made hw2
  obtain ⟨ba, hba⟩ : ∃ b, b = w1.heap.size := ⟨_, rfl⟩
  obtain ⟨w3, hw3⟩ : ∃ w3, w3 = (w2.alloc (.cells #[] 43)).alloc (.cells #[] 43) := ⟨_, rfl⟩
  have hx3 : Ext w2 w3 := by rw [hw3]; exact ((Ext.refl _).new _).new _
  have HBA := Lib.hid (show w.heap.size ≤ ba from by rw [hba]; exact hx1.size)
  have X3 := Lib.hid (hx1.step (hx2.step hx3))
  rw [← hba] at B2
  have HK0 := Lib.hid (show KJ w3 ba (some ⟨g1, 0, none⟩) 512 cc1 (some ⟨h1, 0, none⟩) 512 dd1 ns0 fs0 0 (.slice (some ⟨ba + 1, 0, none⟩) 0 0) [] from
    ⟨B2.to hx3, ⟨hA1.to (hx2.step hx3), HMay.out⟩, TabV.nil _, RdR.nilq _ _, Sm.nil⟩)
  have H2 := Lib.hid hw2
  have H3 := Lib.hid hw3
  have Hba := Lib.hid hba
  have Hs2 := Lib.hid hs2
  clear hw2 hw3 hA1 hx1 hf1 hd11 hd12 B2 hx2 hx3 hba hs2
  go_upto_block 0 with fail
  rw [← H2.out, ← H3.out, ← Hba.out]
  go_cut [5, 6, 7, 8, 9, 10, 11, 12, 13, 14] from 28 to 109 (fun s5 _ s7 _ _ _ _ _ _ _ wr => Ext w wr ∧ ∃ (A : Option Addr) (n c : Nat) (B : Option Addr) (m d : Nat) (zr : Int) (A7 : Option Addr) (j7 c7 : Nat), s5 = .int .u64 zr ∧ s7 = .slice A7 j7 c7 ∧ Hid (∃ ns fs row, KJ wr ba A n c B m d ns fs zr (.slice A7 j7 c7) row))
  case first =>
    go_wp2_with fail
    go_loopw [28, 5, 6, 7, 8, 9, 10, 11, 12, 13, 14] (fun j r _ v7 _ _ _ _ _ _ _ wr => Hid (Ext w wr) ∧ ∃ (k : Nat) (zr : Int) (A7 : Option Addr) (j7 c7 : Nat), k ≤ nL ∧ j = .int .i64 k ∧ r = .int .u64 zr ∧ v7 = .slice A7 j7 c7 ∧ Hid (∃ A n c B m d ns fs row, KJ wr ba A n c B m d ns fs zr (.slice A7 j7 c7) row)) (fun j _ _ _ _ _ _ _ _ _ _ _ => nL - (intOf j).toNat)
    case atStart =>
      exact ⟨X3, 0, 0, _, _, _, Nat.zero_le _, rfl, rfl, rfl, Lib.hid ⟨_, _, _, _, _, _, _, _, [], HK0.out⟩⟩
    case round =>
      obtain ⟨hx, k, zr, A7, j7, c7, hk, rfl, rfl, rfl, hKI⟩ := hrel
      rename World => w4
      obtain ⟨A, n, c, B, m, d, ns, fs, row, hK⟩ := hKI.out
      have HK := Lib.hid hK
      clear hK hKI HK0 X3
      by_cases hlt : k < nL
      · obtain ⟨ad, rfl⟩ : ∃ ad, AL = some ad := by
          rcases hBn with h' | h'
          · omega
          · exact h'
        obtain ⟨xa, hxa⟩ : ∃ x, acs[k]? = some x := ⟨_, List.getElem?_eq_getElem (by have := HL.out; omega)⟩
        have t0 := (HH.out.to hx.out).cells (k * 3 + 0) (.bool xa.drop) ((flat_get Ac.cells_length acs k 0 xa hxa (by omega)).trans rfl)
        have t1 := (HH.out.to hx.out).cells (k * 3 + 1) (.int .i64 xa.kind) ((flat_get Ac.cells_length acs k 1 xa hxa (by omega)).trans rfl)
        have t2 := (HH.out.to hx.out).cells (k * 3 + 2) (.int .i64 xa.at_) ((flat_get Ac.cells_length acs k 2 xa hxa (by omega)).trans rfl)
        rw [← addr_add] at t1 t2
        obtain ⟨dl, KX, VX⟩ := xa
        have c0 : w4.cell? (ad.add (k * 3)) = some (.bool dl) := t0
        have c1 : w4.cell? { block := (ad.add (k * 3)).block, off := (ad.add (k * 3)).off + 1 } = some (.int .i64 KX) := t1
        have c2 : w4.cell? { block := (ad.add (k * 3)).block, off := (ad.add (k * 3)).off + 2 } = some (.int .i64 VX) := t2
        clear t0 t1 t2 hxa
        have hnk : ¬ nL ≤ k := by omega
        obtain ⟨w5, hw5⟩ : ∃ w5, w5 = w4.alloc (.cells #[.bool dl, .int .i64 KX, .int .i64 VX] 34) := ⟨_, rfl⟩
        obtain ⟨B5, hx5, hs5⟩ := box_made hw5
        have H5 := Lib.hid hw5
        have HX5 := Lib.hid B5
        have X5 := Lib.hid (hx.out.step hx5)
        have HK5 := Lib.hid (HK.out.to hx5)
        have s1 : w5.cell? ⟨ba, 1, none⟩ = some (.slice B m d) := HK5.out.box.cell 1
        have x0 : w5.cell? ⟨w4.heap.size, 0, none⟩ = some (.bool dl) := HX5.out.cell 0
        have x1 : w5.cell? ⟨w4.heap.size, 1, none⟩ = some (.int .i64 KX) := HX5.out.cell 1
        have x2 : w5.cell? ⟨w4.heap.size, 2, none⟩ = some (.int .i64 VX) := HX5.out.cell 2
        have hmf := HK5.out.av.ar.lenF
        have HMF := Lib.hid hmf
        rw [hw5] at s1 x0 x1 x2
        clear hw5 B5 hx5 hmf
        by_cases h14 : 14 ≤ k
        · have h14' : (14 : Int) ≤ (k : Int) := by omega
          go_wp2_with fail
          rw [← H5.out]
          go_meet
          case rel => exact ⟨X5.out, A, n, c, B, m, d, zr, A7, j7, c7, rfl, rfl, Lib.hid ⟨ns, fs, row, HK5.out⟩⟩
        have h14' : ¬ (14 : Int) ≤ (k : Int) := by omega
        by_cases h200 : m < 200
        · have h200' : (m : Int) < 200 := by omega
          go_wp2_with fail
          rw [← H5.out]
          go_meet
          case rel => exact ⟨X5.out, A, n, c, B, m, d, zr, A7, j7, c7, rfl, rfl, Lib.hid ⟨ns, fs, row, HK5.out⟩⟩
        have h200' : ¬ (m : Int) < 200 := by omega
        have hF200 := Lib.hid (show 200 ≤ fs.length by have := HMF.out; omega)
        obtain ⟨KK, hKK, hKKI⟩ := key30 KX
        have HKI := Lib.hid hKKI
        clear hKKI
        obtain ⟨w6, hw6⟩ : ∃ w6, w6 = w5.alloc (.cells #[.slice none 0 0, .slice none 0 0] 26) := ⟨_, rfl⟩
        obtain ⟨B6, hx6, hs6⟩ := box_made hw6
        obtain ⟨bb, hbb⟩ : ∃ b, b = w4.heap.size + 1 := ⟨_, rfl⟩
        have Hbb := Lib.hid hbb
        rw [hs5, ← hbb] at B6
        have H6 := Lib.hid hw6
        have HBb6 := Lib.hid B6
        have HX6 := Lib.hid (HX5.out.to hx6)
        have X6 := Lib.hid (X5.out.step hx6)
        have K6 := Lib.hid (HK5.out.to hx6)
        have HNE := Lib.hid (show ba ≠ bb ∧ w.heap.size ≤ bb from by have h1 := HK.out.box.lt; have h2 := HBA.out; omega)
        have y0 : w6.cell? ⟨ba, 0, none⟩ = some (.slice A n c) := K6.out.box.cell 0
        have y1 : w6.cell? ⟨ba, 1, none⟩ = some (.slice B m d) := K6.out.box.cell 1
        have y2 : w6.cell? ⟨w4.heap.size, 0, none⟩ = some (.bool dl) := HX6.out.cell 0
        have y3 : w6.cell? ⟨w4.heap.size, 2, none⟩ = some (.int .i64 VX) := HX6.out.cell 2
        obtain ⟨bx, hbx⟩ : ∃ b, b = w4.heap.size := ⟨_, rfl⟩
        have Hbx := Lib.hid hbx
        rw [hw6, H5.out] at y0 y1 y2 y3
        rw [← hbx] at HX6
        clear hw6 B6 hx6 hs6 hbb hbx hs5
        cases dl with
        | true =>
          by_cases hhas : HasK row KK
          · have HHas := Lib.hid hhas
            have HC := Lib.hid (tv_del (c := c) (d := d) K6.out.av K6.out.tab K6.out.sm KK HKI.out hhas (by have := hF200.out; omega) _ (Ext.refl _))
            unfold MadeT at HC
            clear hhas
            go_wp2_with fail
            rw [← H5.out, ← H6.out, ← Hbb.out]
            refine HC.out.mono ?_
            rintro e w7 ⟨A5, n5, c5, B5, m5, d5, ns5, fs5, z5, rfl, hav5, hG5, hT5, hx7⟩
            have HBb7 := Lib.hid (HBb6.out.to hx7)
            have HAv7 := Lib.hid hav5
            have HG7 := Lib.hid hG5
            have HT7 := Lib.hid hT5
            have K7 := Lib.hid (K6.out.to hx7)
            have X7 := Lib.hid (X6.out.step hx7)
            have HX7 := Lib.hid (HX6.out.to hx7)
            clear hav5 hG5 hT5 hx7 y0 y1 y2 y3 x0 x1 x2 s1 c0 c1 c2
            go_wp2_with (first
              | (refine wpList_store_ar (by rfl) (.tmp 12) (.tmp 55) (by rfl) bb (by rfl) (.slice A5 n5 c5) (.slice B5 m5 d5) (by rfl) rfl rfl _ HBb7.out (by simp) ?_
                 intro w8 B8 O8
                 have HBb8 := Lib.hid (show Bx w8 bb #[.slice A5 n5 c5, .slice B5 m5 d5] from B8)
                 have HAv8 := Lib.hid (HAv7.out.past HBb7.out (by simp) (by simp) O8)
                 have K8 := Lib.hid (K7.out.past HBb7.out (by simp) (by simp) O8 HNE.out.1)
                 have X8 := Lib.hid (O8.new X7.out HNE.out.2)
                 have HAt := Lib.hid (rdr_at K8.out.rd (by have h1 := K8.out.sm.le; omega) KK _ (Ext.refl _))
                 clear B8 O8))
            unfold AtA at HAt
            refine HAt.out.mono ?_
            rintro e w8b ⟨⟨hno, rfl⟩ | ⟨jj, vv, hjj, rfl⟩, hx8⟩
            · exact absurd HHas.out hno
            have K8b := Lib.hid (K8.out.to hx8)
            have X8b := Lib.hid (X8.out.step hx8)
            have HBb8b := Lib.hid (HBb8.out.to hx8)
            have HAv8b := Lib.hid (HAv8.out.to hx8)
            have hjn : ¬ ((jj : Int) < 0) := by omega
            clear hx8 hjj
            have HRr := Lib.hid (rdr_del K8b.out.rd (by have h1 := K8b.out.sm.le; omega) KK _ (Ext.refl _))
            unfold RowS at HRr
            go_wp2_with fail
            refine HRr.out.mono ?_
            rintro e w9 ⟨A9, j9, c9, rfl, hr9, hx9⟩
            have K9 := Lib.hid (K8b.out.to hx9)
            have X9 := Lib.hid (X8b.out.step hx9)
            have HBb9 := Lib.hid (HBb8b.out.to hx9)
            have HAv9 := Lib.hid (HAv8b.out.to hx9)
            have HR9 := Lib.hid hr9
            have k0 : w9.cell? ⟨bb, 0, none⟩ = some (.slice A5 n5 c5) := HBb9.out.cell 0
            have k1 : w9.cell? ⟨bb, 1, none⟩ = some (.slice B5 m5 d5) := HBb9.out.cell 1
            clear hr9 hx9 
            go_wp2_with (first
              | (refine wpList_store_ar (by rfl) (.tmp 3) (.tmp 95) (by rfl) ba (by rfl) (.slice A5 n5 c5) (.slice B5 m5 d5) (by rfl) rfl rfl _ K9.out.box (by simp) ?_
                 intro w10 B10 O10
                 have HB10 := Lib.hid (show Bx w10 ba #[.slice A5 n5 c5, .slice B5 m5 d5] from B10)
                 have HAv10 := Lib.hid (HAv9.out.past K9.out.box (by simp) (by simp) O10)
                 have HR10 := Lib.hid (HR9.out.past K9.out.box (by simp) (by simp) O10)
                 have HO10 := Lib.hid (K9.out.rd.past K9.out.box (by simp) (by simp) O10)
                 have X10 := Lib.hid (O10.new X9.out HBA.out)
                 have g0 : w10.cell? ⟨ba, 0, none⟩ = some (.slice A5 n5 c5) := HB10.out.cell 0
                 have g1 : w10.cell? ⟨ba, 1, none⟩ = some (.slice B5 m5 d5) := HB10.out.cell 1
                 have HSm := Lib.hid (K8b.out.sm.del KK)
                 have HI1 := Lib.hid (tv_is (c := c5) (d := d5) HAv10.out HT7.out HSm.out HR10.out _ (Ext.refl _))
                 clear B10 O10 k0 k1))
            refine HI1.out.mono ?_
            rintro e w11 ⟨rfl, hx11⟩
            have HI2 := Lib.hid (tv_is (c := c5) (d := d5) (HAv10.out.to hx11) (K9.out.tab.grow HG7.out) K9.out.sm (HO10.out.to hx11) _ (Ext.refl _))
            have g2 : w11.cell? ⟨ba, 0, none⟩ = some (.slice A5 n5 c5) := (HB10.out.to hx11).cell 0
            have g3 : w11.cell? ⟨ba, 1, none⟩ = some (.slice B5 m5 d5) := (HB10.out.to hx11).cell 1
            have X11 := Lib.hid hx11
            clear hx11 g0 g1
            go_wp2_with fail
            refine HI2.out.mono ?_
            rintro e w12 ⟨rfl, hx12⟩
            have X12 := Lib.hid (X11.out.step hx12)
            clear hx12 g2 g3
            go_wp2_with fail
            go_roundw
            case rel => exact ⟨Lib.hid (X10.out.step X12.out), k + 1, z5, A9, j9, c9, by omega, by go_num, rfl, rfl, Lib.hid ⟨_, _, _, _, _, _, _, _, _, ⟨HB10.out.to X12.out, HAv10.out.to X12.out, HT7.out, HR10.out.to X12.out, HSm.out⟩⟩⟩
            case measure => simp [intOf]; omega
          · have HHas := Lib.hid hhas
            have HC := Lib.hid (tv_delnone (c := c) (d := d) K6.out.av K6.out.tab K6.out.sm KK hhas _ (Ext.refl _))
            unfold ErrH at HC
            clear hhas
            go_wp2_with fail
            rw [← H5.out, ← H6.out, ← Hbb.out]
            refine HC.out.mono ?_
            rintro e w7 ⟨rfl, hx7⟩
            have HBb7 := Lib.hid (HBb6.out.to hx7)
            have K7 := Lib.hid (K6.out.to hx7)
            have X7 := Lib.hid (X6.out.step hx7)
            clear hx7 y0 y1 y2 y3 x0 x1 x2 s1 c0 c1 c2
            go_wp2_with (first
              | (refine wpList_store_ar (by rfl) (.tmp 12) (.tmp 55) (by rfl) bb (by rfl) (.slice none 0 0) (.slice none 0 0) (by rfl) rfl rfl _ HBb7.out (by simp) ?_
                 intro w8 B8 O8
                 have K8 := Lib.hid (K7.out.past HBb7.out (by simp) (by simp) O8 HNE.out.1)
                 have X8 := Lib.hid (O8.new X7.out HNE.out.2)
                 have HAt := Lib.hid (rdr_at K8.out.rd (by have h1 := K8.out.sm.le; omega) KK _ (Ext.refl _))
                 clear B8 O8))
            unfold AtA at HAt
            refine HAt.out.mono ?_
            rintro e w8b ⟨⟨hno, rfl⟩ | ⟨jj, vv, hjj, rfl⟩, hx8⟩
            case inr => exact absurd ⟨vv, List.mem_of_getElem? hjj⟩ HHas.out
            have K8b := Lib.hid (K8.out.to hx8)
            have X8b := Lib.hid (X8.out.step hx8)
            clear hx8 hno
            go_wp2_with fail
            go_roundw
            case rel => exact ⟨X8b, k + 1, zr, A7, j7, c7, by omega, by go_num, rfl, rfl, Lib.hid ⟨_, _, _, _, _, _, _, _, _, K8b.out⟩⟩
            case measure => simp [intOf]; omega
        | false =>
          have HC := Lib.hid (tv_put (c := c) (d := d) K6.out.av K6.out.tab K6.out.sm KK VX HKI.out (by have := hF200.out; omega) _ (Ext.refl _))
          unfold MadeT at HC
          go_wp2_with fail
          rw [← H5.out, ← H6.out, ← Hbb.out]
          refine HC.out.mono ?_
          rintro e w7 ⟨A5, n5, c5, B5, m5, d5, ns5, fs5, z5, rfl, hav5, hG5, hT5, hx7⟩
          have HBb7 := Lib.hid (HBb6.out.to hx7)
          have HAv7 := Lib.hid hav5
          have HG7 := Lib.hid hG5
          have HT7 := Lib.hid hT5
          have K7 := Lib.hid (K6.out.to hx7)
          have X7 := Lib.hid (X6.out.step hx7)
          have HX7 := Lib.hid (HX6.out.to hx7)
          clear hav5 hG5 hT5 hx7 y0 y1 y2 y3 x0 x1 x2 s1 c0 c1 c2
          go_wp2_with (first
            | (refine wpList_store_ar (by rfl) (.tmp 12) (.tmp 85) (by rfl) bb (by rfl) (.slice A5 n5 c5) (.slice B5 m5 d5) (by rfl) rfl rfl _ HBb7.out (by simp) ?_
               intro w8 B8 O8
               have HBb8 := Lib.hid (show Bx w8 bb #[.slice A5 n5 c5, .slice B5 m5 d5] from B8)
               have HAv8 := Lib.hid (HAv7.out.past HBb7.out (by simp) (by simp) O8)
               have K8 := Lib.hid (K7.out.past HBb7.out (by simp) (by simp) O8 HNE.out.1)
               have X8 := Lib.hid (O8.new X7.out HNE.out.2)
               have HX8 := Lib.hid (O8.bx HX7.out (by have := Hbx.out; have := Hbb.out; omega))
               have HRr := Lib.hid (rdr_put K8.out.rd (by have h1 := K8.out.sm.le; omega) K8.out.sm.1 KK VX _ (Ext.refl _))
               have z2 : w8.cell? ⟨w4.heap.size, 2, none⟩ = some (.int .i64 VX) := by rw [← Hbx.out]; exact HX8.out.cell 2
               clear B8 O8))
          unfold RowS at HRr
          refine HRr.out.mono ?_
          rintro e w9 ⟨A9, j9, c9, rfl, hr9, hx9⟩
          have K9 := Lib.hid (K8.out.to hx9)
          have X9 := Lib.hid (X8.out.step hx9)
          have HBb9 := Lib.hid (HBb8.out.to hx9)
          have HAv9 := Lib.hid (HAv8.out.to hx9)
          have HR9 := Lib.hid hr9
          have k0 : w9.cell? ⟨bb, 0, none⟩ = some (.slice A5 n5 c5) := HBb9.out.cell 0
          have k1 : w9.cell? ⟨bb, 1, none⟩ = some (.slice B5 m5 d5) := HBb9.out.cell 1
          clear hr9 hx9 z2
          go_wp2_with (first
            | (refine wpList_store_ar (by rfl) (.tmp 3) (.tmp 95) (by rfl) ba (by rfl) (.slice A5 n5 c5) (.slice B5 m5 d5) (by rfl) rfl rfl _ K9.out.box (by simp) ?_
               intro w10 B10 O10
               have HB10 := Lib.hid (show Bx w10 ba #[.slice A5 n5 c5, .slice B5 m5 d5] from B10)
               have HAv10 := Lib.hid (HAv9.out.past K9.out.box (by simp) (by simp) O10)
               have HR10 := Lib.hid (HR9.out.past K9.out.box (by simp) (by simp) O10)
               have HO10 := Lib.hid (K9.out.rd.past K9.out.box (by simp) (by simp) O10)
               have X10 := Lib.hid (O10.new X9.out HBA.out)
               have g0 : w10.cell? ⟨ba, 0, none⟩ = some (.slice A5 n5 c5) := HB10.out.cell 0
               have g1 : w10.cell? ⟨ba, 1, none⟩ = some (.slice B5 m5 d5) := HB10.out.cell 1
               have HSm := Lib.hid (K8.out.sm.put HKI.out VX)
               have HI1 := Lib.hid (tv_is (c := c5) (d := d5) HAv10.out HT7.out HSm.out HR10.out _ (Ext.refl _))
               clear B10 O10 k0 k1))
          refine HI1.out.mono ?_
          rintro e w11 ⟨rfl, hx11⟩
          have HI2 := Lib.hid (tv_is (c := c5) (d := d5) (HAv10.out.to hx11) (K9.out.tab.grow HG7.out) K9.out.sm (HO10.out.to hx11) _ (Ext.refl _))
          have g2 : w11.cell? ⟨ba, 0, none⟩ = some (.slice A5 n5 c5) := (HB10.out.to hx11).cell 0
          have g3 : w11.cell? ⟨ba, 1, none⟩ = some (.slice B5 m5 d5) := (HB10.out.to hx11).cell 1
          have X11 := Lib.hid hx11
          clear hx11 g0 g1
          go_wp2_with fail
          refine HI2.out.mono ?_
          rintro e w12 ⟨rfl, hx12⟩
          have X12 := Lib.hid (X11.out.step hx12)
          clear hx12 g2 g3
          go_wp2_with fail
          go_roundw
          case rel => exact ⟨Lib.hid (X10.out.step X12.out), k + 1, z5, A9, j9, c9, by omega, by go_num, rfl, rfl, Lib.hid ⟨_, _, _, _, _, _, _, _, _, ⟨HB10.out.to X12.out, HAv10.out.to X12.out, HT7.out, HR10.out.to X12.out, HSm.out⟩⟩⟩
          case measure => simp [intOf]; omega
      · have hge : nL ≤ k := by omega
        go_wp2_with fail
        go_meet
        case rel => exact ⟨hx.out, A, n, c, B, m, d, zr, A7, j7, c7, rfl, rfl, Lib.hid ⟨ns, fs, row, HK.out⟩⟩
  case rest =>
    obtain ⟨hx, A, n, c, B, m, d, zr, A7, j7, c7, rfl, rfl, hK⟩ := hcut
    rename World => w4
    obtain ⟨ns, fs, row, hK⟩ := hK.out
    have HK := Lib.hid hK
    have hjl := hK.rd.len
    have HJ := Lib.hid hjl
    have hj60 : j7 ≤ 60 := by have := hK.sm.le; omega
    have HX := Lib.hid hx
    clear hK HK0 X3 hjl hx
    go_wp2_with fail
    go_loopw [112, 5, 16, 17, 18, 19] (fun j r _ _ _ _ wr => Hid (Ext w wr) ∧ ∃ (q : Nat) (zq : Int), q ≤ j7 ∧ j = .int .i64 q ∧ r = .int .u64 zq ∧ Hid (∃ A n c B m d ns fs, Bx wr ba #[.slice A n c, .slice B m d] ∧ Av wr A n B m ns fs ∧ TabV ns zq (row.drop q)) ∧ Hid (RdR wr (.slice A7 j7 c7) row)) (fun j _ _ _ _ _ _ => j7 - (intOf j).toNat)
    case atStart => exact ⟨HX, 0, zr, Nat.zero_le _, rfl, rfl, Lib.hid ⟨A, n, c, B, m, d, ns, fs, HK.out.box, HK.out.av, by rw [List.drop_zero]; exact HK.out.tab⟩, Lib.hid HK.out.rd⟩
    case round =>
      obtain ⟨hx, q, zq, hq, rfl, rfl, hT, hR⟩ := hrel
      rename World => w5
      obtain ⟨A, n, c, B, m, d, ns, fs, hB, hAv, hTb⟩ := hT.out
      have HB := Lib.hid hB
      have HAv := Lib.hid hAv
      have HTb := Lib.hid hTb
      clear hT hB hAv hTb
      by_cases hqj : q < j7
      · obtain ⟨x, hxq⟩ : ∃ x, row[q]? = some x := ⟨_, List.getElem?_eq_getElem (by have := HJ.out; omega)⟩
        obtain ⟨ad, rfl, hit⟩ := hR.out.rdi.item hxq
        have hdrop : row.drop q = x :: row.drop (q + 1) := by
          obtain ⟨i1, i2⟩ := List.getElem?_eq_some_iff.1 hxq
          rw [← i2]; exact List.drop_eq_getElem_cons i1
        have HD := Lib.hid hdrop
        have HSm := Lib.hid (show Sm (row.drop q) from ⟨List.Pairwise.sublist (List.drop_sublist q row) HK.out.sm.1, fun y hy => HK.out.sm.2 y (List.mem_of_mem_drop hy)⟩)
        obtain ⟨K, V⟩ := x
        have HKin := Lib.hid (HK.out.sm.2 (K, V) (List.mem_of_getElem? hxq))
        obtain ⟨c0, c1⟩ := hit
        simp only at c0 c1
        obtain ⟨w6, hw6⟩ : ∃ w6, w6 = w5.alloc (.cells #[.int .i64 K, .int .i64 V] 43) := ⟨_, rfl⟩
        obtain ⟨B6, hx6, hs6⟩ := box_made hw6
        have H6 := Lib.hid hw6
        have X6 := Lib.hid (hx.out.step hx6)
        have HB6 := Lib.hid (HB.out.to hx6)
        have HAv6 := Lib.hid (HAv.out.to hx6)
        have HR6 := Lib.hid (hR.out.to hx6)
        have q0 : w6.cell? ⟨ba, 0, none⟩ = some (.slice A n c) := HB6.out.cell 0
        have q1 : w6.cell? ⟨ba, 1, none⟩ = some (.slice B m d) := HB6.out.cell 1
        have q2 : w6.cell? ⟨w5.heap.size, 0, none⟩ = some (.int .i64 K) := B6.cell 0
        have hmf := HAv6.out.ar.lenF
        have HMF := Lib.hid hmf
        have hjq : ¬ j7 ≤ q := by omega
        rw [hw6] at q0 q1 q2
        clear hw6 B6 hx6 hs6 hmf hxq hdrop
        by_cases h200 : m < 200
        · have h200' : (m : Int) < 200 := by omega
          go_wp2_with fail
          rw [← H6.out]
          refine (HAl.out _).mono ?_
          rintro e w7 ⟨rfl, hx7⟩
          go_wp2_with fail
          go_ret
          exact ⟨rfl, X6.out.step hx7⟩
        · have h200' : ¬ (m : Int) < 200 := by omega
          have HP := Lib.hid (tv_del (c := c) (d := d) HAv6.out HTb.out HSm.out K HKin.out ⟨V, by rw [HD.out]; exact List.mem_cons_self ..⟩ (by have := HMF.out; omega) _ (Ext.refl _))
          rw [HD.out, del_head (by have := HSm.out.1; rw [HD.out] at this; exact this)] at HP
          unfold MadeT at HP
          go_wp2_with fail
          rw [← H6.out]
          refine HP.out.mono ?_
          rintro e w7 ⟨A5, n5, c5, B5, m5, d5, ns5, fs5, z5, rfl, hav5, hG5, hT5, hx7⟩
          obtain ⟨w8, hw8⟩ : ∃ w8, w8 = w7.alloc (.cells #[.slice A5 n5 c5, .slice B5 m5 d5] 26) := ⟨_, rfl⟩
          obtain ⟨B8, hx8, hs8⟩ := box_made hw8
          have H8 := Lib.hid hw8
          have HB8 := Lib.hid (HB6.out.to (hx7.step hx8))
          have HR8 := Lib.hid (HR6.out.to (hx7.step hx8))
          have HAv8 := Lib.hid (hav5.to hx8)
          have HT8 := Lib.hid hT5
          have X8 := Lib.hid (X6.out.step (hx7.step hx8))
          have k0 : w8.cell? ⟨w7.heap.size, 0, none⟩ = some (.slice A5 n5 c5) := B8.cell 0
          have k1 : w8.cell? ⟨w7.heap.size, 1, none⟩ = some (.slice B5 m5 d5) := B8.cell 1
          rw [hw8] at k0 k1
          clear hw8 B8 hx8 hs8 hav5 hG5 hT5 hx7 q0 q1 q2
          go_wp2_with (first
            | (rw [← H8.out]
               refine wpList_store_ar (by rfl) (.tmp 3) (.tmp 132) (by rfl) ba (by rfl) (.slice A5 n5 c5) (.slice B5 m5 d5) (by rfl) rfl rfl _ HB8.out (by simp) ?_
               intro w9 B9 O9
               have HB9 := Lib.hid (show Bx w9 ba #[.slice A5 n5 c5, .slice B5 m5 d5] from B9)
               have HAv9 := Lib.hid (HAv8.out.past HB8.out (by simp) (by simp) O9)
               have HR9 := Lib.hid (HR8.out.past HB8.out (by simp) (by simp) O9)
               have X9 := Lib.hid (O9.new X8.out HBA.out)
               clear B9 O9))
          go_roundw
          case rel => exact ⟨X9, q + 1, z5, by omega, by go_num, rfl, Lib.hid ⟨_, _, _, _, _, _, _, _, HB9.out, HAv9.out, HT8.out⟩, HR9⟩
          case measure => simp [intOf]; omega
      · have hqe : j7 ≤ q := by omega
        have hnil : row.drop q = [] := List.drop_eq_nil_iff.2 (by have := HJ.out; omega)
        have hzq : zq = 0 := TabV.zero (by rw [← hnil]; exact HTb.out)
        subst hzq
        clear hnil
        go_wp2_with fail
        refine (HAl.out _).mono ?_
        rintro e y1 ⟨rfl, hy1⟩
        have HB9 := Lib.hid (HB.out.to hy1)
        have HAv9 := Lib.hid (HAv.out.to hy1)
        have q0 : y1.cell? ⟨ba, 0, none⟩ = some (.slice A n c) := HB9.out.cell 0
        have q1 : y1.cell? ⟨ba, 1, none⟩ = some (.slice B m d) := HB9.out.cell 1
        have HW := Lib.hid (want_right A B n m c d ns fs y1 HAv9.out.ar HAv9.out.n1 HAv9.out.m1 true (by simp [HAv9.out.may]))
        have Y1 := Lib.hid (hx.out.step hy1)
        clear hy1
        go_wp2_with fail
        refine HW.out.mono ?_
        rintro e y2 ⟨rfl, hy2⟩
        have Y2 := Lib.hid (Y1.out.step hy2)
        clear hy2
        go_wp2_with fail
        go_ret
        exact ⟨rfl, Y2.out⟩

theorem HamtKeeps_walk (w : World) (A : Option Addr) (n c : Nat) (acs : List Ac) (h : Rd w 3 A n (flat Ac.cells acs)) (hn : n ≤ c) (hc : c ≤ maxLen) (_ : ∀ y ∈ acs, y.Ok) :
    Calls Try.prog 3 #[.slice A n c] w fun e w' => e = .returned (.bool true) ∧ Ext w w' :=
  keeps9_m A n c acs w h hn hc

end Go.Proofs.Ytfoifcbaadnigaa
