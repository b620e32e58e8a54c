/-
  The walk of SpanTells.
-/
import Derived.Test.YthgaogbpkedjcaaSpTells14
import Derived.Test.YthgaogbpkedjcaaSpWalk
import Derived.Test.YthgaogbpkedjcaaRfRight
import Derived.Test.YthgaogbpkedjcaaFew8
import Derived.Test.YthgaogbpkedjcaaMinMax
set_option linter.unusedVariables false
set_option linter.unusedSimpArgs false
namespace Go.Proofs.Ythgaogbpkedjcaa
open Go.RowKit

set_option maxHeartbeats 51200000 in
set_option maxRecDepth 100000 in
theorem tells8_m (A B : Option Addr) (n m c d : Nat) (ns : List Nd) (fs : List Int) (r low high cz ca cb : Int) (cq : Bool) (enough : Int) (w : World) (h : Ar w A n B m ns fs) (hnc : n ≤ c) (hmd : m ≤ d) (hc : c ≤ maxLen) (hd : d ≤ maxLen) (hns : ∀ y ∈ ns, NdR y) (hU : U r) (hca : -9223372036854775808 ≤ ca) (hcb : cb ≤ 9223372036854775807) :
    Calls Try.prog 3 #[.agg #[.slice A n c, .slice B m d], .int .u64 r, .int .i64 low, .int .i64 high, .agg #[.int .u64 cz, .int .i64 ca, .int .i64 cb, .bool cq], .int .i64 enough] w fun e w' => e = .returned (.bool true) ∧ Ext w w' := by
  obtain ⟨wa, hwa⟩ : ∃ v, v = w.alloc (.cells #[.slice A n c, .slice B m d] 25) := ⟨_, rfl⟩
  obtain ⟨wb, hwb⟩ : ∃ v, v = wa.alloc (.cells #[.int .u64 cz, .int .i64 ca, .int .i64 cb, .bool cq] 29) := ⟨_, rfl⟩
  obtain ⟨w1, hw1⟩ : ∃ v, v = wb.alloc (.cells #[.int .i64 enough] 3) := ⟨_, rfl⟩
  obtain ⟨Ba, hxa, hsa⟩ := box_made hwa
  obtain ⟨Bc, hxb, hsb⟩ := box_made hwb
  obtain ⟨Be, hxe, hse⟩ := box_made hw1
  rw [hsa] at Bc hsb
  rw [hsb] at Be hse
  obtain ⟨ba, hba⟩ : ∃ b, b = w.heap.size := ⟨_, rfl⟩
  obtain ⟨bc, hbc⟩ : ∃ b, b = w.heap.size + 1 := ⟨_, rfl⟩
  obtain ⟨be, hbe⟩ : ∃ b, b = w.heap.size + 1 + 1 := ⟨_, rfl⟩
  have HLe := Lib.hid (show Lk 3 w1 be #[.int .i64 enough] by rw [hw1, hbe, ← hsb]; exact Lk.new _ _ _)
  rw [← hba] at Ba
  rw [← hbc] at Bc
  have HBa := Lib.hid (Ba.to (hxb.step hxe))
  have HBc := Lib.hid (Bc.to hxe)
  have HO := Lib.hid (show ba < bc ∧ bc < be ∧ be < w1.heap.size ∧ w.heap.size ≤ ba by omega)
  have hAn : A = none → n = 0 := fun e => by
    rcases Nat.eq_zero_or_pos n with h' | h'
    · exact h'
    · obtain ⟨ad, ha⟩ := h.nodes.some_ h' (by omega)
      rw [e] at ha; cases ha
  have hBn : B = none → m = 0 := fun e => by
    rcases Nat.eq_zero_or_pos m with h' | h'
    · exact h'
    · obtain ⟨ad, ha⟩ := h.free.some_ h' (by omega)
      rw [e] at ha; cases ha
  have HF := Lib.hid (few8_is A B n m c d w1 hAn hBn hnc hmd hc hd)
  have Hwa := Lib.hid hwa
  have Hwb := Lib.hid hwb
  have Hw1 := Lib.hid hw1
  have Hba := Lib.hid hba
  have Hbc := Lib.hid hbc
  have Hbe := Lib.hid hbe
  have X1 := Lib.hid (hxa.step (hxb.step hxe))
  have HA := Lib.hid h.few8
  have HNs := Lib.hid (show ∀ y ∈ ns.take 60, NdR y from fun y hy => hns y (List.mem_of_mem_take hy))
  have hn60 : min n 60 ≤ 60 := by omega
  have hm62 : min m 62 ≤ 62 := by omega
  generalize ns.take 60 = ns' at HA HNs
  generalize fs.take 62 = fs' at HA
  generalize min n 60 = n' at HF HA hn60
  generalize min m 62 = m' at HF HA hm62
  have HCa := Lib.hid hca
  have HCb := Lib.hid hcb
  have HAl := Lib.hid (fun W => alive8_is W)
  have k0 : w1.cell? ⟨ba, 0, none⟩ = some (.slice A n c) := HBa.out.cell 0
  have k1 : w1.cell? ⟨ba, 1, none⟩ = some (.slice B m d) := HBa.out.cell 1
  clear hwa hwb hw1 Ba Bc Be hxa hxb hxe hsa hsb hse hba hbc hbe hAn hBn h hnc hmd hc hd hns hca hcb
  go_enter Try.func3, Try.ntmps3
  go_upto_region 1 with fail
  rw [← Hwa.out, ← Hwb.out, ← Hw1.out, ← Hbe.out, ← Hbc.out, ← Hba.out]
  go_wp2_with fail
  refine HF.out.mono ?_; rintro e w2 ⟨rfl, hx2⟩
  have b2 := HBa.out.to hx2
  have c2 := HBc.out.to hx2
  have e2 := HLe.out.to hx2
  have X2 := Lib.hid (X1.out.step hx2)
  have hs2 := hx2.size
  clear hx2 k0 k1
  go_wp2_with (first
    | (refine wpList_store_ar (by rfl) (.tmp 6) (.tmp 30) (by rfl) ba (by rfl) (.slice A n' c) (.slice B m' d) (by rfl) rfl rfl _ b2 (by simp) ?_
       intro w3 B3 O3
       have X3 := Lib.hid (O3.new X2.out HO.out.2.2.2)
       have HBa3 := Lib.hid B3
       have HBc3 := Lib.hid (O3.bx c2 (by have := HO.out; omega))
       have HLe3 := Lib.hid (Lk.only8 e2 O3 (by have := HO.out; omega))
       have HS3 := Lib.hid (Nat.le_trans hs2 O3.size)
       have k0 : w3.cell? ⟨ba, 0, none⟩ = some (.slice A n' c) := B3.cell 0
       have k1 : w3.cell? ⟨ba, 1, none⟩ = some (.slice B m' d) := B3.cell 1
       clear B3 O3))
  have HA3 := Lib.hid (fun W (hW : Ext w3 W) => HA.out.to (X3.out.step hW))
  have S := Lib.hid (fun W (hW : Ext w3 W) => show W.cell? ⟨ba, 0, none⟩ = some (.slice A n' c) ∧ W.cell? ⟨ba, 1, none⟩ = some (.slice B m' d) from ⟨(HBa3.out.to hW).cell 0, (HBa3.out.to hW).cell 1⟩)
  have hn1 : n' ≤ 1000 := by omega
  have hm1 : m' ≤ 1000 := by omega
  clear b2 c2 e2 hs2 HF HBa HBc HLe
  by_cases hq : ArMay ns' fs' ∧ MapAt ns' r
  · obtain ⟨l, hMv, hrg, hl200, hrf⟩ : ∃ l, MapV ns' r l ∧ (∀ x ∈ l, -9223372036854775808 ≤ x.1 ∧ x.1 ≤ 9223372036854775807) ∧ l.length ≤ 200 ∧ rowF ns' 201 r = l := by
      obtain ⟨hmay, t, hM, hr⟩ := hq
      refine ⟨t.row, ⟨t, hM, hr, rfl, hU⟩, rep_range HNs.out hM.rep, by rw [T.row_length]; exact hM.le, ?_⟩
      rw [← hr]; exact rowF_rep hM.rep (by have := hM.le; omega)
    have HMv := Lib.hid hMv
    have HRg := Lib.hid hrg
    have HL200 := Lib.hid hl200
    have HAv := Lib.hid (show Av w3 A n' B m' ns' fs' from ⟨HA3.out _ (Ext.refl _), hq.1⟩)
    have HQ1 := Lib.hid hq.1
    have HR2 := Lib.hid (fun W (hW : Ext w W) => rfRight_is A B n' m' c d ns' fs' r W (HA.out.to hW) hn1 hm1 hU true (by simp only [true_iff]; exact hq))
    have HRow := Lib.hid (fun W (hW : Ext w W) => show Calls Try.prog 16 #[.agg #[.slice A n' c, .slice B m' d], .int .u64 r, .int .i64 ((201 : Nat) : Int)] W (RowS (rowF ns' 201 r) W) from (row_is A B n' c m' d ns' HA.out.ok 201 r W (by omega) hU (HA.out.to hW).nodes).mono fun e w' h => h.rdr)
    rw [hrf] at HRow
    rw [show ((201 : Nat) : Int) = 201 from rfl] at HRow
    have HC := Lib.hid (av_all (c := c) (d := d) HAv.out HMv.out low high _ (Ext.refl _))
    unfold AllA at HC
    clear hMv hrg hl200 hrf hq
    refine HC.out.mono ?_
    rintro e w4 ⟨AA, ja, cA, rfl, hrr, hx4⟩
    have HRA := Lib.hid hrr
    clear hrr
    have X4 := Lib.hid hx4
    clear k0 k1 hx4 HC
    obtain ⟨k0, k1⟩ := S.out w4 X4.out
    have HC := Lib.hid (av_open (c := c) (d := d) HAv.out HMv.out low high w4 X4.out)
    unfold OpenA at HC
    go_wp2_with fail
    refine HC.out.mono ?_
    rintro e w5 ⟨rfl, hx5⟩
    obtain ⟨w5b, hw5b⟩ : ∃ v, v = w5.alloc (.cells #[.int .u64 r, .int .i64 low, .int .i64 high, .bool false] 29) := ⟨_, rfl⟩
    obtain ⟨Bo, hxw5b, hsw5b⟩ := box_made hw5b
    obtain ⟨bo, hbo⟩ : ∃ b, b = w5.heap.size := ⟨_, rfl⟩
    rw [← hbo] at Bo
    have X5 := Lib.hid (X4.out.step (hx5.step hxw5b))
    have HBo := Lib.hid Bo
    have HRA5 := Lib.hid (HRA.out.to (hx5.step hxw5b))
    have H5 := Lib.hid hw5b
    have Hbo := Lib.hid hbo
    have HOo := Lib.hid (show be < bo by have h1 := HO.out; have h2 := HS3.out; have h3 := X4.out.size; have h4 := hx5.size; omega)
    obtain ⟨w6, hw6⟩ : ∃ v, v = w5b.alloc (.cells #[.slice none 0 0] 31) := ⟨_, rfl⟩
    obtain ⟨Bg, hx6, hs6⟩ := box_made hw6
    obtain ⟨bg, hbg⟩ : ∃ b, b = w5b.heap.size := ⟨_, rfl⟩
    have HG6 := Lib.hid (show Boxed w6 bg 31 (.slice none 0 0) by rw [hw6, hbg]; exact Boxed.new _ _ _)
    rw [← hbg] at Bg
    have X6 := Lib.hid (X5.out.step hx6)
    have HX6 := Lib.hid hx6
    have H6 := Lib.hid hw6
    have Hbg := Lib.hid hbg
    have HOg := Lib.hid (show bo < bg by rw [hbg]; exact HBo.out.lt)
    clear hw5b hbo Bo hx5 hxw5b hsw5b hw6 hbg hx6 hs6 HC Bg
    go_upto_region 4 with fail
    rw [← H5.out, ← Hbo.out]
    go_upto_region 5 with fail
    rw [← H6.out, ← Hbg.out]
    clear k0 k1
    obtain ⟨k0, k1⟩ := S.out w6 X6.out
    have hmf : ∀ (fn : Fn) (first cap : Array Value) (w : World), (Instr.makeFunc fn first cap).run Try.prog w = .ok (.func fn first cap) w := fun fn first cap w => rfl
    go_wp2_with fail
    have HW := Lib.hid (walk_is 12 bg be enough (fun args w => by kernel_rfl) (fun n0 pre x W h1 h2 h3 h4 h5 => take12_is bg be n0 enough pre x W h1 h2 h3 h4 h5) A B (n := n') (c := c) (m := m') (d := d) ns' fs' r l w6 (HAv.out.to X6.out) HMv.out HRg.out HG6.out (HLe3.out.to X6.out))
    obtain ⟨P, hP⟩ : ∃ P, P = (l.take (stopAt enough)).length := ⟨_, rfl⟩
    unfold WalkA at HW
    rw [← hP] at HW
    have HPe := Lib.hid hP
    refine HW.out.mono ?_
    rintro e w7 ⟨rfl, gv, hgb, hgr, hgk⟩
    have hx7 := ext_kx8 HX6.out hgk (by rw [Hbg.out]; exact Nat.le_refl _)
    obtain ⟨AG, jg, cg, rfl, hgr2, hjg⟩ := hgr.sl
    have HJG := Lib.hid hjg
    have X7 := X5.out.step hx7
    obtain ⟨w8, hw8⟩ : ∃ v, v = w7.setCell ⟨bc, 0, none⟩ (.int .u64 r) := ⟨_, rfl⟩
    have O8 : Only bc w7 w8 := by rw [hw8]; exact (Only.refl _ _).set 0 _
    have hBc7 := HBc3.out.to X7
    have HBa8 := Lib.hid (O8.bx (HBa3.out.to X7) (by have := HO.out; omega))
    have HBc8 := Lib.hid (show Bx w8 bc #[.int .u64 r, .int .i64 ca, .int .i64 cb, .bool cq] by rw [hw8]; exact hBc7.set (j := 0) (by simp) _)
    have HBo8 := Lib.hid (O8.bx (HBo.out.to hx7) (by have := HO.out; have := HOo.out; omega))
    have HGB8 := Lib.hid (Lk.only8 (show Lk 31 w7 bg #[.slice AG jg cg] from hgb) O8 (by have h1 := HO.out; have h2 := HOo.out; have h3 := HOg.out; omega))
    have HLe8 := Lib.hid (Lk.only8 (HLe3.out.to X7) O8 (by have := HO.out; omega))
    have HRA8 := Lib.hid (show RdR w8 (.slice AA ja cA) (inn l low high) by rw [hw8]; exact rdr_set0 (HRA5.out.to hx7) hBc7)
    have HGR8 := Lib.hid (show RdR w8 (.slice AG jg cg) (l.take (stopAt enough)) by rw [hw8]; exact rdr_set0 hgr2 hBc7)
    have X8 := Lib.hid (O8.new (X3.out.step X7) (by have := HO.out; omega))
    have q0 : w7.cell? ⟨bc, 0, none⟩ = some (.int .u64 cz) := hBc7.cell 0
    have qf := hBc7.free 0
    have H8 := Lib.hid hw8
    clear hw8 O8 hBc7 X7 hx7 hgb hgr hgk hgr2 hjg hP k0 k1 hmf S HBa3 HBc3 HLe3 HBo HG6 X6 HX6 X5 X4 HS3 HW HRA HRA5 HA3 HAv
    go_upto_region 7 with fail
    rw [← H8.out]
    clear q0 qf
    have k0 : w8.cell? ⟨ba, 0, none⟩ = some (.slice A n' c) := HBa8.out.cell 0
    have k1 : w8.cell? ⟨ba, 1, none⟩ = some (.slice B m' d) := HBa8.out.cell 1
    have p0 : w8.cell? ⟨bc, 0, none⟩ = some (.int .u64 r) := HBc8.out.cell 0
    have p1 : w8.cell? ⟨bc, 1, none⟩ = some (.int .i64 ca) := HBc8.out.cell 1
    have p2 : w8.cell? ⟨bc, 2, none⟩ = some (.int .i64 cb) := HBc8.out.cell 2
    have p3 : w8.cell? ⟨bc, 3, none⟩ = some (.bool cq) := HBc8.out.cell 3
    have HST := Lib.hid (step_tell (c := c) (d := d) (show Av w8 A n' B m' ns' fs' from ⟨HA.out.to X8.out, HQ1.out⟩) HMv.out ca cb cq HCa.out HCb.out)
    unfold StepT at HST
    go_wp2_with fail
    refine HST.out.mono ?_
    rintro e w9 ⟨dz, da, db, dq, x1, x2, kk, rfl, hR, hx9⟩
    have HSR := Lib.hid hR
    clear hR HST
    obtain ⟨w9a, hw9a⟩ : ∃ v, v = w9.alloc (.cells #[.int .u64 dz, .int .i64 da, .int .i64 db, .bool dq] 29) := ⟨_, rfl⟩
    obtain ⟨Bd, hxw9a, hsw9a⟩ := box_made hw9a
    obtain ⟨w9b, hw9b⟩ : ∃ v, v = w9a.alloc (.cells #[.int .i64 x1, .int .i64 x2] 40) := ⟨_, rfl⟩
    obtain ⟨Bi, hxw9b, hsw9b⟩ := box_made hw9b
    obtain ⟨w10, hw10⟩ : ∃ v, v = w9b.alloc (.cells #[.int .u64 0, .int .i64 0, .int .i64 0, .bool false] 29) := ⟨_, rfl⟩
    obtain ⟨Bn, hxw10, hsw10⟩ := box_made hw10
    obtain ⟨bd, hbd⟩ : ∃ b, b = w9.heap.size := ⟨_, rfl⟩
    obtain ⟨bi, hbi⟩ : ∃ b, b = w9.heap.size + 1 := ⟨_, rfl⟩
    obtain ⟨bn, hbn⟩ : ∃ b, b = w9b.heap.size := ⟨_, rfl⟩
    rw [← hbd] at Bd
    rw [hsw9a, ← hbi] at Bi
    rw [← hbn] at Bn
    have hx10 := hx9.step (hxw9a.step (hxw9b.step hxw10))
    have X10 := Lib.hid (X8.out.step hx10)
    have HBa10 := Lib.hid (HBa8.out.to hx10)
    have HBc10 := Lib.hid (HBc8.out.to hx10)
    have HBo10 := Lib.hid (HBo8.out.to hx10)
    have HGB10 := Lib.hid (HGB8.out.to hx10)
    have HLe10 := Lib.hid (HLe8.out.to hx10)
    have HBd10 := Lib.hid (Bd.to (hxw9b.step hxw10))
    have HBi10 := Lib.hid (Bi.to hxw10)
    have HBn10 := Lib.hid Bn
    have HRA10 := Lib.hid (HRA8.out.to hx10)
    have HGR10 := Lib.hid (HGR8.out.to hx10)
    have H9a := Lib.hid hw9a
    have H9b := Lib.hid hw9b
    have H10 := Lib.hid hw10
    have Hbd := Lib.hid hbd
    have Hbi := Lib.hid hbi
    have Hbn := Lib.hid hbn
    clear Bd Bi Bn hx10 hw9a hw9b hw10 hbd hbi hbn hsw9a hsw9b hsw10 hx9 hxw9a hxw9b hxw10 k0 k1 p0 p1 p2 p3 HBa8 HBc8 HBo8 HGB8 HLe8 X8 H8 HRA8 HGR8
    go_upto_region 8 with fail
    rw [← H9a.out, ← H9b.out, ← Hbi.out, ← Hbd.out]
    go_upto_region 9 with fail
    rw [← H10.out, ← Hbn.out]
    have k0 : w10.cell? ⟨ba, 0, none⟩ = some (.slice A n' c) := HBa10.out.cell 0
    have k1 : w10.cell? ⟨ba, 1, none⟩ = some (.slice B m' d) := HBa10.out.cell 1
    go_wp2_with fail
    refine (HR2.out _ X10.out).mono ?_
    rintro e w11 ⟨rfl, hx11⟩
    have X11 := Lib.hid (X10.out.step hx11)
    clear k0 k1
    have hx11' := Lib.hid hx11
    have HBa11 := Lib.hid (HBa10.out.to hx11)
    clear hx11
    have k0 : w11.cell? ⟨ba, 0, none⟩ = some (.slice A n' c) := HBa11.out.cell 0
    have k1 : w11.cell? ⟨ba, 1, none⟩ = some (.slice B m' d) := HBa11.out.cell 1
    go_wp2_with fail
    refine (HRow.out _ X11.out).mono ?_
    rintro e w12 ⟨AR, jr, cR, rfl, hrl, hx12⟩
    have X12 := Lib.hid (X11.out.step hx12)
    have HRW := Lib.hid hrl
    have hx13 := hx11'.out.step hx12
    have HBc12 := Lib.hid (HBc10.out.to hx13)
    have HBo12 := Lib.hid (HBo10.out.to hx13)
    have HBd12 := Lib.hid (HBd10.out.to hx13)
    have HBi12 := Lib.hid (HBi10.out.to hx13)
    have HBn12 := Lib.hid (HBn10.out.to hx13)
    have HGB12 := Lib.hid (HGB10.out.to hx13)
    have HLe12 := Lib.hid (HLe10.out.to hx13)
    have HRA12 := Lib.hid (HRA10.out.to hx13)
    have HGR12 := Lib.hid (HGR10.out.to hx13)
    have HJr := Lib.hid hrl.len
    have HJa := Lib.hid HRA12.out.len
    have e0 : w12.cell? ⟨be, 0, none⟩ = some (.int .i64 enough) := HLe12.out.cell 0
    obtain ⟨M, hM⟩ : ∃ M, max enough 1 = M := ⟨_, rfl⟩
    have HM := Lib.hid hM
    have HP := Lib.hid (show P = min (stopAt enough) jr ∧ P ≤ jr by rw [HPe.out, List.length_take, ← HJr.out]; omega)
    have HPM := Lib.hid (show min M (jr : Int) = (P : Int) by
      have h2 := HP.out.1
      unfold stopAt at h2
      omega)
    have hj200 : jr ≤ 200 := by have := HJr.out; have := HL200.out; omega
    have hja2 : ja ≤ 200 := by have h1 := HJa.out; have h2 := inn_len l low high; have := HL200.out; omega
    clear hrl hx12 hx13 hx11' k0 k1 hM HBa10 HBc10 HBo10 HBd10 HBi10 HBn10 HGB10 HLe10 HRA10 HGR10 HBa11
    go_upto_region 14 with (first
      | (refine wpList_max2 rfl (.tmp 117) (.const (.int .i64 1)) _ rfl enough 1 M rfl rfl HM.out ?_)
      | (refine wpList_min2 rfl (.tmp 118) (.tmp 120) _ rfl M jr P rfl rfl HPM.out ?_))
    clear e0
    have hPj : P ≤ jr := HP.out.2
    have hjc : jr ≤ cR := HRW.out.cap.1
    have hPc : P ≤ cR := Nat.le_trans hPj hjc
    have HPP := Lib.hid (show l.take (stopAt enough) = l.take P by
      have h1 := HP.out.1
      have h2 := HJr.out
      rw [h1]
      rcases Nat.le_total (stopAt enough) jr with h3 | h3
      · rw [Nat.min_eq_left h3]
      · rw [Nat.min_eq_right h3, List.take_of_length_le (by omega), List.take_of_length_le (by omega)])
    have hjg : jg = P := by rw [HJG.out, HPe.out]
    subst hjg
    have HWi := Lib.hid (fun W (hW : Ext w12 W) (a b : Int) => show Calls Try.prog 18 #[.slice AR jr cR, .int .i64 a, .int .i64 b] W (RowF (inn l a b) W) from (spWithinF_is AR jr cR l a b W ((HRW.out.to hW).rdi) (by omega)))
    unfold RowF at HWi
    have HWj := Lib.hid (fun W (hW : Ext w12 W) => show Calls Try.prog 18 #[.slice AR jr cR, .int .i64 low, .int .i64 high] W (fun e w' => ∃ A j c, e = .returned (.slice A j c) ∧ RdR w' (.slice A j c) (inn l low high) ∧ Ext W w') from (HWi.out W hW low high).mono fun e w' h => by
      obtain ⟨A, j, c, h1, h2, h3, _⟩ := h
      exact ⟨A, j, c, h1, h2, h3⟩)
    have HSm1 := Lib.hid (fun W A6 j6 c6 (hW : Ext w12 W) (h6 : RdR W (.slice A6 j6 c6) (inn l low high)) => same_yes AA A6 ja j6 cA c6 (inn l low high) (inn l low high) W (HRA12.out.to hW).rdi h6.rdi (by omega) rfl)
    have HSm2 := Lib.hid (fun W (hW : Ext w12 W) => same_yes AG AR jg jg cg cR (l.take (stopAt enough)) (l.take jg) W (HGR12.out.to hW).rdi (by
      have h2 := ((HRW.out.rdi).to hW).take hPj
      rwa [flat_take itc_length] at h2) (by omega) HPP.out)
    have HSS := Lib.hid (fun W (hW : Ext w12 W) => show W.cell? ⟨bo, 0, none⟩ = some (.int .u64 r) ∧ W.cell? ⟨bo, 1, none⟩ = some (.int .i64 low) ∧ W.cell? ⟨bo, 2, none⟩ = some (.int .i64 high) ∧ W.cell? ⟨bo, 3, none⟩ = some (.bool false) ∧ W.cell? ⟨bg, 0, none⟩ = some (.slice AG jg cg) from ⟨(HBo12.out.to hW).cell 0, (HBo12.out.to hW).cell 1, (HBo12.out.to hW).cell 2, (HBo12.out.to hW).cell 3, (HGB12.out.to hW).cell 0⟩)
    refine tells8_14 w12 bo bg ja cA jr cR jg cg AA AR AG r low high l _ _ _ _ _ _ _ _ _ _ _ _ _ _ _ _ _ _ _ _ _ _ _ _ _ _ _ _ _ _ _ _ _ _ _ _ _ _ _ _ _ _ _ _ _ _ _ _ _ _ _ _ _ _ _ _ _ _ _ _ _ _ _ _ _ _ _ _ _ _ _ _ _ _ _ _ _ _ _ _ _ _ _ _ _ _ _ _ _ _ _ _ _ _ _ _ _ _ _ _ _ _ _ _ _ _ _ _ _ _ _ _ _ _ _ _ _ _ _ _ _ _ _ _ _ _ _ _ _ _ _ _ _ _ _ _ _ _ _ _ _ _ _ _ _ _ _ _ _ _ _ _ _ _ _ _ _ _ _ _ _ _ _ _ _ _ _ _ _ _ _ _ _ _ _ _ _ _ _ _ _ _ _ _ _ _ _ _ _ _ _ _ _ _ _ _ _ _ _ _ _ _ _ _ _ _ _ _ _ _ _ _ _ _ _ _ _ _ _ _ HAl HWj HSm1 HSm2 HSS hPj hPc (Lib.hid ?_)
    intro v122 v123 v124 v125 v126 v127 v128 v129 v130 v131 v132 v133 v134 v135 v136 v137 v138 v139 v140 v141 v142 v143 v144 v145 v146 v147 v148 v149 v150 v151 v152 v153 v154 v155 v156 v157 v158 v159 v160 v161 v162 v163 v164 v165 y4 h165 hy4
    subst h165
    clear HSS HSm1 HSm2 HWj
    have X14 := Lib.hid (X12.out.step hy4)
    have HY4 := Lib.hid hy4
    have HBc14 := Lib.hid (HBc12.out.to hy4)
    have HBd14 := Lib.hid (HBd12.out.to hy4)
    have HBi14 := Lib.hid (HBi12.out.to hy4)
    have HBn14 := Lib.hid (HBn12.out.to hy4)
    clear hy4
    have heq := it_eql8
    have hceq := cu_eql
    rcases HSR.out with ⟨rfl, rfl, rfl, rfl, rfl, rfl, rfl, rfl⟩ | hrest
    · clear HSR
      have p0 : y4.cell? ⟨bc, 0, none⟩ = some (.int .u64 r) := HBc14.out.cell 0
      have p1 : y4.cell? ⟨bc, 1, none⟩ = some (.int .i64 ca) := HBc14.out.cell 1
      have p2 : y4.cell? ⟨bc, 2, none⟩ = some (.int .i64 cb) := HBc14.out.cell 2
      have p3 : y4.cell? ⟨bc, 3, none⟩ = some (.bool true) := HBc14.out.cell 3
      have q0 : y4.cell? ⟨bd, 0, none⟩ = some (.int .u64 0) := HBd14.out.cell 0
      have q1 : y4.cell? ⟨bd, 1, none⟩ = some (.int .i64 0) := HBd14.out.cell 1
      have q2 : y4.cell? ⟨bd, 2, none⟩ = some (.int .i64 0) := HBd14.out.cell 2
      have q3 : y4.cell? ⟨bd, 3, none⟩ = some (.bool false) := HBd14.out.cell 3
      have n0 : y4.cell? ⟨bn, 0, none⟩ = some (.int .u64 0) := HBn14.out.cell 0
      have n1 : y4.cell? ⟨bn, 1, none⟩ = some (.int .i64 0) := HBn14.out.cell 1
      have n2 : y4.cell? ⟨bn, 2, none⟩ = some (.int .i64 0) := HBn14.out.cell 2
      have n3 : y4.cell? ⟨bn, 3, none⟩ = some (.bool false) := HBn14.out.cell 3
      have i0 : y4.cell? ⟨bi, 0, none⟩ = some (.int .i64 0) := HBi14.out.cell 0
      have i1 : y4.cell? ⟨bi, 1, none⟩ = some (.int .i64 0) := HBi14.out.cell 1
      go_wp2_with fail
      go_ret
      exact ⟨rfl, X14.out⟩
    · obtain rfl : cq = false := by rcases hrest with h | h | h <;> exact h.1
      have p0 : y4.cell? ⟨bc, 0, none⟩ = some (.int .u64 r) := HBc14.out.cell 0
      have p1 : y4.cell? ⟨bc, 1, none⟩ = some (.int .i64 ca) := HBc14.out.cell 1
      have p2 : y4.cell? ⟨bc, 2, none⟩ = some (.int .i64 cb) := HBc14.out.cell 2
      have p3 : y4.cell? ⟨bc, 3, none⟩ = some (.bool false) := HBc14.out.cell 3
      obtain ⟨y5, hy5⟩ : ∃ v, v = y4.alloc (.cells #[.int .u64 r, .int .i64 ca, .int .i64 cb, .bool false] 29) := ⟨_, rfl⟩
      obtain ⟨Bw, hxy5, hsy5⟩ := box_made hy5
      obtain ⟨bw, hbw⟩ : ∃ b, b = y4.heap.size := ⟨_, rfl⟩
      rw [← hbw] at Bw
      have HBw := Lib.hid Bw
      have Hy5 := Lib.hid hy5
      have Hbw := Lib.hid hbw
      have HXY := Lib.hid hxy5
      have HSY := Lib.hid (show y5.heap.size = bw + 1 by rw [hbw]; exact hsy5)
      have HSR2 := Lib.hid hrest
      clear hbw Bw hy5 hxy5 hsy5 HSR hrest
      go_upto_region 19 with fail
      rw [← Hy5.out, ← Hbw.out]
      clear p0 p1 p2 p3
      have HBc15 := Lib.hid (HBc14.out.to HXY.out)
      have p0 : y5.cell? ⟨bc, 0, none⟩ = some (.int .u64 r) := HBc15.out.cell 0
      have p1 : y5.cell? ⟨bc, 1, none⟩ = some (.int .i64 ca) := HBc15.out.cell 1
      have p2 : y5.cell? ⟨bc, 2, none⟩ = some (.int .i64 cb) := HBc15.out.cell 2
      have p3 : y5.cell? ⟨bc, 3, none⟩ = some (.bool false) := HBc15.out.cell 3
      go_wp2_with fail
      refine (HWi.out _ (HY4.out.step HXY.out) ca cb).mono ?_
      rintro e y6 ⟨A7, j7, c7, rfl, hr7, hx6, hf7⟩
      have hx46 := HXY.out.step hx6
      have X16 := Lib.hid (X14.out.step hx46)
      have HBc16 := Lib.hid (HBc14.out.to hx46)
      have HBd16 := Lib.hid (HBd14.out.to hx46)
      have HBi16 := Lib.hid (HBi14.out.to hx46)
      have HBn16 := Lib.hid (HBn14.out.to hx46)
      have HBw16 := Lib.hid (HBw.out.to hx6)
      have HR7 := Lib.hid hr7
      have HF7 := Lib.hid hf7
      have HJ7 := Lib.hid hr7.len
      have HBWL := Lib.hid (show w.heap.size ≤ bw by have h1 := X14.out.size; rw [Hbw.out]; exact h1)
      have HBN := Lib.hid (show bd < bw ∧ bi < bw ∧ bc < bw by have h1 := HBd14.out.lt; have h2 := HBi14.out.lt; have h3 := HBc14.out.lt; have h4 := Hbw.out; omega)
      clear hx6 hx46 hr7 hf7 p0 p1 p2 p3 HWi HRow HR2 HAl
      rcases HSR2.out with ⟨_, hin, rfl, rfl, rfl, rfl, rfl, rfl, rfl⟩ | ⟨_, hin, hcx, rfl, rfl, rfl, rfl, rfl⟩ | ⟨_, ⟨rest, hin⟩, hlt, hle, rfl, rfl, rfl, rfl, rfl⟩
      · have hj7 : j7 = 0 := by rw [HJ7.out, hin]; rfl
        subst hj7
        clear hin
        obtain ⟨y7, hy7⟩ : ∃ v, v = y6.setCell ⟨bw, 3, none⟩ (.bool true) := ⟨_, rfl⟩
        have O7 : Only bw y6 y7 := by rw [hy7]; exact (Only.refl _ _).set 3 _
        have HBw17 := Lib.hid (show Bx y7 bw #[.int .u64 r, .int .i64 ca, .int .i64 cb, .bool true] by rw [hy7]; exact HBw16.out.set (j := 3) (by simp) _)
        have HBd17 := Lib.hid (O7.bx HBd16.out (by have := HBN.out; omega))
        have HBi17 := Lib.hid (O7.bx HBi16.out (by have := HBN.out; omega))
        have X17 := Lib.hid (O7.new X16.out HBWL.out)
        have HO7 := Lib.hid O7
        have Hy7 := Lib.hid hy7
        have s0 : y6.cell? ⟨bw, 3, none⟩ = some (.bool false) := HBw16.out.cell 3
        have sf := HBw16.out.free 3
        clear hy7 O7
        go_upto_region 22 with fail
        rw [← Hy7.out]
        clear s0 sf
        have s0 : y7.cell? ⟨bw, 0, none⟩ = some (.int .u64 r) := HBw17.out.cell 0
        have s1 : y7.cell? ⟨bw, 1, none⟩ = some (.int .i64 ca) := HBw17.out.cell 1
        have s2 : y7.cell? ⟨bw, 2, none⟩ = some (.int .i64 cb) := HBw17.out.cell 2
        have s3 : y7.cell? ⟨bw, 3, none⟩ = some (.bool true) := HBw17.out.cell 3
        have q0 : y7.cell? ⟨bd, 0, none⟩ = some (.int .u64 r) := HBd17.out.cell 0
        have q1 : y7.cell? ⟨bd, 1, none⟩ = some (.int .i64 ca) := HBd17.out.cell 1
        have q2 : y7.cell? ⟨bd, 2, none⟩ = some (.int .i64 cb) := HBd17.out.cell 2
        have q3 : y7.cell? ⟨bd, 3, none⟩ = some (.bool true) := HBd17.out.cell 3
        have i0 : y7.cell? ⟨bi, 0, none⟩ = some (.int .i64 0) := HBi17.out.cell 0
        have i1 : y7.cell? ⟨bi, 1, none⟩ = some (.int .i64 0) := HBi17.out.cell 1
        go_wp2_with fail
        go_ret
        exact ⟨rfl, X17.out⟩
      · obtain ⟨ad, rfl, hit⟩ := HR7.out.rdi.item (show (inn l ca cb)[0]? = some (x1, x2) by rw [hin]; rfl)
        obtain ⟨c0, c1'⟩ := hit
        simp only [Nat.zero_mul, addr_zero] at c0 c1'
        have k5 : y6.cell? ad = some (.int .i64 x1) := c0
        have k6 : y6.cell? { block := ad.block, off := ad.off + 1 } = some (.int .i64 x2) := c1'
        have hj7 : j7 ≠ 0 := by rw [HJ7.out, hin]; simp
        have hjn : ¬ j7 = 0 := hj7
        have hjp : 0 < j7 := by omega
        have HAD := Lib.hid (show ad.block ≠ bw by have h1 := HF7.out (by rw [hin]; simp) ad rfl; have h2 := HSY.out; omega)
        clear c0 c1' hj7 hin
        have p2 : y6.cell? ⟨bc, 2, none⟩ = some (.int .i64 cb) := HBc16.out.cell 2
        subst hcx
        go_wp2_with fail
        go_quiet (fail)
        obtain ⟨z6, hz6⟩ : ∃ v, v = y6.drewN nq := ⟨_, rfl⟩
        rw [← hz6]
        have hxz : Ext y6 z6 := by rw [hz6]; exact (Ext.refl _).drewN _
        have HBw26 := Lib.hid (HBw16.out.to hxz)
        have HBd26 := Lib.hid (HBd16.out.to hxz)
        have HBi26 := Lib.hid (HBi16.out.to hxz)
        have X26 := Lib.hid (X16.out.step hxz)
        have k5z : z6.cell? ad = some (.int .i64 cb) := hxz.cellOf k5
        have k6z : z6.cell? { block := ad.block, off := ad.off + 1 } = some (.int .i64 x2) := hxz.cellOf k6
        clear k5 k6 p2 hz6 hxz
        obtain ⟨y7, hy7⟩ : ∃ v, v = z6.setCell ⟨bw, 3, none⟩ (.bool true) := ⟨_, rfl⟩
        have O7 : Only bw z6 y7 := by rw [hy7]; exact (Only.refl _ _).set 3 _
        have HBw17 := Lib.hid (show Bx y7 bw #[.int .u64 r, .int .i64 ca, .int .i64 cb, .bool true] by rw [hy7]; exact HBw26.out.set (j := 3) (by simp) _)
        have HBd17 := Lib.hid (O7.bx HBd26.out (by have := HBN.out; omega))
        have HBi17 := Lib.hid (O7.bx HBi26.out (by have := HBN.out; omega))
        have X17 := Lib.hid (O7.new X26.out HBWL.out)
        have HO7 := Lib.hid O7
        have Hy7 := Lib.hid hy7
        have s0 : z6.cell? ⟨bw, 3, none⟩ = some (.bool false) := HBw26.out.cell 3
        have sf := HBw26.out.free 3
        clear hy7 O7
        go_upto_region 26 with fail
        rw [← Hy7.out]
        clear s0 sf
        have k7 : y7.cell? ad = some (.int .i64 cb) := HO7.out.cellOf k5z HAD.out
        have k8 : y7.cell? { block := ad.block, off := ad.off + 1 } = some (.int .i64 x2) := HO7.out.cellOf k6z HAD.out
        clear k5z k6z
        have s0 : y7.cell? ⟨bw, 0, none⟩ = some (.int .u64 r) := HBw17.out.cell 0
        have s1 : y7.cell? ⟨bw, 1, none⟩ = some (.int .i64 ca) := HBw17.out.cell 1
        have s2 : y7.cell? ⟨bw, 2, none⟩ = some (.int .i64 cb) := HBw17.out.cell 2
        have s3 : y7.cell? ⟨bw, 3, none⟩ = some (.bool true) := HBw17.out.cell 3
        have q0 : y7.cell? ⟨bd, 0, none⟩ = some (.int .u64 r) := HBd17.out.cell 0
        have q1 : y7.cell? ⟨bd, 1, none⟩ = some (.int .i64 ca) := HBd17.out.cell 1
        have q2 : y7.cell? ⟨bd, 2, none⟩ = some (.int .i64 cb) := HBd17.out.cell 2
        have q3 : y7.cell? ⟨bd, 3, none⟩ = some (.bool true) := HBd17.out.cell 3
        have i0 : y7.cell? ⟨bi, 0, none⟩ = some (.int .i64 cb) := HBi17.out.cell 0
        have i1 : y7.cell? ⟨bi, 1, none⟩ = some (.int .i64 x2) := HBi17.out.cell 1
        go_quiet (fail)
        go_wp2_with fail
        go_ret
        exact ⟨rfl, X17.out.drewN _⟩
      · obtain ⟨ad, rfl, hit⟩ := HR7.out.rdi.item (show (inn l ca cb)[0]? = some (x1, x2) by rw [hin]; rfl)
        obtain ⟨c0, c1'⟩ := hit
        simp only [Nat.zero_mul, addr_zero] at c0 c1'
        have k5 : y6.cell? ad = some (.int .i64 x1) := c0
        have k6 : y6.cell? { block := ad.block, off := ad.off + 1 } = some (.int .i64 x2) := c1'
        have hj7 : j7 ≠ 0 := by rw [HJ7.out, hin]; simp
        have hjn : ¬ j7 = 0 := hj7
        have hjp : 0 < j7 := by omega
        have HAD := Lib.hid (show ad.block ≠ bw by have h1 := HF7.out (by rw [hin]; simp) ad rfl; have h2 := HSY.out; omega)
        clear c0 c1' hj7 hin
        have p2 : y6.cell? ⟨bc, 2, none⟩ = some (.int .i64 cb) := HBc16.out.cell 2
        have hne : ¬ x1 = cb := by omega
        have hw : wrap64 (x1 + 1) = x1 + 1 := w64r _ (by have := HCa.out; omega) (by have := HCb.out; omega)
        have HLE := Lib.hid hle
        have HLT := Lib.hid hlt
        clear hle hlt
        go_wp2_with fail
        go_quiet (fail)
        obtain ⟨z6, hz6⟩ : ∃ v, v = y6.drewN nq := ⟨_, rfl⟩
        rw [← hz6]
        have hxz : Ext y6 z6 := by rw [hz6]; exact (Ext.refl _).drewN _
        have HBw26 := Lib.hid (HBw16.out.to hxz)
        have HBd26 := Lib.hid (HBd16.out.to hxz)
        have HBi26 := Lib.hid (HBi16.out.to hxz)
        have X26 := Lib.hid (X16.out.step hxz)
        have k5z : z6.cell? ad = some (.int .i64 x1) := hxz.cellOf k5
        have k6z : z6.cell? { block := ad.block, off := ad.off + 1 } = some (.int .i64 x2) := hxz.cellOf k6
        clear k5 k6 p2 hz6 hxz
        obtain ⟨y7, hy7⟩ : ∃ v, v = z6.setCell ⟨bw, 1, none⟩ (.int .i64 (x1 + 1)) := ⟨_, rfl⟩
        have O7 : Only bw z6 y7 := by rw [hy7]; exact (Only.refl _ _).set 1 _
        have HBw17 := Lib.hid (show Bx y7 bw #[.int .u64 r, .int .i64 (x1 + 1), .int .i64 cb, .bool false] by rw [hy7]; exact HBw26.out.set (j := 1) (by simp) _)
        have HBd17 := Lib.hid (O7.bx HBd26.out (by have := HBN.out; omega))
        have HBi17 := Lib.hid (O7.bx HBi26.out (by have := HBN.out; omega))
        have X17 := Lib.hid (O7.new X26.out HBWL.out)
        have HO7 := Lib.hid O7
        have Hy7 := Lib.hid hy7
        have s0 : z6.cell? ⟨bw, 1, none⟩ = some (.int .i64 ca) := HBw26.out.cell 1
        have sf := HBw26.out.free 1
        clear hy7 O7
        go_upto_region 26 with fail
        rw [← Hy7.out]
        clear s0 sf
        have k7 : y7.cell? ad = some (.int .i64 x1) := HO7.out.cellOf k5z HAD.out
        have k8 : y7.cell? { block := ad.block, off := ad.off + 1 } = some (.int .i64 x2) := HO7.out.cellOf k6z HAD.out
        clear k5z k6z
        have s0 : y7.cell? ⟨bw, 0, none⟩ = some (.int .u64 r) := HBw17.out.cell 0
        have s1 : y7.cell? ⟨bw, 1, none⟩ = some (.int .i64 (x1 + 1)) := HBw17.out.cell 1
        have s2 : y7.cell? ⟨bw, 2, none⟩ = some (.int .i64 cb) := HBw17.out.cell 2
        have s3 : y7.cell? ⟨bw, 3, none⟩ = some (.bool false) := HBw17.out.cell 3
        have q0 : y7.cell? ⟨bd, 0, none⟩ = some (.int .u64 r) := HBd17.out.cell 0
        have q1 : y7.cell? ⟨bd, 1, none⟩ = some (.int .i64 (x1 + 1)) := HBd17.out.cell 1
        have q2 : y7.cell? ⟨bd, 2, none⟩ = some (.int .i64 cb) := HBd17.out.cell 2
        have q3 : y7.cell? ⟨bd, 3, none⟩ = some (.bool false) := HBd17.out.cell 3
        have i0 : y7.cell? ⟨bi, 0, none⟩ = some (.int .i64 x1) := HBi17.out.cell 0
        have i1 : y7.cell? ⟨bi, 1, none⟩ = some (.int .i64 x2) := HBi17.out.cell 1
        go_quiet (fail)
        go_wp2_with fail
        go_ret
        exact ⟨rfl, X17.out.drewN _⟩
  · have HR2 := Lib.hid (fun W (hW : Ext w W) => rfRight_is A B n' m' c d ns' fs' r W (HA.out.to hW) hn1 hm1 hU false (by simp [hq]))
    have HNo := Lib.hid hq
    have HC := Lib.hid (all_arg A B n' m' c d ns' fs' r low high w3 (HA3.out _ (Ext.refl _)) hn1 hm1 hU hq)
    unfold AllE at HC
    clear hq
    refine HC.out.mono ?_
    rintro e w4 ⟨rfl, hx4⟩
    have X4 := Lib.hid hx4
    clear k0 k1 hx4 HC
    obtain ⟨k0, k1⟩ := S.out w4 X4.out
    have HC := Lib.hid (open_any A B n' m' c d ns' fs' r low high w4 (HA3.out _ X4.out) hn1 hm1 hU false (by simp [HNo.out]))
    simp only [Bool.false_eq_true, if_false] at HC
    unfold OpenA at HC
    go_wp2_with fail
    refine HC.out.mono ?_
    rintro e w5 ⟨rfl, hx5⟩
    obtain ⟨w5b, hw5b⟩ : ∃ v, v = w5.alloc (.cells #[.int .u64 0, .int .i64 0, .int .i64 0, .bool false] 29) := ⟨_, rfl⟩
    obtain ⟨Bo, hxw5b, hsw5b⟩ := box_made hw5b
    obtain ⟨bo, hbo⟩ : ∃ b, b = w5.heap.size := ⟨_, rfl⟩
    rw [← hbo] at Bo
    have X5 := Lib.hid (X4.out.step (hx5.step hxw5b))
    have HBo := Lib.hid Bo
    have H5 := Lib.hid hw5b
    have Hbo := Lib.hid hbo
    have HOo := Lib.hid (show be < bo by have h1 := HO.out; have h2 := HS3.out; have h3 := X4.out.size; have h4 := hx5.size; omega)
    obtain ⟨w6, hw6⟩ : ∃ v, v = w5b.alloc (.cells #[.slice none 0 0] 31) := ⟨_, rfl⟩
    obtain ⟨Bg, hx6, hs6⟩ := box_made hw6
    obtain ⟨bg, hbg⟩ : ∃ b, b = w5b.heap.size := ⟨_, rfl⟩
    have HG6 := Lib.hid (show Boxed w6 bg 31 (.slice none 0 0) by rw [hw6, hbg]; exact Boxed.new _ _ _)
    rw [← hbg] at Bg
    have X6 := Lib.hid (X5.out.step hx6)
    have HX6 := Lib.hid hx6
    have H6 := Lib.hid hw6
    have Hbg := Lib.hid hbg
    have HOg := Lib.hid (show bo < bg by rw [hbg]; exact HBo.out.lt)
    clear hw5b hbo Bo hx5 hxw5b hsw5b hw6 hbg hx6 hs6 HC Bg
    go_upto_region 4 with fail
    rw [← H5.out, ← Hbo.out]
    go_upto_region 5 with fail
    rw [← H6.out, ← Hbg.out]
    clear k0 k1
    obtain ⟨k0, k1⟩ := S.out w6 X6.out
    have hmf : ∀ (fn : Fn) (first cap : Array Value) (w : World), (Instr.makeFunc fn first cap).run Try.prog w = .ok (.func fn first cap) w := fun fn first cap w => rfl
    go_wp2_with fail
    have HW := Lib.hid (walk_arg A B n' m' c d ns' fs' r 12 #[.pointer (some ⟨bg, 0, none⟩), .pointer (some ⟨be, 0, none⟩)] w6 (HA3.out _ X6.out) hn1 hm1 hU HNo.out)
    unfold IntE at HW
    refine HW.out.mono ?_
    rintro e w7 ⟨rfl, hx7'⟩
    have hx7 := HX6.out.step hx7'
    have hgb : Lk 31 w7 bg #[.slice none 0 0] := Lk.to (t := 31) HG6.out hx7'
    have X7 := X5.out.step hx7
    obtain ⟨w8, hw8⟩ : ∃ v, v = w7.setCell ⟨bc, 0, none⟩ (.int .u64 r) := ⟨_, rfl⟩
    have O8 : Only bc w7 w8 := by rw [hw8]; exact (Only.refl _ _).set 0 _
    have hBc7 := HBc3.out.to X7
    have HBa8 := Lib.hid (O8.bx (HBa3.out.to X7) (by have := HO.out; omega))
    have HBc8 := Lib.hid (show Bx w8 bc #[.int .u64 r, .int .i64 ca, .int .i64 cb, .bool cq] by rw [hw8]; exact hBc7.set (j := 0) (by simp) _)
    have HBo8 := Lib.hid (O8.bx (HBo.out.to hx7) (by have := HO.out; have := HOo.out; omega))
    have HGB8 := Lib.hid (Lk.only8 (show Lk 31 w7 bg #[.slice none 0 0] from hgb) O8 (by have h1 := HO.out; have h2 := HOo.out; have h3 := HOg.out; omega))
    have HLe8 := Lib.hid (Lk.only8 (HLe3.out.to X7) O8 (by have := HO.out; omega))
    have X8 := Lib.hid (O8.new (X3.out.step X7) (by have := HO.out; omega))
    have q0 : w7.cell? ⟨bc, 0, none⟩ = some (.int .u64 cz) := hBc7.cell 0
    have qf := hBc7.free 0
    have H8 := Lib.hid hw8
    clear hw8 O8 hBc7 X7 hx7 hgb hx7' k0 k1 hmf S HBa3 HBc3 HLe3 HBo HG6 X6 HX6 X5 X4 HS3 HW HA3
    go_upto_region 7 with fail
    rw [← H8.out]
    clear q0 qf
    have k0 : w8.cell? ⟨ba, 0, none⟩ = some (.slice A n' c) := HBa8.out.cell 0
    have k1 : w8.cell? ⟨ba, 1, none⟩ = some (.slice B m' d) := HBa8.out.cell 1
    have p0 : w8.cell? ⟨bc, 0, none⟩ = some (.int .u64 r) := HBc8.out.cell 0
    have p1 : w8.cell? ⟨bc, 1, none⟩ = some (.int .i64 ca) := HBc8.out.cell 1
    have p2 : w8.cell? ⟨bc, 2, none⟩ = some (.int .i64 cb) := HBc8.out.cell 2
    have p3 : w8.cell? ⟨bc, 3, none⟩ = some (.bool cq) := HBc8.out.cell 3
    have HST := Lib.hid (step_no A B n' m' c d ns' fs' r ca cb cq w8 (HA.out.to X8.out) hn1 hm1 hU false (by simp [HNo.out]) 1 (.inl ⟨rfl, rfl⟩))
    unfold StepA at HST
    go_wp2_with fail
    refine HST.out.mono ?_
    rintro e w9 ⟨rfl, hx9⟩
    clear HST
    obtain ⟨w9a, hw9a⟩ : ∃ v, v = w9.alloc (.cells #[.int .u64 0, .int .i64 0, .int .i64 0, .bool false] 29) := ⟨_, rfl⟩
    obtain ⟨Bd, hxw9a, hsw9a⟩ := box_made hw9a
    obtain ⟨w9b, hw9b⟩ : ∃ v, v = w9a.alloc (.cells #[.int .i64 0, .int .i64 0] 40) := ⟨_, rfl⟩
    obtain ⟨Bi, hxw9b, hsw9b⟩ := box_made hw9b
    obtain ⟨w10, hw10⟩ : ∃ v, v = w9b.alloc (.cells #[.int .u64 0, .int .i64 0, .int .i64 0, .bool false] 29) := ⟨_, rfl⟩
    obtain ⟨Bn, hxw10, hsw10⟩ := box_made hw10
    obtain ⟨bd, hbd⟩ : ∃ b, b = w9.heap.size := ⟨_, rfl⟩
    obtain ⟨bi, hbi⟩ : ∃ b, b = w9.heap.size + 1 := ⟨_, rfl⟩
    obtain ⟨bn, hbn⟩ : ∃ b, b = w9b.heap.size := ⟨_, rfl⟩
    rw [← hbd] at Bd
    rw [hsw9a, ← hbi] at Bi
    rw [← hbn] at Bn
    have hx10 := hx9.step (hxw9a.step (hxw9b.step hxw10))
    have X10 := Lib.hid (X8.out.step hx10)
    have HBa10 := Lib.hid (HBa8.out.to hx10)
    have HBc10 := Lib.hid (HBc8.out.to hx10)
    have HBo10 := Lib.hid (HBo8.out.to hx10)
    have HGB10 := Lib.hid (HGB8.out.to hx10)
    have HLe10 := Lib.hid (HLe8.out.to hx10)
    have HBd10 := Lib.hid (Bd.to (hxw9b.step hxw10))
    have HBi10 := Lib.hid (Bi.to hxw10)
    have HBn10 := Lib.hid Bn
    have H9a := Lib.hid hw9a
    have H9b := Lib.hid hw9b
    have H10 := Lib.hid hw10
    have Hbd := Lib.hid hbd
    have Hbi := Lib.hid hbi
    have Hbn := Lib.hid hbn
    clear Bd Bi Bn hx10 hw9a hw9b hw10 hbd hbi hbn hsw9a hsw9b hsw10 hx9 hxw9a hxw9b hxw10 k0 k1 p0 p1 p2 p3 HBa8 HBc8 HBo8 HGB8 HLe8 X8 H8 
    go_upto_region 8 with fail
    rw [← H9a.out, ← H9b.out, ← Hbi.out, ← Hbd.out]
    go_upto_region 9 with fail
    rw [← H10.out, ← Hbn.out]
    have k0 : w10.cell? ⟨ba, 0, none⟩ = some (.slice A n' c) := HBa10.out.cell 0
    have k1 : w10.cell? ⟨ba, 1, none⟩ = some (.slice B m' d) := HBa10.out.cell 1
    go_wp2_with fail
    refine (HR2.out _ X10.out).mono ?_
    rintro e w11 ⟨rfl, hx11⟩
    have X11 := Lib.hid (X10.out.step hx11)
    clear k0 k1
    go_wp2_with fail
    refine (HAl.out _).mono ?_
    rintro e w12 ⟨rfl, hx12⟩
    have X12 := Lib.hid (X11.out.step hx12)
    have hx13 := hx11.step hx12
    have HBo12 := Lib.hid (HBo10.out.to hx13)
    have HBd12 := Lib.hid (HBd10.out.to hx13)
    have HBi12 := Lib.hid (HBi10.out.to hx13)
    have HBn12 := Lib.hid (HBn10.out.to hx13)
    have HGB12 := Lib.hid (HGB10.out.to hx13)
    clear hx11 hx12 hx13
    have heq := it_eql8
    have hceq := cu_eql
    have p0 : w12.cell? ⟨bo, 0, none⟩ = some (.int .u64 0) := HBo12.out.cell 0
    have p1 : w12.cell? ⟨bo, 1, none⟩ = some (.int .i64 0) := HBo12.out.cell 1
    have p2 : w12.cell? ⟨bo, 2, none⟩ = some (.int .i64 0) := HBo12.out.cell 2
    have p3 : w12.cell? ⟨bo, 3, none⟩ = some (.bool false) := HBo12.out.cell 3
    have q0 : w12.cell? ⟨bd, 0, none⟩ = some (.int .u64 0) := HBd12.out.cell 0
    have q1 : w12.cell? ⟨bd, 1, none⟩ = some (.int .i64 0) := HBd12.out.cell 1
    have q2 : w12.cell? ⟨bd, 2, none⟩ = some (.int .i64 0) := HBd12.out.cell 2
    have q3 : w12.cell? ⟨bd, 3, none⟩ = some (.bool false) := HBd12.out.cell 3
    have n0 : w12.cell? ⟨bn, 0, none⟩ = some (.int .u64 0) := HBn12.out.cell 0
    have n1 : w12.cell? ⟨bn, 1, none⟩ = some (.int .i64 0) := HBn12.out.cell 1
    have n2 : w12.cell? ⟨bn, 2, none⟩ = some (.int .i64 0) := HBn12.out.cell 2
    have n3 : w12.cell? ⟨bn, 3, none⟩ = some (.bool false) := HBn12.out.cell 3
    have i0 : w12.cell? ⟨bi, 0, none⟩ = some (.int .i64 0) := HBi12.out.cell 0
    have i1 : w12.cell? ⟨bi, 1, none⟩ = some (.int .i64 0) := HBi12.out.cell 1
    have g0 : w12.cell? ⟨bg, 0, none⟩ = some (.slice none 0 0) := HGB12.out.cell 0
    go_wp2_with fail
    go_ret
    exact ⟨rfl, X12.out⟩

theorem SpanTells_walk (w : World) (A B : Option Addr) (n m c d : Nat) (ns : List Nd) (fs : List Int) (h : Ar w A n B m ns fs) (hn : n ≤ c) (hm : m ≤ d) (hc : c ≤ maxLen) (hd : d ≤ maxLen) (hns : ∀ y ∈ ns, NdR y) (r : Int) (wr : (Lit.int .u64 r).wf = true) (low : Int) (_ : (Lit.int .i64 low).wf = true) (high : Int) (_ : (Lit.int .i64 high).wf = true)
    (cz ca cb : Int) (cq : Bool) (_ : (Lit.int .u64 cz).wf = true) (wa : (Lit.int .i64 ca).wf = true) (wb : (Lit.int .i64 cb).wf = true) (enough : Int) (_ : (Lit.int .i64 enough).wf = true) :
    Calls Try.prog 3 #[.agg #[.slice A n c, .slice B m d], .int .u64 r, .int .i64 low, .int .i64 high, cuv cz ca cb cq, .int .i64 enough] w fun e w' => e = .returned (.bool true) ∧ Ext w w' :=
  tells8_m A B n m c d ns fs r low high cz ca cb cq enough w h hn hm hc hd hns (u64_bounds_8 wr) (wfi wa).1 (wfi wb).2

end Go.Proofs.Ythgaogbpkedjcaa
