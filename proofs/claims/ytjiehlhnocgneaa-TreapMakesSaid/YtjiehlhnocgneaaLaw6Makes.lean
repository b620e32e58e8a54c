/-
  The walk of TreapMakes.
-/
import Derived.Test.YtjiehlhnocgneaaMakesA
import Derived.Test.YtjiehlhnocgneaaTrAlive
import Derived.Test.YtjiehlhnocgneaaTrErr
import Derived.Test.YtjiehlhnocgneaaGF
import Derived.Test.YtjiehlhnocgneaaArOpen
set_option linter.unusedVariables false
set_option linter.unusedSimpArgs false
namespace Go.Proofs.Ytjiehlhnocgneaa
open Go.RowKit

set_option maxHeartbeats 12800000 in
set_option maxRecDepth 100000 in
theorem makes6_walk (A B : Option Addr) (n m c d : Nat) (ns : List Nd) (fs : List Int) (r key v : Int) (w : World) (h : Ar w A n B m ns fs) (hnc : n ≤ c) (hmd : m ≤ d) (hc : c ≤ maxLen) (hd : d ≤ maxLen) (hU : U r) :
    Calls Try.prog 3 #[.agg #[.slice A n c, .slice B m d], .int .u64 r, .int .i64 key, .int .i64 v] w fun e w' => e = .returned (.bool true) ∧ Ext w w' := by
  obtain ⟨w1, hw1⟩ : ∃ w1, w1 = w.alloc (.cells #[.slice A n c, .slice B m d] 25) := ⟨_, rfl⟩
  obtain ⟨B1, hx1, hs1⟩ := box_made hw1
  have hAn : A = none → n = 0 := fun e => by
    rcases Nat.eq_zero_or_pos n with h' | h'
    · exact h'
    · obtain ⟨ad, ha⟩ := h.nodes.some_ h' (by omega)
      rw [e] at ha; cases ha
  have hBn : B = none → m = 0 := fun e => by
    rcases Nat.eq_zero_or_pos m with h' | h'
    · exact h'
    · obtain ⟨ad, ha⟩ := h.free.some_ h' (by omega)
      rw [e] at ha; cases ha
  have HF := Lib.hid (few6_is A B n m c d w1 hAn hBn hnc hmd hc hd)
  have k0 : w1.cell? ⟨w.heap.size, 0, none⟩ = some (.slice A n c) := B1.cell 0
  have k1 : w1.cell? ⟨w.heap.size, 1, none⟩ = some (.slice B m d) := B1.cell 1
  have HB1 := Lib.hid B1
  have H1 := Lib.hid hw1
  have X1 := Lib.hid hx1
  have HA := Lib.hid h.few6
  have hn60 : min n 60 ≤ 60 := by omega
  have hm62 : min m 62 ≤ 62 := by omega
  generalize ns.take 60 = ns' at HA
  generalize fs.take 62 = fs' at HA
  generalize min n 60 = n' at HF HA hn60
  generalize min m 62 = m' at HF HA hm62
  clear hw1 B1 hx1 hs1 hAn hBn h hnc hmd hc hd
  go_enter Try.func3, Try.ntmps3
  go_wp2_with fail
  rw [← H1.out]
  go_wp2_with fail
  refine HF.out.mono ?_; rintro e w2 ⟨rfl, hx2⟩
  have b2 := HB1.out.to hx2
  have X2 := Lib.hid (X1.out.step hx2)
  clear hx2 k0 k1
  go_wp2_with (first
    | (refine wpList_store_ar (by rfl) (.tmp 4) (.tmp 31) (by rfl) w.heap.size (by rfl) (.slice A n' c) (.slice B m' d) (by rfl) rfl rfl _ b2 (by simp) ?_
       intro w3 B3 O3
       have X3 := Lib.hid (O3.new X2.out (Nat.le_refl _))
       have HB3 := Lib.hid B3
       have k0 : w3.cell? ⟨w.heap.size, 0, none⟩ = some (.slice A n' c) := B3.cell 0
       have k1 : w3.cell? ⟨w.heap.size, 1, none⟩ = some (.slice B m' d) := B3.cell 1
       clear B3 O3))
  have HA3 := Lib.hid (fun W (hW : Ext w3 W) => HA.out.to (X3.out.step hW))
  have S := Lib.hid (fun W (hW : Ext w3 W) => show W.cell? ⟨w.heap.size, 0, none⟩ = some (.slice A n' c) ∧ W.cell? ⟨w.heap.size, 1, none⟩ = some (.slice B m' d) from ⟨(HB3.out.to hW).cell 0, (HB3.out.to hW).cell 1⟩)
  have hn1 : n' ≤ 1000 := by omega
  have hm1 : m' ≤ 1000 := by omega
  have HAl := Lib.hid (fun W => alive6_is W)
  clear b2
  have HX3 := X3
  by_cases hq : ArMay ns' fs' ∧ MapAt ns' r
  · obtain ⟨hmay, t, hM, hr⟩ := hq
    subst hr
    have HAv := Lib.hid (show Av w3 A n' B m' ns' fs' from ⟨HA3.out _ (Ext.refl _), hmay⟩)
    have HM := Lib.hid (show MapV ns' t.ref t.row from ⟨t, hM, rfl, rfl, hU⟩)
    have HR2 := Lib.hid (fun W (hW : Ext w3 W) => rfRight_is A B n' m' c d ns' fs' t.ref W (HA3.out W hW) hn1 hm1 hU true (by simp only [true_iff]; exact ⟨hmay, t, hM, rfl⟩))
    clear hM hmay
    generalize t.ref = r at *
    generalize t.row = row at *
    have hl := HM.out.le
    have HS := Lib.hid HM.out.srt
    have HRow := Lib.hid (av_row (c := c) (d := d) HAv.out HM.out)
    have HPC := Lib.hid (put_may (c := c) (d := d) HAv.out HM.out key v)
    have HDC := Lib.hid (del_may (c := c) (d := d) HAv.out HM.out key)
    have HSC := Lib.hid (split_may (c := c) (d := d) HAv.out HM.out key)
    unfold RowS at HRow
    unfold Tells at HPC HDC
    unfold Tells4 at HSC
    go_wp2_with fail
    refine (HR2.out _ (Ext.refl _)).mono ?_; rintro e w4 ⟨rfl, hx4⟩
    have X4 := Lib.hid hx4
    clear hx4 k0 k1
    obtain ⟨k0, k1⟩ := S.out w4 X4.out
    go_wp2_with fail
    refine (HRow.out _ X4.out).mono ?_; rintro e w5 ⟨L, jl, cL, rfl, hr, hx⟩
    have X5 := Lib.hid (X4.out.step hx)
    have HR := Lib.hid hr
    clear hx hr k0 k1
    obtain ⟨k0, k1⟩ := S.out w5 X5.out
    go_wp2_with fail
    refine (HPC.out _ X5.out).mono ?_
    rintro e v1 ⟨Ab, nb, cb, Bb, mb, db, s, e, rfl, hv, hx⟩
    obtain ⟨v1b, hb⟩ : ∃ wb, wb = v1.alloc (.cells #[.slice Ab nb cb, .slice Bb mb db] 25) := ⟨_, rfl⟩
    obtain ⟨Bb, hxb, hsb⟩ := box_made hb
    have Xv1 := Lib.hid (X5.out.step (hx.step hxb))
    have HR := Lib.hid (HR.out.to (hx.step hxb))
    have HPu := Lib.hid (hv.to hxb)
    have HBb := Lib.hid Bb
    have Hwv1 := Lib.hid hb
    obtain ⟨bb, hbb⟩ : ∃ b, b = v1.heap.size := ⟨_, rfl⟩
    have Hbb := Lib.hid hbb
    rw [← hbb] at HBb
    clear k0 k1
    have k0 : v1b.cell? ⟨w.heap.size, 0, none⟩ = some (.slice A n' c) := (S.out _ Xv1.out).1
    have k1 : v1b.cell? ⟨w.heap.size, 1, none⟩ = some (.slice B m' d) := (S.out _ Xv1.out).2
    rw [hb] at k0 k1
    clear hv hb hxb hsb Bb hbb hx
    go_wp2_with fail
    rw [← Hwv1.out, ← Hbb.out]
    refine (HDC.out _ Xv1.out).mono ?_
    rintro e v2 ⟨Ae, ne, ce, Be, me, de, t2, f, rfl, hv, hx⟩
    obtain ⟨v2b, hb⟩ : ∃ wb, wb = v2.alloc (.cells #[.slice Ae ne ce, .slice Be me de] 25) := ⟨_, rfl⟩
    obtain ⟨Bb, hxb, hsb⟩ := box_made hb
    have Xv2 := Lib.hid (Xv1.out.step (hx.step hxb))
    have HR := Lib.hid (HR.out.to (hx.step hxb))
    have HPu := Lib.hid (HPu.out.to (hx.step hxb))
    have HBb := Lib.hid (HBb.out.to (hx.step hxb))
    have HDe := Lib.hid (hv.to hxb)
    have HBc := Lib.hid Bb
    have Hwv2 := Lib.hid hb
    obtain ⟨bc, hbb⟩ : ∃ b, b = v2.heap.size := ⟨_, rfl⟩
    have Hbc := Lib.hid hbb
    rw [← hbb] at HBc
    clear k0 k1
    have k0 : v2b.cell? ⟨w.heap.size, 0, none⟩ = some (.slice A n' c) := (S.out _ Xv2.out).1
    have k1 : v2b.cell? ⟨w.heap.size, 1, none⟩ = some (.slice B m' d) := (S.out _ Xv2.out).2
    rw [hb] at k0 k1
    clear hv hb hxb hsb Bb hbb hx
    go_wp2_with fail
    rw [← Hwv2.out, ← Hbc.out]
    refine (HSC.out _ Xv2.out).mono ?_
    rintro e v3 ⟨Ad, nd, cd, Bd, md, dd, x, y, g, rfl, hv, hx⟩
    obtain ⟨v3b, hb⟩ : ∃ wb, wb = v3.alloc (.cells #[.slice Ad nd cd, .slice Bd md dd] 25) := ⟨_, rfl⟩
    obtain ⟨Bb, hxb, hsb⟩ := box_made hb
    have Xv3 := Lib.hid (Xv2.out.step (hx.step hxb))
    have HR := Lib.hid (HR.out.to (hx.step hxb))
    have HPu := Lib.hid (HPu.out.to (hx.step hxb))
    have HBb := Lib.hid (HBb.out.to (hx.step hxb))
    have HDe := Lib.hid (HDe.out.to (hx.step hxb))
    have HBc := Lib.hid (HBc.out.to (hx.step hxb))
    have HSp := Lib.hid (hv.to hxb)
    have HBd := Lib.hid Bb
    have Hwv3 := Lib.hid hb
    obtain ⟨bd, hbb⟩ : ∃ b, b = v3.heap.size := ⟨_, rfl⟩
    have Hbd := Lib.hid hbb
    rw [← hbb] at HBd
    clear k0 k1
    have k0 : v3b.cell? ⟨w.heap.size, 0, none⟩ = some (.slice A n' c) := (S.out _ Xv3.out).1
    have k1 : v3b.cell? ⟨w.heap.size, 1, none⟩ = some (.slice B m' d) := (S.out _ Xv3.out).2
    rw [hb] at k0 k1
    clear hv hb hxb hsb Bb hbb hx
    clear HPC HDC HSC HRow HR2
    go_upto_region 9 with fail
    rw [← Hwv3.out, ← Hbd.out]
    clear k0 k1
    go_cut [21, 22] (fun s21 s22 wx => Ext v3b wx ∧ ∃ (LL : Option Addr) (jj cc : Nat) (fu : Bool), s21 = .slice LL jj cc ∧ s22 = .bool fu ∧ Hid (RdR wx (.slice LL jj cc) (lo row key)) ∧ Hid (fu = true ↔ m' < 2 * jl + 1))
    case first =>
      have hjl : jl ≤ 200 := by have := HR.out.len; omega
      have HBl := Lib.hid (rdr_below HR.out (by omega) key)
      unfold RowS at HBl
      have e1 : IntKind.i64.wrap (2 * (jl : Int)) = 2 * (jl : Int) := by rw [IntKind.wrap_i64]; omega
      have e2 : IntKind.i64.wrap (2 * (jl : Int) + 1) = 2 * (jl : Int) + 1 := by rw [IntKind.wrap_i64]; omega
      have HSS := Lib.hid (fun W (hW : Ext v3b W) => S.out W (Xv3.out.step hW))
      have hS0 : Ext v3b v3b.drew := (Ext.refl _).drew
      refine wp_region_held (S := fun W => Ext v3b W) (by kernel_rfl) ?_
      refine wpAnyH_take (i := 0) (v := .slice L jl cL) rfl (by kernel_rfl) (by kernel_rfl) (by kernel_rfl) (fun _ _ _ h => h) (Or.inl ⟨by rfl, by intro W hW; obtain ⟨g0, g1⟩ := HSS.out W hW; go_simp⟩) hS0 ?_
      try simp only [Act.put, List.getElem_toArray, List.getElem_cons_succ, List.getElem_cons_zero, List.setIfInBounds_toArray, List.set_cons_zero, List.set_cons_succ]
      refine wpAnyH_take (i := 1) (v := .int .i64 key) rfl (by kernel_rfl) (by kernel_rfl) (by kernel_rfl) (fun _ _ _ h => h) (Or.inl ⟨by rfl, by intro W hW; obtain ⟨g0, g1⟩ := HSS.out W hW; go_simp⟩) hS0 ?_
      try simp only [Act.put, List.getElem_toArray, List.getElem_cons_succ, List.getElem_cons_zero, List.setIfInBounds_toArray, List.set_cons_zero, List.set_cons_succ]
      refine wpAnyH_take (i := 3) (v := .pointer (some ⟨w.heap.size, 1, none⟩)) rfl (by kernel_rfl) (by kernel_rfl) (by kernel_rfl) (fun _ _ _ h => h) (Or.inl ⟨by rfl, by intro W hW; obtain ⟨g0, g1⟩ := HSS.out W hW; go_simp⟩) hS0 ?_
      try simp only [Act.put, List.getElem_toArray, List.getElem_cons_succ, List.getElem_cons_zero, List.setIfInBounds_toArray, List.set_cons_zero, List.set_cons_succ]
      refine wpAnyH_take (i := 4) (v := .slice B m' d) rfl (by kernel_rfl) (by kernel_rfl) (by kernel_rfl) (fun _ _ _ h => h) (Or.inl ⟨by rfl, by intro W hW; obtain ⟨g0, g1⟩ := HSS.out W hW; go_simp⟩) hS0 ?_
      try simp only [Act.put, List.getElem_toArray, List.getElem_cons_succ, List.getElem_cons_zero, List.setIfInBounds_toArray, List.set_cons_zero, List.set_cons_succ]
      refine wpAnyH_take (i := 5) (v := .int .i64 m') rfl (by kernel_rfl) (by kernel_rfl) (by kernel_rfl) (fun _ _ _ h => h) (Or.inl ⟨by rfl, by intro W hW; obtain ⟨g0, g1⟩ := HSS.out W hW; go_simp⟩) hS0 ?_
      try simp only [Act.put, List.getElem_toArray, List.getElem_cons_succ, List.getElem_cons_zero, List.setIfInBounds_toArray, List.set_cons_zero, List.set_cons_succ]
      refine wpAnyH_take (i := 6) (v := .int .i64 jl) rfl (by kernel_rfl) (by kernel_rfl) (by kernel_rfl) (fun _ _ _ h => h) (Or.inl ⟨by rfl, by intro W hW; obtain ⟨g0, g1⟩ := HSS.out W hW; go_simp⟩) hS0 ?_
      try simp only [Act.put, List.getElem_toArray, List.getElem_cons_succ, List.getElem_cons_zero, List.setIfInBounds_toArray, List.set_cons_zero, List.set_cons_succ]
      refine wpAnyH_take (i := 7) (v := .int .i64 (IntKind.i64.wrap (2 * (jl : Int)))) rfl (by kernel_rfl) (by kernel_rfl) (by kernel_rfl) (fun _ _ _ h => h) (Or.inl ⟨by rfl, by intro W hW; obtain ⟨g0, g1⟩ := HSS.out W hW; go_simp⟩) hS0 ?_
      rw [e1]
      try simp only [Act.put, List.getElem_toArray, List.getElem_cons_succ, List.getElem_cons_zero, List.setIfInBounds_toArray, List.set_cons_zero, List.set_cons_succ]
      refine wpAnyH_take (i := 8) (v := .int .i64 (IntKind.i64.wrap (2 * (jl : Int) + 1))) rfl (by kernel_rfl) (by kernel_rfl) (by kernel_rfl) (fun _ _ _ h => h) (Or.inl ⟨by rfl, by intro W hW; obtain ⟨g0, g1⟩ := HSS.out W hW; go_simp⟩) hS0 ?_
      rw [e2]
      try simp only [Act.put, List.getElem_toArray, List.getElem_cons_succ, List.getElem_cons_zero, List.setIfInBounds_toArray, List.set_cons_zero, List.set_cons_succ]
      refine wpAnyH_take (i := 9) (v := .bool (decide ((m' : Int) < 2 * (jl : Int) + 1))) rfl (by kernel_rfl) (by kernel_rfl) (by kernel_rfl) (fun _ _ _ h => h) (Or.inl ⟨by rfl, by intro W hW; obtain ⟨g0, g1⟩ := HSS.out W hW; go_simp⟩) hS0 ?_
      try simp only [Act.put, List.getElem_toArray, List.getElem_cons_succ, List.getElem_cons_zero, List.setIfInBounds_toArray, List.set_cons_zero, List.set_cons_succ]
      refine held_one2 (i := 2) (by kernel_rfl) rfl (by rfl) ?_
      go_simp
      refine (HBl.out _ hS0).mono ?_
      rintro e z1 ⟨LL, jj, cc, rfl, hr, hx⟩
      have hS1 : Ext v3b z1 := Ext.step hS0 hx
      have HRl := Lib.hid hr
      clear hx hr hS0
      refine ⟨hS1, ?_⟩
      try simp only [Act.put, List.getElem_toArray, List.getElem_cons_succ, List.getElem_cons_zero, List.setIfInBounds_toArray, List.set_cons_zero, List.set_cons_succ]
      refine wpAnyH_take (i := 10) (v := .slice LL jj cc) rfl (by kernel_rfl) (by kernel_rfl) (by kernel_rfl) (fun _ _ _ h => h) (Or.inl ⟨by rfl, by intro W hW; obtain ⟨g0, g1⟩ := HSS.out W hW; go_simp⟩) hS1 ?_
      try simp only [Act.put, List.getElem_toArray, List.getElem_cons_succ, List.getElem_cons_zero, List.setIfInBounds_toArray, List.set_cons_zero, List.set_cons_succ]
      refine wpAnyH_take (i := 11) (v := .bool (decide ((m' : Int) < 2 * (jl : Int) + 1))) rfl (by kernel_rfl) (by kernel_rfl) (by kernel_rfl) (fun _ _ _ h => h) (Or.inl ⟨by rfl, by intro W hW; obtain ⟨g0, g1⟩ := HSS.out W hW; go_simp⟩) hS1 ?_
      try simp only [Act.put, List.getElem_toArray, List.getElem_cons_succ, List.getElem_cons_zero, List.setIfInBounds_toArray, List.set_cons_zero, List.set_cons_succ]
      refine ⟨by kernel_rfl, ?_⟩
      have HFin := Lib.hid hS1
      clear hS1
      go_wp2_with fail
      go_meet
      case rel => exact ⟨HFin.out, LL, jj, cc, _, rfl, rfl, HRl, Lib.hid (by rw [decide_eq_true_eq]; omega)⟩
    case rest =>
      obtain ⟨hx, LL, jj, cc, fu, rfl, rfl, HRl, HFu⟩ := hcut
      rename World => v4
      have X4' := Lib.hid hx
      clear hx
      rename ∀ (a : Act) (w : World), Code.wp _ _ _ a w → _ => hK
      refine hK _ _ ?_
      exact makes_A w v4 w.heap.size bb bc bd n' c m' d nb cb mb db ne ce me de nd cd md dd jl cL jj cc A B Ab Bb Ae Be Ad Bd L LL x y g t2 f s e key v fu ns' fs' row _ _ _ _ _ _ _ _ _ _ _ _ _ _ _ _ _ _ _ _ _ _ _ _ _ _ _ _ _ _ _ _ _ _ _ _ _ _ _ _ _ _ _ _ _ _ _ _ _ _ _ _ _ _ _ _ _ _ _ _ _ _ _ _ _ _ _ _ _ _ _ _ _ _ _ _ _ _ _ _ _ _ _ _ _ _ _ _ _ _ _ _ _ _ _ _ _ _ _ _ _ _ _ _ _ _ _ _ _ _ _ _ _ _ _ _ _ _ _ _ _ _ _ _ _ _ _ _ _ _ _ _ _ _ _ _ _ _ _ _ _ _ _ _ _ _ _ _ _ _ _ _ _ _ _ _ _ _ _ _ _ _ _ _ _ _ _ _ _ _ _ _ _ _ _ _ _ _ _ _ _ _ _ _ _ _ _ _ _ _ _ _ _ _ _ _ _ _ _ _ _ _ _ _ _ _ _ _ _ _ _ _ _ _ _ _ _ _ _ _ _ _ _ _ _ _ _ _ _ _ _ _ _ _ _ _ _ _ _ _ _ _ _ _ _ _ _ _ _ _ _ _ _ (Lib.hid (HX3.out.step (Xv3.out.step X4'.out))) (Lib.hid (HB3.out.to (Xv3.out.step X4'.out))) (Lib.hid (HAv.out.to (Xv3.out.step X4'.out))) HFu (Lib.hid (HBd.out.to X4'.out)) (Lib.hid (HSp.out.to X4'.out)) (Lib.hid (HBc.out.to X4'.out)) (Lib.hid (HDe.out.to X4'.out)) (Lib.hid (HBb.out.to X4'.out)) (Lib.hid (HPu.out.to X4'.out)) (Lib.hid (HR.out.to X4'.out)) HRl HS hl
  · have HR2 := Lib.hid (fun W (hW : Ext w3 W) => rfRight_is A B n' m' c d ns' fs' r W (HA3.out W hW) hn1 hm1 hU false (by simp [hq]))
    clear hq
    go_wp2_with fail
    refine (HR2.out _ (Ext.refl _)).mono ?_; rintro e w4 ⟨rfl, hx4⟩
    have X4 := Lib.hid hx4
    clear hx4 k0 k1
    go_wp2_with fail
    refine (HAl.out _).mono ?_
    rintro e w5 ⟨rfl, hx5⟩
    have X5 := Lib.hid (X4.out.step hx5)
    clear hx5
    go_wp2_with fail
    go_ret
    exact ⟨rfl, X3.out.step X5.out⟩

theorem TreapMakes_walk (w : World) (A B : Option Addr) (n m c d : Nat) (ns : List Nd) (fs : List Int) (h : Ar w A n B m ns fs) (hn : n ≤ c) (hm : m ≤ d) (hc : c ≤ maxLen) (hd : d ≤ maxLen) (_ : ∀ z ∈ fs, (Lit.int .i64 z).wf = true) (r : Int) (wr : (Lit.int .u64 r).wf = true) (key : Int) (_ : (Lit.int .i64 key).wf = true) (v : Int) (_ : (Lit.int .i64 v).wf = true) :
    Calls Try.prog 3 #[.agg #[.slice A n c, .slice B m d], .int .u64 r, .int .i64 key, .int .i64 v] w fun e w' => e = .returned (.bool true) ∧ Ext w w' :=
  makes6_walk A B n m c d ns fs r key v w h hn hm hc hd (u64_bounds wr)

end Go.Proofs.Ytjiehlhnocgneaa
