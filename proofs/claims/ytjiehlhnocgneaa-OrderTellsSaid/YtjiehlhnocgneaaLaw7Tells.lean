/-
  The walk of OrderTells.
-/
import Derived.Test.YtjiehlhnocgneaaOrItem
import Derived.Test.YtjiehlhnocgneaaRfRight
import Derived.Test.YtjiehlhnocgneaaRfDel
import Derived.Test.YtjiehlhnocgneaaFew7
import Derived.Test.YtjiehlhnocgneaaArOpen
set_option linter.unusedVariables false
set_option linter.unusedSimpArgs false
namespace Go.Proofs.Ytjiehlhnocgneaa
open Go.RowKit

set_option maxHeartbeats 25600000 in
set_option maxRecDepth 100000 in
theorem tells7_walk (A B : Option Addr) (n m c d : Nat) (ns : List Nd) (fs : List Int) (r key place : Int) (w : World) (h : Ar w A n B m ns fs) (hnc : n ≤ c) (hmd : m ≤ d) (hc : c ≤ maxLen) (hd : d ≤ maxLen) (hU : U r) :
    Calls Try.prog 7 #[.agg #[.slice A n c, .slice B m d], .int .u64 r, .int .i64 key, .int .i64 place] w fun e w' => e = .returned (.bool true) ∧ Ext w w' := by
  obtain ⟨w1, hw1⟩ : ∃ w1, w1 = w.alloc (.cells #[.slice A n c, .slice B m d] 25) := ⟨_, rfl⟩
  obtain ⟨B1, hx1, hs1⟩ := box_made hw1
  have hAn : A = none → n = 0 := fun e => by
    rcases Nat.eq_zero_or_pos n with h' | h'
    · exact h'
    · obtain ⟨ad, ha⟩ := h.nodes.some_ h' (by omega)
      rw [e] at ha; cases ha
  have hBn : B = none → m = 0 := fun e => by
    rcases Nat.eq_zero_or_pos m with h' | h'
    · exact h'
    · obtain ⟨ad, ha⟩ := h.free.some_ h' (by omega)
      rw [e] at ha; cases ha
  have HF := Lib.hid (few7_is A B n m c d w1 hAn hBn hnc hmd hc hd)
  have k0 : w1.cell? ⟨w.heap.size, 0, none⟩ = some (.slice A n c) := B1.cell 0
  have k1 : w1.cell? ⟨w.heap.size, 1, none⟩ = some (.slice B m d) := B1.cell 1
  have HB1 := Lib.hid B1
  have H1 := Lib.hid hw1
  have X1 := Lib.hid hx1
  have HA := Lib.hid h.few6
  have hn60 : min n 60 ≤ 60 := by omega
  have hm62 : min m 62 ≤ 62 := by omega
  generalize ns.take 60 = ns' at HA
  generalize fs.take 62 = fs' at HA
  generalize min n 60 = n' at HF HA hn60
  generalize min m 62 = m' at HF HA hm62
  clear hw1 B1 hx1 hs1 hAn hBn h hnc hmd hc hd
  go_enter Try.func7, Try.ntmps7
  go_wp2_with fail
  rw [← H1.out]
  go_wp2_with fail
  refine HF.out.mono ?_; rintro e w2 ⟨rfl, hx2⟩
  have b2 := HB1.out.to hx2
  have X2 := Lib.hid (X1.out.step hx2)
  clear hx2 k0 k1
  go_wp2_with (first
    | (refine wpList_store_ar (by rfl) (.tmp 4) (.tmp 25) (by rfl) w.heap.size (by rfl) (.slice A n' c) (.slice B m' d) (by rfl) rfl rfl _ b2 (by simp) ?_
       intro w3 B3 O3
       have X3 := Lib.hid (O3.new X2.out (Nat.le_refl _))
       have HB3 := Lib.hid B3
       have k0 : w3.cell? ⟨w.heap.size, 0, none⟩ = some (.slice A n' c) := B3.cell 0
       have k1 : w3.cell? ⟨w.heap.size, 1, none⟩ = some (.slice B m' d) := B3.cell 1
       clear B3 O3))
  have HA3 := Lib.hid (fun W (hW : Ext w3 W) => HA.out.to (X3.out.step hW))
  have S := Lib.hid (fun W (hW : Ext w3 W) => show W.cell? ⟨w.heap.size, 0, none⟩ = some (.slice A n' c) ∧ W.cell? ⟨w.heap.size, 1, none⟩ = some (.slice B m' d) from ⟨(HB3.out.to hW).cell 0, (HB3.out.to hW).cell 1⟩)
  have hn1 : n' ≤ 1000 := by omega
  have hm1 : m' ≤ 1000 := by omega
  have HAl := Lib.hid (fun W => alive7_is W)
  clear b2
  by_cases hq : ArMay ns' fs' ∧ MapAt ns' r
  · obtain ⟨hmay, t, hM, hr⟩ := hq
    subst hr
    have HSi := Lib.hid (orSize_ok A B n' m' c d ns' fs' t w3 (HA3.out _ (Ext.refl _)) hn1 hm1 hU hmay hM)
    have HAt := Lib.hid (fun W (hW : Ext w3 W) => orAt_any A B n' m' c d ns' fs' t place W (HA3.out W hW) hn1 hm1 hU hmay hM)
    have HRk := Lib.hid (fun W (hW : Ext w3 W) => orRank_is A B n' m' c d ns' fs' t key W (HA3.out W hW) hn1 hm1 hU hmay hM)
    have HFl := Lib.hid (fun W (hW : Ext w3 W) => (orFloor_is A B n' m' c d ns' fs' t key W (HA3.out W hW) hn1 hm1 hU hmay hM).mono fun e w' h => h.says)
    have HCe := Lib.hid (fun W (hW : Ext w3 W) => (orCeil_is A B n' m' c d ns' fs' t key W (HA3.out W hW) hn1 hm1 hU hmay hM).mono fun e w' h => h.says)
    have HR2 := Lib.hid (fun W (hW : Ext w3 W) => rfRight_is A B n' m' c d ns' fs' t.ref W (HA3.out W hW) hn1 hm1 hU true (by simp only [true_iff]; exact ⟨hmay, t, hM, rfl⟩))
    have HRow := Lib.hid (fun W (hW : Ext w3 W) => row_is A B n' c m' d ns' (HA3.out W hW).ok 201 t.ref W (by omega) hU (HA3.out W hW).nodes)
    rw [rowF_rep hM.rep (by have := hM.le; omega)] at HRow
    have HSrt := Lib.hid hM.srt
    have hlen : t.row.length ≤ 200 := by rw [T.row_length]; exact hM.le
    have HUP := Lib.hid (upto_len hM.srt key)
    have hlo : (lo t.row key).length ≤ t.row.length := List.length_filter_le _ _
    rw [← T.row_length] at HSi
    unfold IntE at HSi HRk
    unfold ItemS at HAt HFl HCe
    clear hM hmay
    generalize t.ref = r at *
    generalize t.row = l at *
    obtain ⟨j, hj⟩ : ∃ j, j = l.length := ⟨_, rfl⟩
    obtain ⟨q, hqq⟩ : ∃ q, q = (lo l key).length := ⟨_, rfl⟩
    obtain ⟨u, hu⟩ : ∃ u, u = (upto l key).length := ⟨_, rfl⟩
    rw [← hj, ← hqq] at hlo
    rw [← hj] at hlen HSi
    rw [← hqq] at HRk HCe HUP
    rw [← hu] at HUP HFl
    have HJ := Lib.hid hj
    have HQ := Lib.hid hqq
    clear hj hqq hu
    refine HSi.out.mono ?_; rintro e w4 ⟨rfl, hx4⟩
    have X4 := Lib.hid hx4
    clear hx4 k0 k1
    obtain ⟨k0, k1⟩ := S.out w4 X4.out
    go_wp2_with fail
    refine (HAt.out _ X4.out).mono ?_; rintro e w5 ⟨x1, x2, x3, rfl, hsx, hx⟩
    have HSx := Lib.hid hsx
    obtain ⟨w5b, hb⟩ : ∃ wb, wb = w5.alloc (.cells #[.int .i64 x1, .int .i64 x2] 60) := ⟨_, rfl⟩
    obtain ⟨Bb, hxb, hsb⟩ := box_made hb
    have HBXx := Lib.hid Bb
    have X5b := Lib.hid (X4.out.step (hx.step hxb))
    have Hbx := Lib.hid hb
    obtain ⟨k0', k1'⟩ := S.out w5b X5b.out
    rw [hb] at k0' k1'
    obtain ⟨bx, hbb⟩ : ∃ b, b = w5.heap.size := ⟨_, rfl⟩
    have Hbbx := Lib.hid hbb
    rw [← hbb] at HBXx
    clear hb hx hxb hsb Bb hbb k0 k1 hsx
    go_wp2_with fail
    rw [← Hbx.out, ← Hbbx.out]
    clear k0' k1'
    obtain ⟨k0, k1⟩ := S.out w5b X5b.out
    go_wp2_with fail
    refine (HRk.out _ X5b.out).mono ?_; rintro e w6 ⟨rfl, hx⟩
    have X6 := Lib.hid (X5b.out.step hx)
    have HBXx := Lib.hid (HBXx.out.to hx)
    clear hx k0 k1
    obtain ⟨k0, k1⟩ := S.out w6 X6.out
    go_wp2_with fail
    refine (HFl.out _ X6.out).mono ?_; rintro e w7 ⟨y1, y2, y3, rfl, hsy, hx⟩
    have HSy := Lib.hid hsy
    obtain ⟨w7b, hb⟩ : ∃ wb, wb = w7.alloc (.cells #[.int .i64 y1, .int .i64 y2] 60) := ⟨_, rfl⟩
    obtain ⟨Bb, hxb, hsb⟩ := box_made hb
    have HBXx := Lib.hid (HBXx.out.to (hx.step hxb))
    have HBXy := Lib.hid Bb
    have X7b := Lib.hid (X6.out.step (hx.step hxb))
    have Hby := Lib.hid hb
    obtain ⟨k0', k1'⟩ := S.out w7b X7b.out
    rw [hb] at k0' k1'
    obtain ⟨by_, hbb⟩ : ∃ b, b = w7.heap.size := ⟨_, rfl⟩
    have Hbby := Lib.hid hbb
    rw [← hbb] at HBXy
    clear hb hx hxb hsb Bb hbb k0 k1 hsy
    go_wp2_with fail
    rw [← Hby.out, ← Hbby.out]
    clear k0' k1'
    obtain ⟨k0, k1⟩ := S.out w7b X7b.out
    go_wp2_with fail
    refine (HCe.out _ X7b.out).mono ?_; rintro e w8 ⟨z1, z2, z3, rfl, hsz, hx⟩
    have HSz := Lib.hid hsz
    obtain ⟨w8b, hb⟩ : ∃ wb, wb = w8.alloc (.cells #[.int .i64 z1, .int .i64 z2] 60) := ⟨_, rfl⟩
    obtain ⟨Bb, hxb, hsb⟩ := box_made hb
    have HBXx := Lib.hid (HBXx.out.to (hx.step hxb))
    have HBXy := Lib.hid (HBXy.out.to (hx.step hxb))
    have HBXz := Lib.hid Bb
    have X8b := Lib.hid (X7b.out.step (hx.step hxb))
    have Hbz := Lib.hid hb
    obtain ⟨k0', k1'⟩ := S.out w8b X8b.out
    rw [hb] at k0' k1'
    obtain ⟨bz, hbb⟩ : ∃ b, b = w8.heap.size := ⟨_, rfl⟩
    have Hbbz := Lib.hid hbb
    rw [← hbb] at HBXz
    have hs8 := hsb
    clear k0' k1' hb hx hxb hsb Bb hbb k0 k1 hsz
    obtain ⟨w9, hb⟩ : ∃ wb, wb = w8b.alloc (.cells #[.int .i64 0, .int .i64 0] 60) := ⟨_, rfl⟩
    obtain ⟨Bb, hxb, hsb⟩ := box_made hb
    have HBXx := Lib.hid (HBXx.out.to hxb)
    have HBXy := Lib.hid (HBXy.out.to hxb)
    have HBXz := Lib.hid (HBXz.out.to hxb)
    have HBXn := Lib.hid Bb
    have X9 := Lib.hid (X8b.out.step hxb)
    have H9 := Lib.hid hb
    obtain ⟨bn, hbb⟩ : ∃ b, b = w8.heap.size + 1 := ⟨_, rfl⟩
    have Hbn := Lib.hid hbb
    rw [hs8, ← hbb] at HBXn
    obtain ⟨k0', k1'⟩ := S.out w9 X9.out
    rw [hb, Hbz.out] at k0' k1'
    clear hb hxb hsb Bb hbb hs8
    go_wp2_with fail
    rw [← Hbz.out, ← H9.out, ← Hbn.out, ← Hbbz.out]
    clear k0' k1'
    obtain ⟨k0, k1⟩ := S.out w9 X9.out
    go_wp2_with fail
    refine (HR2.out _ X9.out).mono ?_; rintro e w10 ⟨rfl, hx⟩
    have X10 := Lib.hid (X9.out.step hx)
    have HBXx := Lib.hid (HBXx.out.to hx)
    have HBXy := Lib.hid (HBXy.out.to hx)
    have HBXz := Lib.hid (HBXz.out.to hx)
    have HBXn := Lib.hid (HBXn.out.to hx)
    clear hx k0 k1
    obtain ⟨k0, k1⟩ := S.out w10 X10.out
    go_wp2_with fail
    rw [show ((201 : Nat) : Int) = 201 from rfl] at HRow
    refine (HRow.out _ X10.out).mono ?_; rintro e w11 ⟨L, cL, rfl, hrl, hcl, hclm, hx⟩
    rw [← HJ.out] at hrl hcl ⊢
    have HBe := Lib.hid (rfBelow_is L j cL l key w11 hrl (by omega))
    have HRL := Lib.hid hrl
    have X11 := Lib.hid (X10.out.step hx)
    have HBXx := Lib.hid (HBXx.out.to hx)
    have HBXy := Lib.hid (HBXy.out.to hx)
    have HBXz := Lib.hid (HBXz.out.to hx)
    have HBXn := Lib.hid (HBXn.out.to hx)
    clear hrl hcl hclm hx k0 k1
    go_wp2_with fail
    refine HBe.out.mono ?_; rintro e w12 ⟨L2, c2, rfl, hrl2, hcl2, hclm2, hx⟩
    rw [← HQ.out]
    have X12 := Lib.hid (X11.out.step hx)
    have HBXx := Lib.hid (HBXx.out.to hx)
    have HBXy := Lib.hid (HBXy.out.to hx)
    have HBXz := Lib.hid (HBXz.out.to hx)
    have HBXn := Lib.hid (HBXn.out.to hx)
    clear hrl2 hcl2 hclm2
    have HRL12 := Lib.hid (HRL.out.to hx)
    clear hx
    go_wp2_with fail
    refine (HAl.out _).mono ?_; rintro e w13 ⟨rfl, hx⟩
    have X13 := Lib.hid (X12.out.step hx)
    have HBXx := Lib.hid (HBXx.out.to hx)
    have HBXy := Lib.hid (HBXy.out.to hx)
    have HBXz := Lib.hid (HBXz.out.to hx)
    have HBXn := Lib.hid (HBXn.out.to hx)
    have HL := Lib.hid (HRL12.out.to hx)
    clear hx
    have heq : ∀ (a b : Int) (W : World), (Op.equalIn 10000 60 (.agg #[.int .i64 a, .int .i64 b]) (.agg #[.int .i64 a, .int .i64 b])).run Try.prog W = .ok true W := it_same
    have FBx := Lib.hid (fun W (hW : Ext w13 W) => show (W.cell? ⟨bx, 0, none⟩ = some (.int .i64 x1) ∧ W.cell? ⟨bx, 1, none⟩ = some (.int .i64 x2)) ∧ (W.cell? ⟨by_, 0, none⟩ = some (.int .i64 y1) ∧ W.cell? ⟨by_, 1, none⟩ = some (.int .i64 y2)) ∧ (W.cell? ⟨bz, 0, none⟩ = some (.int .i64 z1) ∧ W.cell? ⟨bz, 1, none⟩ = some (.int .i64 z2)) ∧ (W.cell? ⟨bn, 0, none⟩ = some (.int .i64 0) ∧ W.cell? ⟨bn, 1, none⟩ = some (.int .i64 0)) from ⟨⟨(HBXx.out.to hW).cell 0, (HBXx.out.to hW).cell 1⟩, ⟨(HBXy.out.to hW).cell 0, (HBXy.out.to hW).cell 1⟩, ⟨(HBXz.out.to hW).cell 0, (HBXz.out.to hW).cell 1⟩, ⟨(HBXn.out.to hW).cell 0, (HBXn.out.to hW).cell 1⟩⟩)
    clear HBXx HBXy HBXz HBXn HAl HR2 HRow HAt HFl HCe HRk HSi HA3 S HB3 HBe HA HF
    have HAD := Lib.hid (fun (i : Nat) (a : Int × Int) (h : l[i]? = some a) => RdI.item (show RdI w13 L j l from HL.out) h)
    have HJL := Lib.hid (fun (i : Nat) (a : Int × Int) (h : l[i]? = some a) => show i < j by rw [HJ.out]; exact (List.getElem?_eq_some_iff.1 h).1)
    have hsx := HSx.out
    unfold atR at hsx
    by_cases hp : place < 0
    · rw [if_pos hp] at hsx
      obtain ⟨e1, e2, e3⟩ : x1 = 0 ∧ x2 = 0 ∧ x3 = 3 := by
        rcases hsx with ⟨_, h⟩ | ⟨h, _⟩
        · exact h
        · cases h
      subst e1 e2 e3
      clear hsx
      have hsy := HSy.out
      have hsz := HSz.out
      rcases HUP.out with ⟨v, hv, hu⟩ | ⟨hno, hu⟩
      · have hxq := hv
        rw [hu, if_neg (by omega), Nat.add_sub_cancel, hv] at hsy
        rw [hv] at hsz
        obtain ⟨e1, e2⟩ : z1 = key ∧ z2 = v := by
          rcases hsz with ⟨h, _⟩ | ⟨h, _⟩
          · cases h
          · injection h with h; injection h with h1 h2; exact ⟨h1.symm, h2.symm⟩
        obtain ⟨e3, e4⟩ : y1 = key ∧ y2 = v := by
          rcases hsy with ⟨h, _⟩ | ⟨h, _⟩
          · cases h
          · injection h with h; injection h with h1 h2; exact ⟨h1.symm, h2.symm⟩
        obtain rfl : z3 = 0 := by
          rcases hsz with ⟨h, _⟩ | ⟨_, h⟩
          · cases h
          · exact h
        obtain rfl : y3 = 0 := by
          rcases hsy with ⟨h, _⟩ | ⟨_, h⟩
          · cases h
          · exact h
        subst e1 e2 e3 e4
        obtain ⟨q1, hq1⟩ : ∃ q1, q1 = q + 1 := ⟨_, rfl⟩
        have hqb : q < j := HJL.out _ _ hxq
        have w1' : IntKind.i64.wrap ((q : Int) + 1) = (q1 : Int) := by rw [IntKind.wrap_i64]; omega
        have w2' : IntKind.i64.wrap ((q1 : Int) - 1) = (q : Int) := by rw [IntKind.wrap_i64]; omega
        have hq0 : ((q1 : Int) == 0) = false := by simp; omega
        clear hsy hsz hu hv hq1
        have hqj : q < j := HJL.out _ _ hxq
        have hjq : ¬ j ≤ q := by omega
        obtain ⟨adL, hadL, itq⟩ := HAD.out _ _ hxq
        subst hadL
        have Iq := Lib.hid (fun W (hW : Ext w13 W) => itq.to hW)
        clear itq hxq
        obtain ⟨⟨m0, m1⟩, ⟨m2, m3⟩, ⟨m4, m5⟩, m6, m7⟩ := FBx.out w13 (Ext.refl _)
        obtain ⟨g0, f0⟩ := Iq.out _ (Ext.refl _)
        simp only at g0 f0
        go_wp2_with fail
        clear m0 m1 m2 m3 m4 m5 m6 m7 g0 f0
        have r0 := fun p : Later w13 => (FBx.out p.w p.ext).1.1
        have r1 := fun p : Later w13 => (FBx.out p.w p.ext).1.2
        have r4 := fun p : Later w13 => (FBx.out p.w p.ext).2.2.1.1
        have r5 := fun p : Later w13 => (FBx.out p.w p.ext).2.2.1.2
        have r2 := fun p : Later w13 => (FBx.out p.w p.ext).2.1.1
        have r3 := fun p : Later w13 => (FBx.out p.w p.ext).2.1.2
        have t0 := fun p : Later w13 => (Iq.out p.w p.ext).1
        have u0 := fun p : Later w13 => (Iq.out p.w p.ext).2
        simp only at t0 u0
        refine wp_region_later w13 (Ext.refl _) (by kernel_rfl) (by kernel_rfl) ?_
        repeat (go_big_quiet_step (fail))
        refine wpQuiet_nil ?_
        rintro _ ⟨p1, rfl⟩
        clear r0 r1 r2 r3 r4 r5 t0 u0
        obtain ⟨⟨m0, m1⟩, ⟨m2, m3⟩, ⟨m4, m5⟩, m6, m7⟩ := FBx.out p1.w p1.ext
        obtain ⟨g0, f0⟩ := Iq.out _ p1.ext
        simp only at g0 f0
        go_wp2_with fail
        clear m0 m1 m2 m3 m4 m5 m6 m7 g0 f0
        have r0 := fun p : Later w13 => (FBx.out p.w p.ext).1.1
        have r1 := fun p : Later w13 => (FBx.out p.w p.ext).1.2
        have r4 := fun p : Later w13 => (FBx.out p.w p.ext).2.2.1.1
        have r5 := fun p : Later w13 => (FBx.out p.w p.ext).2.2.1.2
        have r2 := fun p : Later w13 => (FBx.out p.w p.ext).2.1.1
        have r3 := fun p : Later w13 => (FBx.out p.w p.ext).2.1.2
        have t0 := fun p : Later w13 => (Iq.out p.w p.ext).1
        have u0 := fun p : Later w13 => (Iq.out p.w p.ext).2
        simp only at t0 u0
        refine wp_region_later w13 p1.ext (by kernel_rfl) (by kernel_rfl) ?_
        repeat (go_big_quiet_step (fail))
        refine wpQuiet_nil ?_
        rintro _ ⟨p2, rfl⟩
        clear r0 r1 r2 r3 r4 r5 t0 u0
        obtain ⟨⟨m0, m1⟩, ⟨m2, m3⟩, ⟨m4, m5⟩, m6, m7⟩ := FBx.out p2.w p2.ext
        obtain ⟨g0, f0⟩ := Iq.out _ p2.ext
        simp only at g0 f0
        go_wp2_with fail
        go_ret
        exact ⟨rfl, X3.out.step (X13.out.step p2.ext)⟩
      · by_cases hqj : q < j
        · obtain ⟨xq, hxq⟩ : ∃ x, l[q]? = some x := ⟨_, List.getElem?_eq_getElem (by rw [← HJ.out]; exact hqj)⟩
          obtain ⟨a1, a2⟩ := xq
          rw [hxq] at hsz
          obtain ⟨rfl, rfl⟩ : z1 = a1 ∧ z2 = a2 := by
            rcases hsz with ⟨h, _⟩ | ⟨h, _⟩
            · cases h
            · injection h with h; injection h with h1 h2; exact ⟨h1.symm, h2.symm⟩
          obtain rfl : z3 = 0 := by
            rcases hsz with ⟨h, _⟩ | ⟨_, h⟩
            · cases h
            · exact h
          have hzk : (z1 == key) = false := by
            simp only [beq_eq_false_iff_ne, ne_eq]
            exact fun e => hno z2 (by rw [← e]; exact hxq)
          by_cases h0 : q = 0
          · rw [hu, if_pos h0] at hsy
            obtain ⟨e1, e2, e3⟩ : y1 = 0 ∧ y2 = 0 ∧ y3 = 3 := by
              rcases hsy with ⟨_, h⟩ | ⟨h, _⟩
              · exact h
              · cases h
            subst e1 e2 e3
            have hq0 : ((q : Int) == 0) = true := by simp; omega
            clear hsy hsz hu hno h0
            have hqj : q < j := HJL.out _ _ hxq
            have hjq : ¬ j ≤ q := by omega
            obtain ⟨adL, hadL, itq⟩ := HAD.out _ _ hxq
            subst hadL
            have Iq := Lib.hid (fun W (hW : Ext w13 W) => itq.to hW)
            clear itq hxq
            obtain ⟨⟨m0, m1⟩, ⟨m2, m3⟩, ⟨m4, m5⟩, m6, m7⟩ := FBx.out w13 (Ext.refl _)
            obtain ⟨g0, f0⟩ := Iq.out _ (Ext.refl _)
            simp only at g0 f0
            go_wp2_with fail
            clear m0 m1 m2 m3 m4 m5 m6 m7 g0 f0
            have r0 := fun p : Later w13 => (FBx.out p.w p.ext).1.1
            have r1 := fun p : Later w13 => (FBx.out p.w p.ext).1.2
            have r4 := fun p : Later w13 => (FBx.out p.w p.ext).2.2.1.1
            have r5 := fun p : Later w13 => (FBx.out p.w p.ext).2.2.1.2
            have r2 := fun p : Later w13 => (FBx.out p.w p.ext).2.1.1
            have r3 := fun p : Later w13 => (FBx.out p.w p.ext).2.1.2
            have t0 := fun p : Later w13 => (Iq.out p.w p.ext).1
            have u0 := fun p : Later w13 => (Iq.out p.w p.ext).2
            simp only at t0 u0
            refine wp_region_later w13 (Ext.refl _) (by kernel_rfl) (by kernel_rfl) ?_
            repeat (go_big_quiet_step (fail))
            refine wpQuiet_nil ?_
            rintro _ ⟨p1, rfl⟩
            clear r0 r1 r2 r3 r4 r5 t0 u0
            obtain ⟨⟨m0, m1⟩, ⟨m2, m3⟩, ⟨m4, m5⟩, m6, m7⟩ := FBx.out p1.w p1.ext
            obtain ⟨g0, f0⟩ := Iq.out _ p1.ext
            simp only at g0 f0
            go_wp2_with fail
            go_ret
            exact ⟨rfl, X3.out.step (X13.out.step p1.ext)⟩
          · obtain ⟨qm, hqm⟩ : ∃ qm, q = qm + 1 := ⟨q - 1, by omega⟩
            rw [hu, if_neg h0, show q - 1 = qm by omega] at hsy
            obtain ⟨xm, hxm⟩ : ∃ x, l[qm]? = some x := ⟨_, List.getElem?_eq_getElem (by rw [← HJ.out]; omega)⟩
            obtain ⟨a3, a4⟩ := xm
            rw [hxm] at hsy
            obtain ⟨rfl, rfl⟩ : y1 = a3 ∧ y2 = a4 := by
              rcases hsy with ⟨h, _⟩ | ⟨h, _⟩
              · cases h
              · injection h with h; injection h with h1 h2; exact ⟨h1.symm, h2.symm⟩
            obtain rfl : y3 = 0 := by
              rcases hsy with ⟨h, _⟩ | ⟨_, h⟩
              · cases h
              · exact h
            have w2' : IntKind.i64.wrap ((q : Int) - 1) = (qm : Int) := by rw [IntKind.wrap_i64]; omega
            have hq0 : ((q : Int) == 0) = false := by simp; omega
            clear hqm hsy hsz hu hno h0
            have hqj : q < j := HJL.out _ _ hxq
            have hjq : ¬ j ≤ q := by omega
            obtain ⟨adL, hadL, itq⟩ := HAD.out _ _ hxq
            subst hadL
            have Iq := Lib.hid (fun W (hW : Ext w13 W) => itq.to hW)
            have hqmj : qm < j := HJL.out _ _ hxm
            have hjqm : ¬ j ≤ qm := by omega
            obtain ⟨ad', hadL, itqm⟩ := HAD.out _ _ hxm
            obtain rfl : adL = ad' := by injection hadL
            have Iqm := Lib.hid (fun W (hW : Ext w13 W) => itqm.to hW)
            clear itq hxq itqm hxm
            obtain ⟨⟨m0, m1⟩, ⟨m2, m3⟩, ⟨m4, m5⟩, m6, m7⟩ := FBx.out w13 (Ext.refl _)
            obtain ⟨g0, f0⟩ := Iq.out _ (Ext.refl _)
            simp only at g0 f0
            obtain ⟨g1, f1⟩ := Iqm.out _ (Ext.refl _)
            simp only at g1 f1
            go_wp2_with fail
            clear m0 m1 m2 m3 m4 m5 m6 m7 g0 f0 g1 f1
            have r0 := fun p : Later w13 => (FBx.out p.w p.ext).1.1
            have r1 := fun p : Later w13 => (FBx.out p.w p.ext).1.2
            have r4 := fun p : Later w13 => (FBx.out p.w p.ext).2.2.1.1
            have r5 := fun p : Later w13 => (FBx.out p.w p.ext).2.2.1.2
            have r2 := fun p : Later w13 => (FBx.out p.w p.ext).2.1.1
            have r3 := fun p : Later w13 => (FBx.out p.w p.ext).2.1.2
            have t0 := fun p : Later w13 => (Iq.out p.w p.ext).1
            have u0 := fun p : Later w13 => (Iq.out p.w p.ext).2
            simp only at t0 u0
            have t1 := fun p : Later w13 => (Iqm.out p.w p.ext).1
            have u1 := fun p : Later w13 => (Iqm.out p.w p.ext).2
            simp only at t1 u1
            refine wp_region_later w13 (Ext.refl _) (by kernel_rfl) (by kernel_rfl) ?_
            repeat (go_big_quiet_step (fail))
            refine wpQuiet_nil ?_
            rintro _ ⟨p1, rfl⟩
            clear r0 r1 r2 r3 r4 r5 t0 u0 t1 u1
            obtain ⟨⟨m0, m1⟩, ⟨m2, m3⟩, ⟨m4, m5⟩, m6, m7⟩ := FBx.out p1.w p1.ext
            obtain ⟨g0, f0⟩ := Iq.out _ p1.ext
            simp only at g0 f0
            obtain ⟨g1, f1⟩ := Iqm.out _ p1.ext
            simp only at g1 f1
            go_wp2_with fail
            clear m0 m1 m2 m3 m4 m5 m6 m7 g0 f0 g1 f1
            have r0 := fun p : Later w13 => (FBx.out p.w p.ext).1.1
            have r1 := fun p : Later w13 => (FBx.out p.w p.ext).1.2
            have r4 := fun p : Later w13 => (FBx.out p.w p.ext).2.2.1.1
            have r5 := fun p : Later w13 => (FBx.out p.w p.ext).2.2.1.2
            have r2 := fun p : Later w13 => (FBx.out p.w p.ext).2.1.1
            have r3 := fun p : Later w13 => (FBx.out p.w p.ext).2.1.2
            have t0 := fun p : Later w13 => (Iq.out p.w p.ext).1
            have u0 := fun p : Later w13 => (Iq.out p.w p.ext).2
            simp only at t0 u0
            have t1 := fun p : Later w13 => (Iqm.out p.w p.ext).1
            have u1 := fun p : Later w13 => (Iqm.out p.w p.ext).2
            simp only at t1 u1
            refine wp_region_later w13 p1.ext (by kernel_rfl) (by kernel_rfl) ?_
            repeat (go_big_quiet_step (fail))
            refine wpQuiet_nil ?_
            rintro _ ⟨p2, rfl⟩
            clear r0 r1 r2 r3 r4 r5 t0 u0 t1 u1
            obtain ⟨⟨m0, m1⟩, ⟨m2, m3⟩, ⟨m4, m5⟩, m6, m7⟩ := FBx.out p2.w p2.ext
            obtain ⟨g0, f0⟩ := Iq.out _ p2.ext
            simp only at g0 f0
            obtain ⟨g1, f1⟩ := Iqm.out _ p2.ext
            simp only at g1 f1
            go_wp2_with fail
            go_ret
            exact ⟨rfl, X3.out.step (X13.out.step p2.ext)⟩
        · obtain rfl : j = q := by omega
          have hnone : l[j]? = none := by rw [HJ.out]; simp
          rw [hnone] at hsz
          obtain ⟨e1, e2, e3⟩ : z1 = 0 ∧ z2 = 0 ∧ z3 = 3 := by
            rcases hsz with ⟨_, h⟩ | ⟨h, _⟩
            · exact h
            · cases h
          subst e1 e2 e3
          clear hnone hqj
          by_cases h0 : j = 0
          · rw [hu, if_pos h0] at hsy
            obtain ⟨e1, e2, e3⟩ : y1 = 0 ∧ y2 = 0 ∧ y3 = 3 := by
              rcases hsy with ⟨_, h⟩ | ⟨h, _⟩
              · exact h
              · cases h
            subst e1 e2 e3
            have hq0 : ((j : Int) == 0) = true := by simp; omega
            clear hsy hsz hu hno h0
            obtain ⟨⟨m0, m1⟩, ⟨m2, m3⟩, ⟨m4, m5⟩, m6, m7⟩ := FBx.out w13 (Ext.refl _)
            go_wp2_with fail
            go_ret
            exact ⟨rfl, X3.out.step (X13.out.step (Ext.refl _))⟩
          · obtain ⟨qm, hqm⟩ : ∃ qm, j = qm + 1 := ⟨j - 1, by omega⟩
            rw [hu, if_neg h0, show j - 1 = qm by omega] at hsy
            obtain ⟨xm, hxm⟩ : ∃ x, l[qm]? = some x := ⟨_, List.getElem?_eq_getElem (by rw [← HJ.out]; omega)⟩
            obtain ⟨a3, a4⟩ := xm
            rw [hxm] at hsy
            obtain ⟨rfl, rfl⟩ : y1 = a3 ∧ y2 = a4 := by
              rcases hsy with ⟨h, _⟩ | ⟨h, _⟩
              · cases h
              · injection h with h; injection h with h1 h2; exact ⟨h1.symm, h2.symm⟩
            obtain rfl : y3 = 0 := by
              rcases hsy with ⟨h, _⟩ | ⟨_, h⟩
              · cases h
              · exact h
            have w2' : IntKind.i64.wrap ((j : Int) - 1) = (qm : Int) := by rw [IntKind.wrap_i64]; omega
            have hq0 : ((j : Int) == 0) = false := by simp; omega
            clear hqm hsy hsz hu hno h0
            have hqmj : qm < j := HJL.out _ _ hxm
            have hjqm : ¬ j ≤ qm := by omega
            obtain ⟨adL, hadL, itqm⟩ := HAD.out _ _ hxm
            subst hadL
            have Iqm := Lib.hid (fun W (hW : Ext w13 W) => itqm.to hW)
            clear itqm hxm
            obtain ⟨⟨m0, m1⟩, ⟨m2, m3⟩, ⟨m4, m5⟩, m6, m7⟩ := FBx.out w13 (Ext.refl _)
            obtain ⟨g0, f0⟩ := Iqm.out _ (Ext.refl _)
            simp only at g0 f0
            go_wp2_with fail
            clear m0 m1 m2 m3 m4 m5 m6 m7 g0 f0
            have r0 := fun p : Later w13 => (FBx.out p.w p.ext).1.1
            have r1 := fun p : Later w13 => (FBx.out p.w p.ext).1.2
            have r4 := fun p : Later w13 => (FBx.out p.w p.ext).2.2.1.1
            have r5 := fun p : Later w13 => (FBx.out p.w p.ext).2.2.1.2
            have r2 := fun p : Later w13 => (FBx.out p.w p.ext).2.1.1
            have r3 := fun p : Later w13 => (FBx.out p.w p.ext).2.1.2
            have t0 := fun p : Later w13 => (Iqm.out p.w p.ext).1
            have u0 := fun p : Later w13 => (Iqm.out p.w p.ext).2
            simp only at t0 u0
            refine wp_region_later w13 (Ext.refl _) (by kernel_rfl) (by kernel_rfl) ?_
            repeat (go_big_quiet_step (fail))
            refine wpQuiet_nil ?_
            rintro _ ⟨p1, rfl⟩
            clear r0 r1 r2 r3 r4 r5 t0 u0
            obtain ⟨⟨m0, m1⟩, ⟨m2, m3⟩, ⟨m4, m5⟩, m6, m7⟩ := FBx.out p1.w p1.ext
            obtain ⟨g0, f0⟩ := Iqm.out _ p1.ext
            simp only at g0 f0
            go_wp2_with fail
            go_ret
            exact ⟨rfl, X3.out.step (X13.out.step p1.ext)⟩
    · rw [if_neg hp] at hsx
      by_cases hpj : (j : Int) ≤ place
      · have hnone : l[place.toNat]? = none := List.getElem?_eq_none (by rw [← HJ.out]; omega)
        rw [hnone] at hsx
        obtain ⟨e1, e2, e3⟩ : x1 = 0 ∧ x2 = 0 ∧ x3 = 3 := by
          rcases hsx with ⟨_, h⟩ | ⟨h, _⟩
          · exact h
          · cases h
        subst e1 e2 e3
        clear hsx hnone
        have hsy := HSy.out
        have hsz := HSz.out
        rcases HUP.out with ⟨v, hv, hu⟩ | ⟨hno, hu⟩
        · have hxq := hv
          rw [hu, if_neg (by omega), Nat.add_sub_cancel, hv] at hsy
          rw [hv] at hsz
          obtain ⟨e1, e2⟩ : z1 = key ∧ z2 = v := by
            rcases hsz with ⟨h, _⟩ | ⟨h, _⟩
            · cases h
            · injection h with h; injection h with h1 h2; exact ⟨h1.symm, h2.symm⟩
          obtain ⟨e3, e4⟩ : y1 = key ∧ y2 = v := by
            rcases hsy with ⟨h, _⟩ | ⟨h, _⟩
            · cases h
            · injection h with h; injection h with h1 h2; exact ⟨h1.symm, h2.symm⟩
          obtain rfl : z3 = 0 := by
            rcases hsz with ⟨h, _⟩ | ⟨_, h⟩
            · cases h
            · exact h
          obtain rfl : y3 = 0 := by
            rcases hsy with ⟨h, _⟩ | ⟨_, h⟩
            · cases h
            · exact h
          subst e1 e2 e3 e4
          obtain ⟨q1, hq1⟩ : ∃ q1, q1 = q + 1 := ⟨_, rfl⟩
          have hqb : q < j := HJL.out _ _ hxq
          have w1' : IntKind.i64.wrap ((q : Int) + 1) = (q1 : Int) := by rw [IntKind.wrap_i64]; omega
          have w2' : IntKind.i64.wrap ((q1 : Int) - 1) = (q : Int) := by rw [IntKind.wrap_i64]; omega
          have hq0 : ((q1 : Int) == 0) = false := by simp; omega
          clear hsy hsz hu hv hq1
          have hqj : q < j := HJL.out _ _ hxq
          have hjq : ¬ j ≤ q := by omega
          obtain ⟨adL, hadL, itq⟩ := HAD.out _ _ hxq
          subst hadL
          have Iq := Lib.hid (fun W (hW : Ext w13 W) => itq.to hW)
          clear itq hxq
          obtain ⟨⟨m0, m1⟩, ⟨m2, m3⟩, ⟨m4, m5⟩, m6, m7⟩ := FBx.out w13 (Ext.refl _)
          obtain ⟨g0, f0⟩ := Iq.out _ (Ext.refl _)
          simp only at g0 f0
          go_wp2_with fail
          clear m0 m1 m2 m3 m4 m5 m6 m7 g0 f0
          have r0 := fun p : Later w13 => (FBx.out p.w p.ext).1.1
          have r1 := fun p : Later w13 => (FBx.out p.w p.ext).1.2
          have r4 := fun p : Later w13 => (FBx.out p.w p.ext).2.2.1.1
          have r5 := fun p : Later w13 => (FBx.out p.w p.ext).2.2.1.2
          have r2 := fun p : Later w13 => (FBx.out p.w p.ext).2.1.1
          have r3 := fun p : Later w13 => (FBx.out p.w p.ext).2.1.2
          have t0 := fun p : Later w13 => (Iq.out p.w p.ext).1
          have u0 := fun p : Later w13 => (Iq.out p.w p.ext).2
          simp only at t0 u0
          refine wp_region_later w13 (Ext.refl _) (by kernel_rfl) (by kernel_rfl) ?_
          repeat (go_big_quiet_step (fail))
          refine wpQuiet_nil ?_
          rintro _ ⟨p1, rfl⟩
          clear r0 r1 r2 r3 r4 r5 t0 u0
          obtain ⟨⟨m0, m1⟩, ⟨m2, m3⟩, ⟨m4, m5⟩, m6, m7⟩ := FBx.out p1.w p1.ext
          obtain ⟨g0, f0⟩ := Iq.out _ p1.ext
          simp only at g0 f0
          go_wp2_with fail
          clear m0 m1 m2 m3 m4 m5 m6 m7 g0 f0
          have r0 := fun p : Later w13 => (FBx.out p.w p.ext).1.1
          have r1 := fun p : Later w13 => (FBx.out p.w p.ext).1.2
          have r4 := fun p : Later w13 => (FBx.out p.w p.ext).2.2.1.1
          have r5 := fun p : Later w13 => (FBx.out p.w p.ext).2.2.1.2
          have r2 := fun p : Later w13 => (FBx.out p.w p.ext).2.1.1
          have r3 := fun p : Later w13 => (FBx.out p.w p.ext).2.1.2
          have t0 := fun p : Later w13 => (Iq.out p.w p.ext).1
          have u0 := fun p : Later w13 => (Iq.out p.w p.ext).2
          simp only at t0 u0
          refine wp_region_later w13 p1.ext (by kernel_rfl) (by kernel_rfl) ?_
          repeat (go_big_quiet_step (fail))
          refine wpQuiet_nil ?_
          rintro _ ⟨p2, rfl⟩
          clear r0 r1 r2 r3 r4 r5 t0 u0
          obtain ⟨⟨m0, m1⟩, ⟨m2, m3⟩, ⟨m4, m5⟩, m6, m7⟩ := FBx.out p2.w p2.ext
          obtain ⟨g0, f0⟩ := Iq.out _ p2.ext
          simp only at g0 f0
          go_wp2_with fail
          go_ret
          exact ⟨rfl, X3.out.step (X13.out.step p2.ext)⟩
        · by_cases hqj : q < j
          · obtain ⟨xq, hxq⟩ : ∃ x, l[q]? = some x := ⟨_, List.getElem?_eq_getElem (by rw [← HJ.out]; exact hqj)⟩
            obtain ⟨a1, a2⟩ := xq
            rw [hxq] at hsz
            obtain ⟨rfl, rfl⟩ : z1 = a1 ∧ z2 = a2 := by
              rcases hsz with ⟨h, _⟩ | ⟨h, _⟩
              · cases h
              · injection h with h; injection h with h1 h2; exact ⟨h1.symm, h2.symm⟩
            obtain rfl : z3 = 0 := by
              rcases hsz with ⟨h, _⟩ | ⟨_, h⟩
              · cases h
              · exact h
            have hzk : (z1 == key) = false := by
              simp only [beq_eq_false_iff_ne, ne_eq]
              exact fun e => hno z2 (by rw [← e]; exact hxq)
            by_cases h0 : q = 0
            · rw [hu, if_pos h0] at hsy
              obtain ⟨e1, e2, e3⟩ : y1 = 0 ∧ y2 = 0 ∧ y3 = 3 := by
                rcases hsy with ⟨_, h⟩ | ⟨h, _⟩
                · exact h
                · cases h
              subst e1 e2 e3
              have hq0 : ((q : Int) == 0) = true := by simp; omega
              clear hsy hsz hu hno h0
              have hqj : q < j := HJL.out _ _ hxq
              have hjq : ¬ j ≤ q := by omega
              obtain ⟨adL, hadL, itq⟩ := HAD.out _ _ hxq
              subst hadL
              have Iq := Lib.hid (fun W (hW : Ext w13 W) => itq.to hW)
              clear itq hxq
              obtain ⟨⟨m0, m1⟩, ⟨m2, m3⟩, ⟨m4, m5⟩, m6, m7⟩ := FBx.out w13 (Ext.refl _)
              obtain ⟨g0, f0⟩ := Iq.out _ (Ext.refl _)
              simp only at g0 f0
              go_wp2_with fail
              clear m0 m1 m2 m3 m4 m5 m6 m7 g0 f0
              have r0 := fun p : Later w13 => (FBx.out p.w p.ext).1.1
              have r1 := fun p : Later w13 => (FBx.out p.w p.ext).1.2
              have r4 := fun p : Later w13 => (FBx.out p.w p.ext).2.2.1.1
              have r5 := fun p : Later w13 => (FBx.out p.w p.ext).2.2.1.2
              have r2 := fun p : Later w13 => (FBx.out p.w p.ext).2.1.1
              have r3 := fun p : Later w13 => (FBx.out p.w p.ext).2.1.2
              have t0 := fun p : Later w13 => (Iq.out p.w p.ext).1
              have u0 := fun p : Later w13 => (Iq.out p.w p.ext).2
              simp only at t0 u0
              refine wp_region_later w13 (Ext.refl _) (by kernel_rfl) (by kernel_rfl) ?_
              repeat (go_big_quiet_step (fail))
              refine wpQuiet_nil ?_
              rintro _ ⟨p1, rfl⟩
              clear r0 r1 r2 r3 r4 r5 t0 u0
              obtain ⟨⟨m0, m1⟩, ⟨m2, m3⟩, ⟨m4, m5⟩, m6, m7⟩ := FBx.out p1.w p1.ext
              obtain ⟨g0, f0⟩ := Iq.out _ p1.ext
              simp only at g0 f0
              go_wp2_with fail
              go_ret
              exact ⟨rfl, X3.out.step (X13.out.step p1.ext)⟩
            · obtain ⟨qm, hqm⟩ : ∃ qm, q = qm + 1 := ⟨q - 1, by omega⟩
              rw [hu, if_neg h0, show q - 1 = qm by omega] at hsy
              obtain ⟨xm, hxm⟩ : ∃ x, l[qm]? = some x := ⟨_, List.getElem?_eq_getElem (by rw [← HJ.out]; omega)⟩
              obtain ⟨a3, a4⟩ := xm
              rw [hxm] at hsy
              obtain ⟨rfl, rfl⟩ : y1 = a3 ∧ y2 = a4 := by
                rcases hsy with ⟨h, _⟩ | ⟨h, _⟩
                · cases h
                · injection h with h; injection h with h1 h2; exact ⟨h1.symm, h2.symm⟩
              obtain rfl : y3 = 0 := by
                rcases hsy with ⟨h, _⟩ | ⟨_, h⟩
                · cases h
                · exact h
              have w2' : IntKind.i64.wrap ((q : Int) - 1) = (qm : Int) := by rw [IntKind.wrap_i64]; omega
              have hq0 : ((q : Int) == 0) = false := by simp; omega
              clear hqm hsy hsz hu hno h0
              have hqj : q < j := HJL.out _ _ hxq
              have hjq : ¬ j ≤ q := by omega
              obtain ⟨adL, hadL, itq⟩ := HAD.out _ _ hxq
              subst hadL
              have Iq := Lib.hid (fun W (hW : Ext w13 W) => itq.to hW)
              have hqmj : qm < j := HJL.out _ _ hxm
              have hjqm : ¬ j ≤ qm := by omega
              obtain ⟨ad', hadL, itqm⟩ := HAD.out _ _ hxm
              obtain rfl : adL = ad' := by injection hadL
              have Iqm := Lib.hid (fun W (hW : Ext w13 W) => itqm.to hW)
              clear itq hxq itqm hxm
              obtain ⟨⟨m0, m1⟩, ⟨m2, m3⟩, ⟨m4, m5⟩, m6, m7⟩ := FBx.out w13 (Ext.refl _)
              obtain ⟨g0, f0⟩ := Iq.out _ (Ext.refl _)
              simp only at g0 f0
              obtain ⟨g1, f1⟩ := Iqm.out _ (Ext.refl _)
              simp only at g1 f1
              go_wp2_with fail
              clear m0 m1 m2 m3 m4 m5 m6 m7 g0 f0 g1 f1
              have r0 := fun p : Later w13 => (FBx.out p.w p.ext).1.1
              have r1 := fun p : Later w13 => (FBx.out p.w p.ext).1.2
              have r4 := fun p : Later w13 => (FBx.out p.w p.ext).2.2.1.1
              have r5 := fun p : Later w13 => (FBx.out p.w p.ext).2.2.1.2
              have r2 := fun p : Later w13 => (FBx.out p.w p.ext).2.1.1
              have r3 := fun p : Later w13 => (FBx.out p.w p.ext).2.1.2
              have t0 := fun p : Later w13 => (Iq.out p.w p.ext).1
              have u0 := fun p : Later w13 => (Iq.out p.w p.ext).2
              simp only at t0 u0
              have t1 := fun p : Later w13 => (Iqm.out p.w p.ext).1
              have u1 := fun p : Later w13 => (Iqm.out p.w p.ext).2
              simp only at t1 u1
              refine wp_region_later w13 (Ext.refl _) (by kernel_rfl) (by kernel_rfl) ?_
              repeat (go_big_quiet_step (fail))
              refine wpQuiet_nil ?_
              rintro _ ⟨p1, rfl⟩
              clear r0 r1 r2 r3 r4 r5 t0 u0 t1 u1
              obtain ⟨⟨m0, m1⟩, ⟨m2, m3⟩, ⟨m4, m5⟩, m6, m7⟩ := FBx.out p1.w p1.ext
              obtain ⟨g0, f0⟩ := Iq.out _ p1.ext
              simp only at g0 f0
              obtain ⟨g1, f1⟩ := Iqm.out _ p1.ext
              simp only at g1 f1
              go_wp2_with fail
              clear m0 m1 m2 m3 m4 m5 m6 m7 g0 f0 g1 f1
              have r0 := fun p : Later w13 => (FBx.out p.w p.ext).1.1
              have r1 := fun p : Later w13 => (FBx.out p.w p.ext).1.2
              have r4 := fun p : Later w13 => (FBx.out p.w p.ext).2.2.1.1
              have r5 := fun p : Later w13 => (FBx.out p.w p.ext).2.2.1.2
              have r2 := fun p : Later w13 => (FBx.out p.w p.ext).2.1.1
              have r3 := fun p : Later w13 => (FBx.out p.w p.ext).2.1.2
              have t0 := fun p : Later w13 => (Iq.out p.w p.ext).1
              have u0 := fun p : Later w13 => (Iq.out p.w p.ext).2
              simp only at t0 u0
              have t1 := fun p : Later w13 => (Iqm.out p.w p.ext).1
              have u1 := fun p : Later w13 => (Iqm.out p.w p.ext).2
              simp only at t1 u1
              refine wp_region_later w13 p1.ext (by kernel_rfl) (by kernel_rfl) ?_
              repeat (go_big_quiet_step (fail))
              refine wpQuiet_nil ?_
              rintro _ ⟨p2, rfl⟩
              clear r0 r1 r2 r3 r4 r5 t0 u0 t1 u1
              obtain ⟨⟨m0, m1⟩, ⟨m2, m3⟩, ⟨m4, m5⟩, m6, m7⟩ := FBx.out p2.w p2.ext
              obtain ⟨g0, f0⟩ := Iq.out _ p2.ext
              simp only at g0 f0
              obtain ⟨g1, f1⟩ := Iqm.out _ p2.ext
              simp only at g1 f1
              go_wp2_with fail
              go_ret
              exact ⟨rfl, X3.out.step (X13.out.step p2.ext)⟩
          · obtain rfl : j = q := by omega
            have hnone : l[j]? = none := by rw [HJ.out]; simp
            rw [hnone] at hsz
            obtain ⟨e1, e2, e3⟩ : z1 = 0 ∧ z2 = 0 ∧ z3 = 3 := by
              rcases hsz with ⟨_, h⟩ | ⟨h, _⟩
              · exact h
              · cases h
            subst e1 e2 e3
            clear hnone hqj
            by_cases h0 : j = 0
            · rw [hu, if_pos h0] at hsy
              obtain ⟨e1, e2, e3⟩ : y1 = 0 ∧ y2 = 0 ∧ y3 = 3 := by
                rcases hsy with ⟨_, h⟩ | ⟨h, _⟩
                · exact h
                · cases h
              subst e1 e2 e3
              have hq0 : ((j : Int) == 0) = true := by simp; omega
              clear hsy hsz hu hno h0
              obtain ⟨⟨m0, m1⟩, ⟨m2, m3⟩, ⟨m4, m5⟩, m6, m7⟩ := FBx.out w13 (Ext.refl _)
              go_wp2_with fail
              go_ret
              exact ⟨rfl, X3.out.step (X13.out.step (Ext.refl _))⟩
            · obtain ⟨qm, hqm⟩ : ∃ qm, j = qm + 1 := ⟨j - 1, by omega⟩
              rw [hu, if_neg h0, show j - 1 = qm by omega] at hsy
              obtain ⟨xm, hxm⟩ : ∃ x, l[qm]? = some x := ⟨_, List.getElem?_eq_getElem (by rw [← HJ.out]; omega)⟩
              obtain ⟨a3, a4⟩ := xm
              rw [hxm] at hsy
              obtain ⟨rfl, rfl⟩ : y1 = a3 ∧ y2 = a4 := by
                rcases hsy with ⟨h, _⟩ | ⟨h, _⟩
                · cases h
                · injection h with h; injection h with h1 h2; exact ⟨h1.symm, h2.symm⟩
              obtain rfl : y3 = 0 := by
                rcases hsy with ⟨h, _⟩ | ⟨_, h⟩
                · cases h
                · exact h
              have w2' : IntKind.i64.wrap ((j : Int) - 1) = (qm : Int) := by rw [IntKind.wrap_i64]; omega
              have hq0 : ((j : Int) == 0) = false := by simp; omega
              clear hqm hsy hsz hu hno h0
              have hqmj : qm < j := HJL.out _ _ hxm
              have hjqm : ¬ j ≤ qm := by omega
              obtain ⟨adL, hadL, itqm⟩ := HAD.out _ _ hxm
              subst hadL
              have Iqm := Lib.hid (fun W (hW : Ext w13 W) => itqm.to hW)
              clear itqm hxm
              obtain ⟨⟨m0, m1⟩, ⟨m2, m3⟩, ⟨m4, m5⟩, m6, m7⟩ := FBx.out w13 (Ext.refl _)
              obtain ⟨g0, f0⟩ := Iqm.out _ (Ext.refl _)
              simp only at g0 f0
              go_wp2_with fail
              clear m0 m1 m2 m3 m4 m5 m6 m7 g0 f0
              have r0 := fun p : Later w13 => (FBx.out p.w p.ext).1.1
              have r1 := fun p : Later w13 => (FBx.out p.w p.ext).1.2
              have r4 := fun p : Later w13 => (FBx.out p.w p.ext).2.2.1.1
              have r5 := fun p : Later w13 => (FBx.out p.w p.ext).2.2.1.2
              have r2 := fun p : Later w13 => (FBx.out p.w p.ext).2.1.1
              have r3 := fun p : Later w13 => (FBx.out p.w p.ext).2.1.2
              have t0 := fun p : Later w13 => (Iqm.out p.w p.ext).1
              have u0 := fun p : Later w13 => (Iqm.out p.w p.ext).2
              simp only at t0 u0
              refine wp_region_later w13 (Ext.refl _) (by kernel_rfl) (by kernel_rfl) ?_
              repeat (go_big_quiet_step (fail))
              refine wpQuiet_nil ?_
              rintro _ ⟨p1, rfl⟩
              clear r0 r1 r2 r3 r4 r5 t0 u0
              obtain ⟨⟨m0, m1⟩, ⟨m2, m3⟩, ⟨m4, m5⟩, m6, m7⟩ := FBx.out p1.w p1.ext
              obtain ⟨g0, f0⟩ := Iqm.out _ p1.ext
              simp only at g0 f0
              go_wp2_with fail
              go_ret
              exact ⟨rfl, X3.out.step (X13.out.step p1.ext)⟩
      · obtain ⟨pn, rfl⟩ : ∃ pn : Nat, place = pn := ⟨place.toNat, by omega⟩
        obtain ⟨xp, hx⟩ : ∃ x, l[pn]? = some x := ⟨_, List.getElem?_eq_getElem (by rw [← HJ.out]; omega)⟩
        obtain ⟨a5, a6⟩ := xp
        rw [Int.toNat_natCast, hx] at hsx
        obtain ⟨rfl, rfl⟩ : x1 = a5 ∧ x2 = a6 := by
          rcases hsx with ⟨h, _⟩ | ⟨h, _⟩
          · cases h
          · injection h with h; injection h with h1 h2; exact ⟨h1.symm, h2.symm⟩
        obtain rfl : x3 = 0 := by
          rcases hsx with ⟨h, _⟩ | ⟨_, h⟩
          · cases h
          · exact h
        clear hsx hpj hp
        have hsy := HSy.out
        have hsz := HSz.out
        rcases HUP.out with ⟨v, hv, hu⟩ | ⟨hno, hu⟩
        · have hxq := hv
          rw [hu, if_neg (by omega), Nat.add_sub_cancel, hv] at hsy
          rw [hv] at hsz
          obtain ⟨e1, e2⟩ : z1 = key ∧ z2 = v := by
            rcases hsz with ⟨h, _⟩ | ⟨h, _⟩
            · cases h
            · injection h with h; injection h with h1 h2; exact ⟨h1.symm, h2.symm⟩
          obtain ⟨e3, e4⟩ : y1 = key ∧ y2 = v := by
            rcases hsy with ⟨h, _⟩ | ⟨h, _⟩
            · cases h
            · injection h with h; injection h with h1 h2; exact ⟨h1.symm, h2.symm⟩
          obtain rfl : z3 = 0 := by
            rcases hsz with ⟨h, _⟩ | ⟨_, h⟩
            · cases h
            · exact h
          obtain rfl : y3 = 0 := by
            rcases hsy with ⟨h, _⟩ | ⟨_, h⟩
            · cases h
            · exact h
          subst e1 e2 e3 e4
          obtain ⟨q1, hq1⟩ : ∃ q1, q1 = q + 1 := ⟨_, rfl⟩
          have hqb : q < j := HJL.out _ _ hxq
          have w1' : IntKind.i64.wrap ((q : Int) + 1) = (q1 : Int) := by rw [IntKind.wrap_i64]; omega
          have w2' : IntKind.i64.wrap ((q1 : Int) - 1) = (q : Int) := by rw [IntKind.wrap_i64]; omega
          have hq0 : ((q1 : Int) == 0) = false := by simp; omega
          clear hsy hsz hu hv hq1
          have hpnj : pn < j := HJL.out _ _ hx
          have hjpn : ¬ j ≤ pn := by omega
          have hpnj : pn < j := HJL.out _ _ hx
          have hjpn : ¬ j ≤ pn := by omega
          obtain ⟨adL, hadL, itpn⟩ := HAD.out _ _ hx
          subst hadL
          have Ipn := Lib.hid (fun W (hW : Ext w13 W) => itpn.to hW)
          have hqj : q < j := HJL.out _ _ hxq
          have hjq : ¬ j ≤ q := by omega
          obtain ⟨ad', hadL, itq⟩ := HAD.out _ _ hxq
          obtain rfl : adL = ad' := by injection hadL
          have Iq := Lib.hid (fun W (hW : Ext w13 W) => itq.to hW)
          clear itpn hx itq hxq
          obtain ⟨⟨m0, m1⟩, ⟨m2, m3⟩, ⟨m4, m5⟩, m6, m7⟩ := FBx.out w13 (Ext.refl _)
          obtain ⟨g0, f0⟩ := Ipn.out _ (Ext.refl _)
          simp only at g0 f0
          obtain ⟨g1, f1⟩ := Iq.out _ (Ext.refl _)
          simp only at g1 f1
          go_wp2_with fail
          clear m0 m1 m2 m3 m4 m5 m6 m7 g0 f0 g1 f1
          have r0 := fun p : Later w13 => (FBx.out p.w p.ext).1.1
          have r1 := fun p : Later w13 => (FBx.out p.w p.ext).1.2
          have r4 := fun p : Later w13 => (FBx.out p.w p.ext).2.2.1.1
          have r5 := fun p : Later w13 => (FBx.out p.w p.ext).2.2.1.2
          have r2 := fun p : Later w13 => (FBx.out p.w p.ext).2.1.1
          have r3 := fun p : Later w13 => (FBx.out p.w p.ext).2.1.2
          have t0 := fun p : Later w13 => (Ipn.out p.w p.ext).1
          have u0 := fun p : Later w13 => (Ipn.out p.w p.ext).2
          simp only at t0 u0
          have t1 := fun p : Later w13 => (Iq.out p.w p.ext).1
          have u1 := fun p : Later w13 => (Iq.out p.w p.ext).2
          simp only at t1 u1
          refine wp_region_later w13 (Ext.refl _) (by kernel_rfl) (by kernel_rfl) ?_
          repeat (go_big_quiet_step (fail))
          refine wpQuiet_nil ?_
          rintro _ ⟨p1, rfl⟩
          clear r0 r1 r2 r3 r4 r5 t0 u0 t1 u1
          obtain ⟨⟨m0, m1⟩, ⟨m2, m3⟩, ⟨m4, m5⟩, m6, m7⟩ := FBx.out p1.w p1.ext
          obtain ⟨g0, f0⟩ := Ipn.out _ p1.ext
          simp only at g0 f0
          obtain ⟨g1, f1⟩ := Iq.out _ p1.ext
          simp only at g1 f1
          go_wp2_with fail
          clear m0 m1 m2 m3 m4 m5 m6 m7 g0 f0 g1 f1
          have r0 := fun p : Later w13 => (FBx.out p.w p.ext).1.1
          have r1 := fun p : Later w13 => (FBx.out p.w p.ext).1.2
          have r4 := fun p : Later w13 => (FBx.out p.w p.ext).2.2.1.1
          have r5 := fun p : Later w13 => (FBx.out p.w p.ext).2.2.1.2
          have r2 := fun p : Later w13 => (FBx.out p.w p.ext).2.1.1
          have r3 := fun p : Later w13 => (FBx.out p.w p.ext).2.1.2
          have t0 := fun p : Later w13 => (Ipn.out p.w p.ext).1
          have u0 := fun p : Later w13 => (Ipn.out p.w p.ext).2
          simp only at t0 u0
          have t1 := fun p : Later w13 => (Iq.out p.w p.ext).1
          have u1 := fun p : Later w13 => (Iq.out p.w p.ext).2
          simp only at t1 u1
          refine wp_region_later w13 p1.ext (by kernel_rfl) (by kernel_rfl) ?_
          repeat (go_big_quiet_step (fail))
          refine wpQuiet_nil ?_
          rintro _ ⟨p2, rfl⟩
          clear r0 r1 r2 r3 r4 r5 t0 u0 t1 u1
          obtain ⟨⟨m0, m1⟩, ⟨m2, m3⟩, ⟨m4, m5⟩, m6, m7⟩ := FBx.out p2.w p2.ext
          obtain ⟨g0, f0⟩ := Ipn.out _ p2.ext
          simp only at g0 f0
          obtain ⟨g1, f1⟩ := Iq.out _ p2.ext
          simp only at g1 f1
          go_wp2_with fail
          clear m0 m1 m2 m3 m4 m5 m6 m7 g0 f0 g1 f1
          have r0 := fun p : Later w13 => (FBx.out p.w p.ext).1.1
          have r1 := fun p : Later w13 => (FBx.out p.w p.ext).1.2
          have r4 := fun p : Later w13 => (FBx.out p.w p.ext).2.2.1.1
          have r5 := fun p : Later w13 => (FBx.out p.w p.ext).2.2.1.2
          have r2 := fun p : Later w13 => (FBx.out p.w p.ext).2.1.1
          have r3 := fun p : Later w13 => (FBx.out p.w p.ext).2.1.2
          have t0 := fun p : Later w13 => (Ipn.out p.w p.ext).1
          have u0 := fun p : Later w13 => (Ipn.out p.w p.ext).2
          simp only at t0 u0
          have t1 := fun p : Later w13 => (Iq.out p.w p.ext).1
          have u1 := fun p : Later w13 => (Iq.out p.w p.ext).2
          simp only at t1 u1
          refine wp_region_later w13 p2.ext (by kernel_rfl) (by kernel_rfl) ?_
          repeat (go_big_quiet_step (fail))
          refine wpQuiet_nil ?_
          rintro _ ⟨p3, rfl⟩
          clear r0 r1 r2 r3 r4 r5 t0 u0 t1 u1
          obtain ⟨⟨m0, m1⟩, ⟨m2, m3⟩, ⟨m4, m5⟩, m6, m7⟩ := FBx.out p3.w p3.ext
          obtain ⟨g0, f0⟩ := Ipn.out _ p3.ext
          simp only at g0 f0
          obtain ⟨g1, f1⟩ := Iq.out _ p3.ext
          simp only at g1 f1
          go_wp2_with fail
          go_ret
          exact ⟨rfl, X3.out.step (X13.out.step p3.ext)⟩
        · by_cases hqj : q < j
          · obtain ⟨xq, hxq⟩ : ∃ x, l[q]? = some x := ⟨_, List.getElem?_eq_getElem (by rw [← HJ.out]; exact hqj)⟩
            obtain ⟨a1, a2⟩ := xq
            rw [hxq] at hsz
            obtain ⟨rfl, rfl⟩ : z1 = a1 ∧ z2 = a2 := by
              rcases hsz with ⟨h, _⟩ | ⟨h, _⟩
              · cases h
              · injection h with h; injection h with h1 h2; exact ⟨h1.symm, h2.symm⟩
            obtain rfl : z3 = 0 := by
              rcases hsz with ⟨h, _⟩ | ⟨_, h⟩
              · cases h
              · exact h
            have hzk : (z1 == key) = false := by
              simp only [beq_eq_false_iff_ne, ne_eq]
              exact fun e => hno z2 (by rw [← e]; exact hxq)
            by_cases h0 : q = 0
            · rw [hu, if_pos h0] at hsy
              obtain ⟨e1, e2, e3⟩ : y1 = 0 ∧ y2 = 0 ∧ y3 = 3 := by
                rcases hsy with ⟨_, h⟩ | ⟨h, _⟩
                · exact h
                · cases h
              subst e1 e2 e3
              have hq0 : ((q : Int) == 0) = true := by simp; omega
              clear hsy hsz hu hno h0
              have hpnj : pn < j := HJL.out _ _ hx
              have hjpn : ¬ j ≤ pn := by omega
              have hpnj : pn < j := HJL.out _ _ hx
              have hjpn : ¬ j ≤ pn := by omega
              obtain ⟨adL, hadL, itpn⟩ := HAD.out _ _ hx
              subst hadL
              have Ipn := Lib.hid (fun W (hW : Ext w13 W) => itpn.to hW)
              have hqj : q < j := HJL.out _ _ hxq
              have hjq : ¬ j ≤ q := by omega
              obtain ⟨ad', hadL, itq⟩ := HAD.out _ _ hxq
              obtain rfl : adL = ad' := by injection hadL
              have Iq := Lib.hid (fun W (hW : Ext w13 W) => itq.to hW)
              clear itpn hx itq hxq
              obtain ⟨⟨m0, m1⟩, ⟨m2, m3⟩, ⟨m4, m5⟩, m6, m7⟩ := FBx.out w13 (Ext.refl _)
              obtain ⟨g0, f0⟩ := Ipn.out _ (Ext.refl _)
              simp only at g0 f0
              obtain ⟨g1, f1⟩ := Iq.out _ (Ext.refl _)
              simp only at g1 f1
              go_wp2_with fail
              clear m0 m1 m2 m3 m4 m5 m6 m7 g0 f0 g1 f1
              have r0 := fun p : Later w13 => (FBx.out p.w p.ext).1.1
              have r1 := fun p : Later w13 => (FBx.out p.w p.ext).1.2
              have r4 := fun p : Later w13 => (FBx.out p.w p.ext).2.2.1.1
              have r5 := fun p : Later w13 => (FBx.out p.w p.ext).2.2.1.2
              have r2 := fun p : Later w13 => (FBx.out p.w p.ext).2.1.1
              have r3 := fun p : Later w13 => (FBx.out p.w p.ext).2.1.2
              have t0 := fun p : Later w13 => (Ipn.out p.w p.ext).1
              have u0 := fun p : Later w13 => (Ipn.out p.w p.ext).2
              simp only at t0 u0
              have t1 := fun p : Later w13 => (Iq.out p.w p.ext).1
              have u1 := fun p : Later w13 => (Iq.out p.w p.ext).2
              simp only at t1 u1
              refine wp_region_later w13 (Ext.refl _) (by kernel_rfl) (by kernel_rfl) ?_
              repeat (go_big_quiet_step (fail))
              refine wpQuiet_nil ?_
              rintro _ ⟨p1, rfl⟩
              clear r0 r1 r2 r3 r4 r5 t0 u0 t1 u1
              obtain ⟨⟨m0, m1⟩, ⟨m2, m3⟩, ⟨m4, m5⟩, m6, m7⟩ := FBx.out p1.w p1.ext
              obtain ⟨g0, f0⟩ := Ipn.out _ p1.ext
              simp only at g0 f0
              obtain ⟨g1, f1⟩ := Iq.out _ p1.ext
              simp only at g1 f1
              go_wp2_with fail
              clear m0 m1 m2 m3 m4 m5 m6 m7 g0 f0 g1 f1
              have r0 := fun p : Later w13 => (FBx.out p.w p.ext).1.1
              have r1 := fun p : Later w13 => (FBx.out p.w p.ext).1.2
              have r4 := fun p : Later w13 => (FBx.out p.w p.ext).2.2.1.1
              have r5 := fun p : Later w13 => (FBx.out p.w p.ext).2.2.1.2
              have r2 := fun p : Later w13 => (FBx.out p.w p.ext).2.1.1
              have r3 := fun p : Later w13 => (FBx.out p.w p.ext).2.1.2
              have t0 := fun p : Later w13 => (Ipn.out p.w p.ext).1
              have u0 := fun p : Later w13 => (Ipn.out p.w p.ext).2
              simp only at t0 u0
              have t1 := fun p : Later w13 => (Iq.out p.w p.ext).1
              have u1 := fun p : Later w13 => (Iq.out p.w p.ext).2
              simp only at t1 u1
              refine wp_region_later w13 p1.ext (by kernel_rfl) (by kernel_rfl) ?_
              repeat (go_big_quiet_step (fail))
              refine wpQuiet_nil ?_
              rintro _ ⟨p2, rfl⟩
              clear r0 r1 r2 r3 r4 r5 t0 u0 t1 u1
              obtain ⟨⟨m0, m1⟩, ⟨m2, m3⟩, ⟨m4, m5⟩, m6, m7⟩ := FBx.out p2.w p2.ext
              obtain ⟨g0, f0⟩ := Ipn.out _ p2.ext
              simp only at g0 f0
              obtain ⟨g1, f1⟩ := Iq.out _ p2.ext
              simp only at g1 f1
              go_wp2_with fail
              go_ret
              exact ⟨rfl, X3.out.step (X13.out.step p2.ext)⟩
            · obtain ⟨qm, hqm⟩ : ∃ qm, q = qm + 1 := ⟨q - 1, by omega⟩
              rw [hu, if_neg h0, show q - 1 = qm by omega] at hsy
              obtain ⟨xm, hxm⟩ : ∃ x, l[qm]? = some x := ⟨_, List.getElem?_eq_getElem (by rw [← HJ.out]; omega)⟩
              obtain ⟨a3, a4⟩ := xm
              rw [hxm] at hsy
              obtain ⟨rfl, rfl⟩ : y1 = a3 ∧ y2 = a4 := by
                rcases hsy with ⟨h, _⟩ | ⟨h, _⟩
                · cases h
                · injection h with h; injection h with h1 h2; exact ⟨h1.symm, h2.symm⟩
              obtain rfl : y3 = 0 := by
                rcases hsy with ⟨h, _⟩ | ⟨_, h⟩
                · cases h
                · exact h
              have w2' : IntKind.i64.wrap ((q : Int) - 1) = (qm : Int) := by rw [IntKind.wrap_i64]; omega
              have hq0 : ((q : Int) == 0) = false := by simp; omega
              clear hqm hsy hsz hu hno h0
              have hpnj : pn < j := HJL.out _ _ hx
              have hjpn : ¬ j ≤ pn := by omega
              have hpnj : pn < j := HJL.out _ _ hx
              have hjpn : ¬ j ≤ pn := by omega
              obtain ⟨adL, hadL, itpn⟩ := HAD.out _ _ hx
              subst hadL
              have Ipn := Lib.hid (fun W (hW : Ext w13 W) => itpn.to hW)
              have hqj : q < j := HJL.out _ _ hxq
              have hjq : ¬ j ≤ q := by omega
              obtain ⟨ad', hadL, itq⟩ := HAD.out _ _ hxq
              obtain rfl : adL = ad' := by injection hadL
              have Iq := Lib.hid (fun W (hW : Ext w13 W) => itq.to hW)
              have hqmj : qm < j := HJL.out _ _ hxm
              have hjqm : ¬ j ≤ qm := by omega
              obtain ⟨ad', hadL, itqm⟩ := HAD.out _ _ hxm
              obtain rfl : adL = ad' := by injection hadL
              have Iqm := Lib.hid (fun W (hW : Ext w13 W) => itqm.to hW)
              clear itpn hx itq hxq itqm hxm
              obtain ⟨⟨m0, m1⟩, ⟨m2, m3⟩, ⟨m4, m5⟩, m6, m7⟩ := FBx.out w13 (Ext.refl _)
              obtain ⟨g0, f0⟩ := Ipn.out _ (Ext.refl _)
              simp only at g0 f0
              obtain ⟨g1, f1⟩ := Iq.out _ (Ext.refl _)
              simp only at g1 f1
              obtain ⟨g2, f2⟩ := Iqm.out _ (Ext.refl _)
              simp only at g2 f2
              go_wp2_with fail
              clear m0 m1 m2 m3 m4 m5 m6 m7 g0 f0 g1 f1 g2 f2
              have r0 := fun p : Later w13 => (FBx.out p.w p.ext).1.1
              have r1 := fun p : Later w13 => (FBx.out p.w p.ext).1.2
              have r4 := fun p : Later w13 => (FBx.out p.w p.ext).2.2.1.1
              have r5 := fun p : Later w13 => (FBx.out p.w p.ext).2.2.1.2
              have r2 := fun p : Later w13 => (FBx.out p.w p.ext).2.1.1
              have r3 := fun p : Later w13 => (FBx.out p.w p.ext).2.1.2
              have t0 := fun p : Later w13 => (Ipn.out p.w p.ext).1
              have u0 := fun p : Later w13 => (Ipn.out p.w p.ext).2
              simp only at t0 u0
              have t1 := fun p : Later w13 => (Iq.out p.w p.ext).1
              have u1 := fun p : Later w13 => (Iq.out p.w p.ext).2
              simp only at t1 u1
              have t2 := fun p : Later w13 => (Iqm.out p.w p.ext).1
              have u2 := fun p : Later w13 => (Iqm.out p.w p.ext).2
              simp only at t2 u2
              refine wp_region_later w13 (Ext.refl _) (by kernel_rfl) (by kernel_rfl) ?_
              repeat (go_big_quiet_step (fail))
              refine wpQuiet_nil ?_
              rintro _ ⟨p1, rfl⟩
              clear r0 r1 r2 r3 r4 r5 t0 u0 t1 u1 t2 u2
              obtain ⟨⟨m0, m1⟩, ⟨m2, m3⟩, ⟨m4, m5⟩, m6, m7⟩ := FBx.out p1.w p1.ext
              obtain ⟨g0, f0⟩ := Ipn.out _ p1.ext
              simp only at g0 f0
              obtain ⟨g1, f1⟩ := Iq.out _ p1.ext
              simp only at g1 f1
              obtain ⟨g2, f2⟩ := Iqm.out _ p1.ext
              simp only at g2 f2
              go_wp2_with fail
              clear m0 m1 m2 m3 m4 m5 m6 m7 g0 f0 g1 f1 g2 f2
              have r0 := fun p : Later w13 => (FBx.out p.w p.ext).1.1
              have r1 := fun p : Later w13 => (FBx.out p.w p.ext).1.2
              have r4 := fun p : Later w13 => (FBx.out p.w p.ext).2.2.1.1
              have r5 := fun p : Later w13 => (FBx.out p.w p.ext).2.2.1.2
              have r2 := fun p : Later w13 => (FBx.out p.w p.ext).2.1.1
              have r3 := fun p : Later w13 => (FBx.out p.w p.ext).2.1.2
              have t0 := fun p : Later w13 => (Ipn.out p.w p.ext).1
              have u0 := fun p : Later w13 => (Ipn.out p.w p.ext).2
              simp only at t0 u0
              have t1 := fun p : Later w13 => (Iq.out p.w p.ext).1
              have u1 := fun p : Later w13 => (Iq.out p.w p.ext).2
              simp only at t1 u1
              have t2 := fun p : Later w13 => (Iqm.out p.w p.ext).1
              have u2 := fun p : Later w13 => (Iqm.out p.w p.ext).2
              simp only at t2 u2
              refine wp_region_later w13 p1.ext (by kernel_rfl) (by kernel_rfl) ?_
              repeat (go_big_quiet_step (fail))
              refine wpQuiet_nil ?_
              rintro _ ⟨p2, rfl⟩
              clear r0 r1 r2 r3 r4 r5 t0 u0 t1 u1 t2 u2
              obtain ⟨⟨m0, m1⟩, ⟨m2, m3⟩, ⟨m4, m5⟩, m6, m7⟩ := FBx.out p2.w p2.ext
              obtain ⟨g0, f0⟩ := Ipn.out _ p2.ext
              simp only at g0 f0
              obtain ⟨g1, f1⟩ := Iq.out _ p2.ext
              simp only at g1 f1
              obtain ⟨g2, f2⟩ := Iqm.out _ p2.ext
              simp only at g2 f2
              go_wp2_with fail
              clear m0 m1 m2 m3 m4 m5 m6 m7 g0 f0 g1 f1 g2 f2
              have r0 := fun p : Later w13 => (FBx.out p.w p.ext).1.1
              have r1 := fun p : Later w13 => (FBx.out p.w p.ext).1.2
              have r4 := fun p : Later w13 => (FBx.out p.w p.ext).2.2.1.1
              have r5 := fun p : Later w13 => (FBx.out p.w p.ext).2.2.1.2
              have r2 := fun p : Later w13 => (FBx.out p.w p.ext).2.1.1
              have r3 := fun p : Later w13 => (FBx.out p.w p.ext).2.1.2
              have t0 := fun p : Later w13 => (Ipn.out p.w p.ext).1
              have u0 := fun p : Later w13 => (Ipn.out p.w p.ext).2
              simp only at t0 u0
              have t1 := fun p : Later w13 => (Iq.out p.w p.ext).1
              have u1 := fun p : Later w13 => (Iq.out p.w p.ext).2
              simp only at t1 u1
              have t2 := fun p : Later w13 => (Iqm.out p.w p.ext).1
              have u2 := fun p : Later w13 => (Iqm.out p.w p.ext).2
              simp only at t2 u2
              refine wp_region_later w13 p2.ext (by kernel_rfl) (by kernel_rfl) ?_
              repeat (go_big_quiet_step (fail))
              refine wpQuiet_nil ?_
              rintro _ ⟨p3, rfl⟩
              clear r0 r1 r2 r3 r4 r5 t0 u0 t1 u1 t2 u2
              obtain ⟨⟨m0, m1⟩, ⟨m2, m3⟩, ⟨m4, m5⟩, m6, m7⟩ := FBx.out p3.w p3.ext
              obtain ⟨g0, f0⟩ := Ipn.out _ p3.ext
              simp only at g0 f0
              obtain ⟨g1, f1⟩ := Iq.out _ p3.ext
              simp only at g1 f1
              obtain ⟨g2, f2⟩ := Iqm.out _ p3.ext
              simp only at g2 f2
              go_wp2_with fail
              go_ret
              exact ⟨rfl, X3.out.step (X13.out.step p3.ext)⟩
          · obtain rfl : j = q := by omega
            have hnone : l[j]? = none := by rw [HJ.out]; simp
            rw [hnone] at hsz
            obtain ⟨e1, e2, e3⟩ : z1 = 0 ∧ z2 = 0 ∧ z3 = 3 := by
              rcases hsz with ⟨_, h⟩ | ⟨h, _⟩
              · exact h
              · cases h
            subst e1 e2 e3
            clear hnone hqj
            by_cases h0 : j = 0
            · rw [hu, if_pos h0] at hsy
              obtain ⟨e1, e2, e3⟩ : y1 = 0 ∧ y2 = 0 ∧ y3 = 3 := by
                rcases hsy with ⟨_, h⟩ | ⟨h, _⟩
                · exact h
                · cases h
              subst e1 e2 e3
              have hq0 : ((j : Int) == 0) = true := by simp; omega
              clear hsy hsz hu hno h0
              have hpnj : pn < j := HJL.out _ _ hx
              have hjpn : ¬ j ≤ pn := by omega
              have hpnj : pn < j := HJL.out _ _ hx
              have hjpn : ¬ j ≤ pn := by omega
              obtain ⟨adL, hadL, itpn⟩ := HAD.out _ _ hx
              subst hadL
              have Ipn := Lib.hid (fun W (hW : Ext w13 W) => itpn.to hW)
              clear itpn hx
              obtain ⟨⟨m0, m1⟩, ⟨m2, m3⟩, ⟨m4, m5⟩, m6, m7⟩ := FBx.out w13 (Ext.refl _)
              obtain ⟨g0, f0⟩ := Ipn.out _ (Ext.refl _)
              simp only at g0 f0
              go_wp2_with fail
              clear m0 m1 m2 m3 m4 m5 m6 m7 g0 f0
              have r0 := fun p : Later w13 => (FBx.out p.w p.ext).1.1
              have r1 := fun p : Later w13 => (FBx.out p.w p.ext).1.2
              have r4 := fun p : Later w13 => (FBx.out p.w p.ext).2.2.1.1
              have r5 := fun p : Later w13 => (FBx.out p.w p.ext).2.2.1.2
              have r2 := fun p : Later w13 => (FBx.out p.w p.ext).2.1.1
              have r3 := fun p : Later w13 => (FBx.out p.w p.ext).2.1.2
              have t0 := fun p : Later w13 => (Ipn.out p.w p.ext).1
              have u0 := fun p : Later w13 => (Ipn.out p.w p.ext).2
              simp only at t0 u0
              refine wp_region_later w13 (Ext.refl _) (by kernel_rfl) (by kernel_rfl) ?_
              repeat (go_big_quiet_step (fail))
              refine wpQuiet_nil ?_
              rintro _ ⟨p1, rfl⟩
              clear r0 r1 r2 r3 r4 r5 t0 u0
              obtain ⟨⟨m0, m1⟩, ⟨m2, m3⟩, ⟨m4, m5⟩, m6, m7⟩ := FBx.out p1.w p1.ext
              obtain ⟨g0, f0⟩ := Ipn.out _ p1.ext
              simp only at g0 f0
              go_wp2_with fail
              go_ret
              exact ⟨rfl, X3.out.step (X13.out.step p1.ext)⟩
            · obtain ⟨qm, hqm⟩ : ∃ qm, j = qm + 1 := ⟨j - 1, by omega⟩
              rw [hu, if_neg h0, show j - 1 = qm by omega] at hsy
              obtain ⟨xm, hxm⟩ : ∃ x, l[qm]? = some x := ⟨_, List.getElem?_eq_getElem (by rw [← HJ.out]; omega)⟩
              obtain ⟨a3, a4⟩ := xm
              rw [hxm] at hsy
              obtain ⟨rfl, rfl⟩ : y1 = a3 ∧ y2 = a4 := by
                rcases hsy with ⟨h, _⟩ | ⟨h, _⟩
                · cases h
                · injection h with h; injection h with h1 h2; exact ⟨h1.symm, h2.symm⟩
              obtain rfl : y3 = 0 := by
                rcases hsy with ⟨h, _⟩ | ⟨_, h⟩
                · cases h
                · exact h
              have w2' : IntKind.i64.wrap ((j : Int) - 1) = (qm : Int) := by rw [IntKind.wrap_i64]; omega
              have hq0 : ((j : Int) == 0) = false := by simp; omega
              clear hqm hsy hsz hu hno h0
              have hpnj : pn < j := HJL.out _ _ hx
              have hjpn : ¬ j ≤ pn := by omega
              have hpnj : pn < j := HJL.out _ _ hx
              have hjpn : ¬ j ≤ pn := by omega
              obtain ⟨adL, hadL, itpn⟩ := HAD.out _ _ hx
              subst hadL
              have Ipn := Lib.hid (fun W (hW : Ext w13 W) => itpn.to hW)
              have hqmj : qm < j := HJL.out _ _ hxm
              have hjqm : ¬ j ≤ qm := by omega
              obtain ⟨ad', hadL, itqm⟩ := HAD.out _ _ hxm
              obtain rfl : adL = ad' := by injection hadL
              have Iqm := Lib.hid (fun W (hW : Ext w13 W) => itqm.to hW)
              clear itpn hx itqm hxm
              obtain ⟨⟨m0, m1⟩, ⟨m2, m3⟩, ⟨m4, m5⟩, m6, m7⟩ := FBx.out w13 (Ext.refl _)
              obtain ⟨g0, f0⟩ := Ipn.out _ (Ext.refl _)
              simp only at g0 f0
              obtain ⟨g1, f1⟩ := Iqm.out _ (Ext.refl _)
              simp only at g1 f1
              go_wp2_with fail
              clear m0 m1 m2 m3 m4 m5 m6 m7 g0 f0 g1 f1
              have r0 := fun p : Later w13 => (FBx.out p.w p.ext).1.1
              have r1 := fun p : Later w13 => (FBx.out p.w p.ext).1.2
              have r4 := fun p : Later w13 => (FBx.out p.w p.ext).2.2.1.1
              have r5 := fun p : Later w13 => (FBx.out p.w p.ext).2.2.1.2
              have r2 := fun p : Later w13 => (FBx.out p.w p.ext).2.1.1
              have r3 := fun p : Later w13 => (FBx.out p.w p.ext).2.1.2
              have t0 := fun p : Later w13 => (Ipn.out p.w p.ext).1
              have u0 := fun p : Later w13 => (Ipn.out p.w p.ext).2
              simp only at t0 u0
              have t1 := fun p : Later w13 => (Iqm.out p.w p.ext).1
              have u1 := fun p : Later w13 => (Iqm.out p.w p.ext).2
              simp only at t1 u1
              refine wp_region_later w13 (Ext.refl _) (by kernel_rfl) (by kernel_rfl) ?_
              repeat (go_big_quiet_step (fail))
              refine wpQuiet_nil ?_
              rintro _ ⟨p1, rfl⟩
              clear r0 r1 r2 r3 r4 r5 t0 u0 t1 u1
              obtain ⟨⟨m0, m1⟩, ⟨m2, m3⟩, ⟨m4, m5⟩, m6, m7⟩ := FBx.out p1.w p1.ext
              obtain ⟨g0, f0⟩ := Ipn.out _ p1.ext
              simp only at g0 f0
              obtain ⟨g1, f1⟩ := Iqm.out _ p1.ext
              simp only at g1 f1
              go_wp2_with fail
              clear m0 m1 m2 m3 m4 m5 m6 m7 g0 f0 g1 f1
              have r0 := fun p : Later w13 => (FBx.out p.w p.ext).1.1
              have r1 := fun p : Later w13 => (FBx.out p.w p.ext).1.2
              have r4 := fun p : Later w13 => (FBx.out p.w p.ext).2.2.1.1
              have r5 := fun p : Later w13 => (FBx.out p.w p.ext).2.2.1.2
              have r2 := fun p : Later w13 => (FBx.out p.w p.ext).2.1.1
              have r3 := fun p : Later w13 => (FBx.out p.w p.ext).2.1.2
              have t0 := fun p : Later w13 => (Ipn.out p.w p.ext).1
              have u0 := fun p : Later w13 => (Ipn.out p.w p.ext).2
              simp only at t0 u0
              have t1 := fun p : Later w13 => (Iqm.out p.w p.ext).1
              have u1 := fun p : Later w13 => (Iqm.out p.w p.ext).2
              simp only at t1 u1
              refine wp_region_later w13 p1.ext (by kernel_rfl) (by kernel_rfl) ?_
              repeat (go_big_quiet_step (fail))
              refine wpQuiet_nil ?_
              rintro _ ⟨p2, rfl⟩
              clear r0 r1 r2 r3 r4 r5 t0 u0 t1 u1
              obtain ⟨⟨m0, m1⟩, ⟨m2, m3⟩, ⟨m4, m5⟩, m6, m7⟩ := FBx.out p2.w p2.ext
              obtain ⟨g0, f0⟩ := Ipn.out _ p2.ext
              simp only at g0 f0
              obtain ⟨g1, f1⟩ := Iqm.out _ p2.ext
              simp only at g1 f1
              go_wp2_with fail
              go_ret
              exact ⟨rfl, X3.out.step (X13.out.step p2.ext)⟩
  · have HSi := Lib.hid (orSize_arg A B n' m' c d ns' fs' r w3 (HA3.out _ (Ext.refl _)) hn1 hm1 hU hq)
    have HAt := Lib.hid (fun W (hW : Ext w3 W) => orAt_arg A B n' m' c d ns' fs' r place W (HA3.out W hW) hn1 hm1 hU hq)
    have HRk := Lib.hid (fun W (hW : Ext w3 W) => orRank_arg A B n' m' c d ns' fs' r key W (HA3.out W hW) hn1 hm1 hU hq)
    have HFl := Lib.hid (fun W (hW : Ext w3 W) => orFloor_arg A B n' m' c d ns' fs' r key W (HA3.out W hW) hn1 hm1 hU hq)
    have HCe := Lib.hid (fun W (hW : Ext w3 W) => orCeil_arg A B n' m' c d ns' fs' r key W (HA3.out W hW) hn1 hm1 hU hq)
    have HR2 := Lib.hid (fun W (hW : Ext w3 W) => rfRight_is A B n' m' c d ns' fs' r W (HA3.out W hW) hn1 hm1 hU false (by simp [hq]))
    unfold IntE at HSi HRk
    unfold ItemE at HAt HFl HCe
    clear hq
    refine HSi.out.mono ?_; rintro e w4 ⟨rfl, hx4⟩
    have X4 := Lib.hid hx4
    clear hx4 k0 k1
    obtain ⟨k0, k1⟩ := S.out w4 X4.out
    go_wp2_with fail
    refine (HAt.out _ X4.out).mono ?_; rintro e w5 ⟨rfl, hx⟩
    obtain ⟨w5b, hb⟩ : ∃ wb, wb = w5.alloc (.cells #[.int .i64 0, .int .i64 0] 60) := ⟨_, rfl⟩
    obtain ⟨Bb, hxb, hsb⟩ := box_made hb
    have HBXx := Lib.hid Bb
    have X5b := Lib.hid (X4.out.step (hx.step hxb))
    have Hbx := Lib.hid hb
    obtain ⟨k0', k1'⟩ := S.out w5b X5b.out
    rw [hb] at k0' k1'
    obtain ⟨bx, hbb⟩ : ∃ b, b = w5.heap.size := ⟨_, rfl⟩
    have Hbbx := Lib.hid hbb
    rw [← hbb] at HBXx
    clear hb hx hxb hsb Bb hbb k0 k1
    go_wp2_with fail
    rw [← Hbx.out, ← Hbbx.out]
    clear k0' k1'
    obtain ⟨k0, k1⟩ := S.out w5b X5b.out
    go_wp2_with fail
    refine (HRk.out _ X5b.out).mono ?_; rintro e w6 ⟨rfl, hx⟩
    have X6 := Lib.hid (X5b.out.step hx)
    have HBXx := Lib.hid (HBXx.out.to hx)
    clear hx k0 k1
    obtain ⟨k0, k1⟩ := S.out w6 X6.out
    go_wp2_with fail
    refine (HFl.out _ X6.out).mono ?_; rintro e w7 ⟨rfl, hx⟩
    obtain ⟨w7b, hb⟩ : ∃ wb, wb = w7.alloc (.cells #[.int .i64 0, .int .i64 0] 60) := ⟨_, rfl⟩
    obtain ⟨Bb, hxb, hsb⟩ := box_made hb
    have HBXx := Lib.hid (HBXx.out.to (hx.step hxb))
    have HBXy := Lib.hid Bb
    have X7b := Lib.hid (X6.out.step (hx.step hxb))
    have Hby := Lib.hid hb
    obtain ⟨k0', k1'⟩ := S.out w7b X7b.out
    rw [hb] at k0' k1'
    obtain ⟨by_, hbb⟩ : ∃ b, b = w7.heap.size := ⟨_, rfl⟩
    have Hbby := Lib.hid hbb
    rw [← hbb] at HBXy
    clear hb hx hxb hsb Bb hbb k0 k1
    go_wp2_with fail
    rw [← Hby.out, ← Hbby.out]
    clear k0' k1'
    obtain ⟨k0, k1⟩ := S.out w7b X7b.out
    go_wp2_with fail
    refine (HCe.out _ X7b.out).mono ?_; rintro e w8 ⟨rfl, hx⟩
    obtain ⟨w8b, hb⟩ : ∃ wb, wb = w8.alloc (.cells #[.int .i64 0, .int .i64 0] 60) := ⟨_, rfl⟩
    obtain ⟨Bb, hxb, hsb⟩ := box_made hb
    have HBXx := Lib.hid (HBXx.out.to (hx.step hxb))
    have HBXy := Lib.hid (HBXy.out.to (hx.step hxb))
    have HBXz := Lib.hid Bb
    have X8b := Lib.hid (X7b.out.step (hx.step hxb))
    have Hbz := Lib.hid hb
    obtain ⟨k0', k1'⟩ := S.out w8b X8b.out
    rw [hb] at k0' k1'
    obtain ⟨bz, hbb⟩ : ∃ b, b = w8.heap.size := ⟨_, rfl⟩
    have Hbbz := Lib.hid hbb
    rw [← hbb] at HBXz
    have hs8 := hsb
    clear k0' k1' hb hx hxb hsb Bb hbb k0 k1
    obtain ⟨w9, hb⟩ : ∃ wb, wb = w8b.alloc (.cells #[.int .i64 0, .int .i64 0] 60) := ⟨_, rfl⟩
    obtain ⟨Bb, hxb, hsb⟩ := box_made hb
    have HBXx := Lib.hid (HBXx.out.to hxb)
    have HBXy := Lib.hid (HBXy.out.to hxb)
    have HBXz := Lib.hid (HBXz.out.to hxb)
    have HBXn := Lib.hid Bb
    have X9 := Lib.hid (X8b.out.step hxb)
    have H9 := Lib.hid hb
    obtain ⟨bn, hbb⟩ : ∃ b, b = w8.heap.size + 1 := ⟨_, rfl⟩
    have Hbn := Lib.hid hbb
    rw [hs8, ← hbb] at HBXn
    obtain ⟨k0', k1'⟩ := S.out w9 X9.out
    rw [hb, Hbz.out] at k0' k1'
    clear hb hxb hsb Bb hbb hs8
    go_wp2_with fail
    rw [← Hbz.out, ← H9.out, ← Hbn.out, ← Hbbz.out]
    clear k0' k1'
    obtain ⟨k0, k1⟩ := S.out w9 X9.out
    go_wp2_with fail
    refine (HR2.out _ X9.out).mono ?_; rintro e w10 ⟨rfl, hx⟩
    have X10 := Lib.hid (X9.out.step hx)
    have HBXx := Lib.hid (HBXx.out.to hx)
    have HBXy := Lib.hid (HBXy.out.to hx)
    have HBXz := Lib.hid (HBXz.out.to hx)
    have HBXn := Lib.hid (HBXn.out.to hx)
    clear hx k0 k1
    go_wp2_with fail
    refine (HAl.out _).mono ?_; rintro e w11 ⟨rfl, hx⟩
    have X11 := Lib.hid (X10.out.step hx)
    have HBXx := Lib.hid (HBXx.out.to hx)
    have HBXy := Lib.hid (HBXy.out.to hx)
    have HBXz := Lib.hid (HBXz.out.to hx)
    have HBXn := Lib.hid (HBXn.out.to hx)
    have heq := it_same 0 0
    have m0 : w11.cell? ⟨bx, 0, none⟩ = some (.int .i64 0) := HBXx.out.cell 0
    have m1 : w11.cell? ⟨bx, 1, none⟩ = some (.int .i64 0) := HBXx.out.cell 1
    have m2 : w11.cell? ⟨by_, 0, none⟩ = some (.int .i64 0) := HBXy.out.cell 0
    have m3 : w11.cell? ⟨by_, 1, none⟩ = some (.int .i64 0) := HBXy.out.cell 1
    have m4 : w11.cell? ⟨bz, 0, none⟩ = some (.int .i64 0) := HBXz.out.cell 0
    have m5 : w11.cell? ⟨bz, 1, none⟩ = some (.int .i64 0) := HBXz.out.cell 1
    have m6 : w11.cell? ⟨bn, 0, none⟩ = some (.int .i64 0) := HBXn.out.cell 0
    have m7 : w11.cell? ⟨bn, 1, none⟩ = some (.int .i64 0) := HBXn.out.cell 1
    clear hx
    go_wp2_with fail
    go_ret
    exact ⟨rfl, X3.out.step X11.out⟩

theorem OrderTells_walk (w : World) (A B : Option Addr) (n m c d : Nat) (ns : List Nd) (fs : List Int) (h : Ar w A n B m ns fs) (hn : n ≤ c) (hm : m ≤ d) (hc : c ≤ maxLen) (hd : d ≤ maxLen) (_ : ∀ z ∈ fs, (Lit.int .i64 z).wf = true) (r : Int) (wr : (Lit.int .u64 r).wf = true) (key : Int) (_ : (Lit.int .i64 key).wf = true) (place : Int) (_ : (Lit.int .i64 place).wf = true) :
    Calls Try.prog 7 #[.agg #[.slice A n c, .slice B m d], .int .u64 r, .int .i64 key, .int .i64 place] w fun e w' => e = .returned (.bool true) ∧ Ext w w' :=
  tells7_walk A B n m c d ns fs r key place w h hn hm hc hd (u64_bounds wr)

end Go.Proofs.Ytjiehlhnocgneaa
