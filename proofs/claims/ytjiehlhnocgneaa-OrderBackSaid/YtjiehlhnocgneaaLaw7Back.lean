/-
  The walk of OrderBack.
-/
import Derived.Test.YtjiehlhnocgneaaOrAt
set_option linter.unusedVariables false
set_option linter.unusedSimpArgs false
namespace Go.Proofs.Ytjiehlhnocgneaa
open Go.RowKit

set_option maxHeartbeats 25600000 in
set_option maxRecDepth 100000 in
theorem oback_m (A : Option Addr) (n c : Nat) (zs : List Int) (place a b : Int) (w : World) (h : Rd w 1 A n (Ks .i64 zs)) (hnc : n ≤ c) (hc : c ≤ maxLen) :
    Calls Try.prog 8 #[.slice A n c, .int .i64 place, .int .i64 a, .int .i64 b] w fun e w' => e = .returned (.bool true) ∧ Ext w w' := by
  have HAl := Lib.hid (fun W => alive7_is W)
  have HH := Lib.hid h
  have hlen := h.1
  have HL := Lib.hid (show zs.length = n by simpa [Ks] using hlen)
  have hBn : n = 0 ∨ ∃ ad, A = some ad := by
    rcases Nat.eq_zero_or_pos n with h' | h'
    · exact .inl h'
    · exact .inr (HH.out.some_ h' (by omega))
  have hA : A = none → n = 0 := fun e => by
    rcases hBn with h' | ⟨ad, h'⟩
    · exact h'
    · rw [e] at h'; cases h'
  simp only [maxLen] at hc
  clear h hlen
  go_enter Try.func8, Try.ntmps8
  go_wp2_with fail
  go_loopw [9, 29, 10, 11] (fun rv j _ _ wr => Hid (Ext w wr) ∧ ∃ k : Nat, k ≤ n ∧ j = .int .i64 k ∧ Hid (∃ row, RdR wr rv row ∧ Srt row ∧ row.length ≤ k ∧ row.length ≤ 30)) (fun _ j _ _ _ => n - (intOf j).toNat)
  case atStart => exact ⟨Lib.hid (Ext.refl _), 0, Nat.zero_le _, rfl, Lib.hid ⟨[], RdR.nil0 _, by simp [Srt], by simp, by simp⟩⟩
  case round =>
    obtain ⟨hx, k, hk, rfl, hR⟩ := hrel
    rename World => w4
    obtain ⟨row, hr, hs, hl1, hl2⟩ := hR.out
    obtain ⟨AR, jr, cR, hv, hrow, hjr⟩ := hr.sl
    subst hv
    have HS := Lib.hid hs
    have HRow := Lib.hid hrow
    have HL1 := Lib.hid hl1
    have HL2 := Lib.hid hl2
    have HJr := Lib.hid hjr
    clear hr hs hl1 hl2 hR hrow hjr
    by_cases hlt : k < n
    · obtain ⟨ad, rfl⟩ : ∃ ad, A = some ad := by
        rcases hBn with h' | h'
        · omega
        · exact h'
      obtain ⟨z1, hz1⟩ : ∃ z, zs[k]? = some z := ⟨_, List.getElem?_eq_getElem (by have := HL.out; omega)⟩
      have c0 : w4.cell? (ad.add k) = some (.int .i64 z1) := (HH.out.to hx.out).cells k _ (by simp [Ks, hz1])
      have hnk : ¬ n ≤ k := by omega
      clear hz1
      by_cases hk2 : k < 30
      · have HP := Lib.hid (rdr_put HRow.out (by have := HL2.out; omega) HS.out)
        go_wp2_with fail
        refine (HP.out _ _ _ (Ext.refl _)).mono ?_
        rintro e w5 ⟨A5, j5, c5, rfl, hr5, hx5⟩
        have HR5 := Lib.hid (show ∃ row', RdR w5 (.slice A5 j5 c5) row' ∧ Srt row' ∧ row'.length ≤ k + 1 ∧ row'.length ≤ 30 from ⟨_, hr5, HS.out.putR _ _, Nat.le_trans (putR_len1 HS.out) (by have := HL1.out; omega), Nat.le_trans (putR_len1 HS.out) (by have := HL1.out; omega)⟩)
        have X5 := Lib.hid (hx.out.step hx5)
        clear hr5 hx5 c0 HP
        go_wp2_with fail
        go_roundw
        case rel => exact ⟨X5, k + 1, by omega, by go_num, HR5⟩
        case measure => simp [intOf]; omega
      · have HR5 := Lib.hid (show ∃ row', RdR w4 (.slice AR jr cR) row' ∧ Srt row' ∧ row'.length ≤ k + 1 ∧ row'.length ≤ 30 from ⟨row, HRow.out, HS.out, by have := HL1.out; omega, HL2.out⟩)
        go_wp2_with fail
        go_roundw
        case rel => exact ⟨hx, k + 1, by omega, by go_num, HR5⟩
        case measure => simp [intOf]; omega
    · have hge : n ≤ k := by omega
      clear hlt
      have HJ2 := Lib.hid HRow.out.len
      have hj30 : jr ≤ 30 := by have := HJ2.out; have := HL2.out; omega
      obtain ⟨j1, hj1⟩ : ∃ j1, j1 = jr + 1 := ⟨_, rfl⟩
      have e1 : IntKind.i64.wrap ((jr : Int) + 1) = (j1 : Int) := by rw [IntKind.wrap_i64]; omega
      have HB := Lib.hid (av_build HRow.out HS.out j1 (by omega) (by omega) (by have := HJ2.out; omega) (by have := HL2.out; omega) w4 (Ext.refl _))
      unfold BuildV at HB
      have HX4 := hx
      clear hj1
      go_wp2_with fail
      clear e1
      refine HB.out.mono ?_
      rintro e v1 ⟨A1, n1, c1, B1, m1, d1, ns1, fs1, r, rfl, hav, hmp, hfr, hx⟩
      obtain ⟨v1b, hb⟩ : ∃ wb, wb = v1.alloc (.cells #[.slice A1 n1 c1, .slice B1 m1 d1] 25) := ⟨_, rfl⟩
      obtain ⟨Bb, hxb, hsb⟩ := box_made hb
      have Xv1 := Lib.hid (HX4.out.step (hx.step hxb))
      have HRow := Lib.hid (HRow.out.to (hx.step hxb))
      have HAv1 := Lib.hid (hav.to hxb)
      have HMr := Lib.hid (hmp)
      have HBx := Lib.hid Bb
      have Hwv1 := Lib.hid hb
      obtain ⟨bx, hbb⟩ : ∃ b, b = v1.heap.size := ⟨_, rfl⟩
      have Hbbx := Lib.hid hbb
      rw [← hbb] at HBx
      have q0 : v1b.cell? ⟨bx, 0, none⟩ = some (.slice A1 n1 c1) := HBx.out.cell 0
      have q1 : v1b.cell? ⟨bx, 1, none⟩ = some (.slice B1 m1 d1) := HBx.out.cell 1
      rw [hb] at q0 q1
      rw [hbb] at q0 q1
      clear hav hmp hfr
      clear hb hxb hsb Bb hbb hx
      go_wp2_with fail
      rw [← Hwv1.out, ← Hbbx.out]
      clear q0 q1
      obtain ⟨R1, hR1⟩ : ∃ q, q = (lo row a).length := ⟨_, rfl⟩
      have HR1 := Lib.hid hR1
      have HC := Lib.hid (av_rank (c := c1) (d := d1) HAv1.out HMr.out a _ (Ext.refl _))
      rw [← hR1] at HC
      unfold IntE at HC
      clear hR1
      refine HC.out.mono ?_
      rintro e v2 ⟨rfl, hx⟩
      have Xv2 := Lib.hid (Xv1.out.step hx)
      have HRow := Lib.hid (HRow.out.to hx)
      have HAv1 := Lib.hid (HAv1.out.to hx)
      have HBx := Lib.hid (HBx.out.to hx)
      have q0 : v2.cell? ⟨bx, 0, none⟩ = some (.slice A1 n1 c1) := HBx.out.cell 0
      have q1 : v2.cell? ⟨bx, 1, none⟩ = some (.slice B1 m1 d1) := HBx.out.cell 1
      clear hx
      go_wp2_with fail
      clear q0 q1
      obtain ⟨R2, hR2⟩ : ∃ q, q = (lo row b).length := ⟨_, rfl⟩
      have HR2 := Lib.hid hR2
      have HC := Lib.hid (av_rank (c := c1) (d := d1) HAv1.out HMr.out b _ (Ext.refl _))
      rw [← hR2] at HC
      unfold IntE at HC
      clear hR2
      refine HC.out.mono ?_
      rintro e v3 ⟨rfl, hx⟩
      have Xv3 := Lib.hid (Xv2.out.step hx)
      have HRow := Lib.hid (HRow.out.to hx)
      have HAv1 := Lib.hid (HAv1.out.to hx)
      have HBx := Lib.hid (HBx.out.to hx)
      clear hx
      have HR12 := Lib.hid (fun (h : a ≤ b) => show R1 ≤ R2 by rw [HR1.out, HR2.out]; exact lo_mono HS.out h)
      have HRa : R1 ≤ jr := by rw [HR1.out, HJ2.out]; exact List.length_filter_le _ _
      have HRb : R2 ≤ jr := by rw [HR2.out, HJ2.out]; exact List.length_filter_le _ _
      have hcond : ¬ (a ≤ b ∧ R2 < R1) := fun h => by have := HR12.out h.1; omega
      by_cases hab : a ≤ b
      · have hr12 : ¬ R2 < R1 := by have := HR12.out hab; omega
        clear hcond
        go_wp2_with fail
        refine (HAl.out _).mono ?_
        rintro e u1 ⟨rfl, hx⟩
        have Xu1 := Lib.hid (Xv3.out.step hx)
        have HRow := Lib.hid (HRow.out.to hx)
        have HAv1 := Lib.hid (HAv1.out.to hx)
        have HBx := Lib.hid (HBx.out.to hx)
        clear hx
        by_cases h0 : jr = 0
        · have hR1z : R1 = 0 := by omega
          have hR2z : R2 = 0 := by omega
          have hj0 : jr = 0 := h0
          subst hR1z hR2z
          have hjz : ((jr : Int) == 0) = true := by simp; omega
          clear h0 hj0
          go_wp2_with fail
          go_ret
          exact ⟨rfl, Xu1.out⟩
        · obtain ⟨P, hP, hPe⟩ := cut_is (n := jr) (by omega) (by omega) place
          obtain ⟨yy, hyy⟩ : ∃ y, row[P]? = some y := ⟨_, List.getElem?_eq_getElem (by have := HJ2.out; omega)⟩
          obtain ⟨yk, yv⟩ := yy
          have HY := Lib.hid hyy
          have hm0 : ¬ (jr : Int) = 0 := by omega
          have hm1 : ¬ jr = 0 := h0
          have hjz : ((jr : Int) == 0) = false := by simp; omega
          have q0 : u1.cell? ⟨bx, 0, none⟩ = some (.slice A1 n1 c1) := HBx.out.cell 0
          have q1 : u1.cell? ⟨bx, 1, none⟩ = some (.slice B1 m1 d1) := HBx.out.cell 1
          have HC := Lib.hid (av_at_ok (c := c1) (d := d1) HAv1.out HMr.out HY.out _ (Ext.refl _))
          unfold ItemOk at HC
          clear hyy
          go_wp2_with fail
          clear q0 q1 hPe
          refine HC.out.mono ?_
          rintro e v4 ⟨rfl, hx⟩
          obtain ⟨v4b, hb⟩ : ∃ wb, wb = v4.alloc (.cells #[.int .i64 yk, .int .i64 yv] 60) := ⟨_, rfl⟩
          obtain ⟨Bb, hxb, hsb⟩ := box_made hb
          have Xv4 := Lib.hid (Xu1.out.step (hx.step hxb))
          have HRow := Lib.hid (HRow.out.to (hx.step hxb))
          have HAv1 := Lib.hid (HAv1.out.to (hx.step hxb))
          have HBx := Lib.hid (HBx.out.to (hx.step hxb))
          have HBg := Lib.hid Bb
          have Hwv4 := Lib.hid hb
          obtain ⟨bg, hbb⟩ : ∃ b, b = v4.heap.size := ⟨_, rfl⟩
          have Hbbg := Lib.hid hbb
          rw [← hbb] at HBg
          have q0 : v4b.cell? ⟨bx, 0, none⟩ = some (.slice A1 n1 c1) := HBx.out.cell 0
          have q1 : v4b.cell? ⟨bx, 1, none⟩ = some (.slice B1 m1 d1) := HBx.out.cell 1
          have q2 : v4b.cell? ⟨bg, 0, none⟩ = some (.int .i64 yk) := HBg.out.cell 0
          rw [hb] at q0 q1 q2
          rw [hbb] at q2
          clear hb hxb hsb Bb hbb hx
          go_wp2_with fail
          rw [← Hwv4.out, ← Hbbg.out]
          clear q0 q1 q2
          have HC := Lib.hid (av_rank_ok (c := c1) (d := d1) HAv1.out HMr.out HY.out _ (Ext.refl _))
          unfold IntE at HC
          refine HC.out.mono ?_
          rintro e v5 ⟨rfl, hx⟩
          have Xv5 := Lib.hid (Xv4.out.step hx)
          have HRow := Lib.hid (HRow.out.to hx)
          have HAv1 := Lib.hid (HAv1.out.to hx)
          have HBx := Lib.hid (HBx.out.to hx)
          have HBg := Lib.hid (HBg.out.to hx)
          have q0 : v5.cell? ⟨bx, 0, none⟩ = some (.slice A1 n1 c1) := HBx.out.cell 0
          have q1 : v5.cell? ⟨bx, 1, none⟩ = some (.slice B1 m1 d1) := HBx.out.cell 1
          have q2 : v5.cell? ⟨bg, 0, none⟩ = some (.int .i64 yk) := HBg.out.cell 0
          clear hx
          go_wp2_with fail
          clear q0 q1 q2
          have HC := Lib.hid (av_floor_ok (c := c1) (d := d1) HAv1.out HMr.out HY.out _ (Ext.refl _))
          unfold ItemOk at HC
          refine HC.out.mono ?_
          rintro e v6 ⟨rfl, hx⟩
          obtain ⟨v6b, hb⟩ : ∃ wb, wb = v6.alloc (.cells #[.int .i64 yk, .int .i64 yv] 60) := ⟨_, rfl⟩
          obtain ⟨Bb, hxb, hsb⟩ := box_made hb
          have Xv6 := Lib.hid (Xv5.out.step (hx.step hxb))
          have HRow := Lib.hid (HRow.out.to (hx.step hxb))
          have HAv1 := Lib.hid (HAv1.out.to (hx.step hxb))
          have HBx := Lib.hid (HBx.out.to (hx.step hxb))
          have HBg := Lib.hid (HBg.out.to (hx.step hxb))
          have HBu := Lib.hid Bb
          have Hwv6 := Lib.hid hb
          obtain ⟨bu, hbb⟩ : ∃ b, b = v6.heap.size := ⟨_, rfl⟩
          have Hbbu := Lib.hid hbb
          rw [← hbb] at HBu
          have q0 : v6b.cell? ⟨bx, 0, none⟩ = some (.slice A1 n1 c1) := HBx.out.cell 0
          have q1 : v6b.cell? ⟨bx, 1, none⟩ = some (.slice B1 m1 d1) := HBx.out.cell 1
          have q2 : v6b.cell? ⟨bg, 0, none⟩ = some (.int .i64 yk) := HBg.out.cell 0
          rw [hb] at q0 q1 q2
          clear hb hxb hsb Bb hbb hx
          go_wp2_with fail
          rw [← Hwv6.out, ← Hbbu.out]
          clear q0 q1 q2
          have HC := Lib.hid (av_ceil_ok (c := c1) (d := d1) HAv1.out HMr.out HY.out _ (Ext.refl _))
          unfold ItemOk at HC
          refine HC.out.mono ?_
          rintro e v7 ⟨rfl, hx⟩
          obtain ⟨v7b, hb⟩ : ∃ wb, wb = v7.alloc (.cells #[.int .i64 yk, .int .i64 yv] 60) := ⟨_, rfl⟩
          obtain ⟨Bb, hxb, hsb⟩ := box_made hb
          have Xv7 := Lib.hid (Xv6.out.step (hx.step hxb))
          have HRow := Lib.hid (HRow.out.to (hx.step hxb))
          have HAv1 := Lib.hid (HAv1.out.to (hx.step hxb))
          have HBx := Lib.hid (HBx.out.to (hx.step hxb))
          have HBg := Lib.hid (HBg.out.to (hx.step hxb))
          have HBu := Lib.hid (HBu.out.to (hx.step hxb))
          have HBv := Lib.hid Bb
          have Hwv7 := Lib.hid hb
          obtain ⟨bv, hbb⟩ : ∃ b, b = v7.heap.size := ⟨_, rfl⟩
          have Hbbv := Lib.hid hbb
          rw [← hbb] at HBv
          have q0 : v7b.cell? ⟨bg, 0, none⟩ = some (.int .i64 yk) := HBg.out.cell 0
          have q1 : v7b.cell? ⟨bg, 1, none⟩ = some (.int .i64 yv) := HBg.out.cell 1
          have q2 : v7b.cell? ⟨bu, 0, none⟩ = some (.int .i64 yk) := HBu.out.cell 0
          have q3 : v7b.cell? ⟨bu, 1, none⟩ = some (.int .i64 yv) := HBu.out.cell 1
          have q4 : v7b.cell? ⟨bv, 0, none⟩ = some (.int .i64 yk) := HBv.out.cell 0
          have q5 : v7b.cell? ⟨bv, 1, none⟩ = some (.int .i64 yv) := HBv.out.cell 1
          rw [hb] at q0 q1 q2 q3 q4 q5
          rw [hbb] at q4 q5
          clear hb hxb hsb Bb hbb hx
          have heq := it_same yk yv
          go_wp2_with fail
          try rw [← Hwv7.out]
          go_ret
          exact ⟨rfl, by first | exact Xv7.out | (rw [← Hwv7.out]; exact Xv7.out)⟩
      · clear hcond
        go_wp2_with fail
        refine (HAl.out _).mono ?_
        rintro e u1 ⟨rfl, hx⟩
        have Xu1 := Lib.hid (Xv3.out.step hx)
        have HRow := Lib.hid (HRow.out.to hx)
        have HAv1 := Lib.hid (HAv1.out.to hx)
        have HBx := Lib.hid (HBx.out.to hx)
        clear hx
        by_cases h0 : jr = 0
        · have hR1z : R1 = 0 := by omega
          have hR2z : R2 = 0 := by omega
          have hj0 : jr = 0 := h0
          subst hR1z hR2z
          have hjz : ((jr : Int) == 0) = true := by simp; omega
          clear h0 hj0
          go_wp2_with fail
          go_ret
          exact ⟨rfl, Xu1.out⟩
        · obtain ⟨P, hP, hPe⟩ := cut_is (n := jr) (by omega) (by omega) place
          obtain ⟨yy, hyy⟩ : ∃ y, row[P]? = some y := ⟨_, List.getElem?_eq_getElem (by have := HJ2.out; omega)⟩
          obtain ⟨yk, yv⟩ := yy
          have HY := Lib.hid hyy
          have hm0 : ¬ (jr : Int) = 0 := by omega
          have hm1 : ¬ jr = 0 := h0
          have hjz : ((jr : Int) == 0) = false := by simp; omega
          have q0 : u1.cell? ⟨bx, 0, none⟩ = some (.slice A1 n1 c1) := HBx.out.cell 0
          have q1 : u1.cell? ⟨bx, 1, none⟩ = some (.slice B1 m1 d1) := HBx.out.cell 1
          have HC := Lib.hid (av_at_ok (c := c1) (d := d1) HAv1.out HMr.out HY.out _ (Ext.refl _))
          unfold ItemOk at HC
          clear hyy
          go_wp2_with fail
          clear q0 q1 hPe
          refine HC.out.mono ?_
          rintro e v4 ⟨rfl, hx⟩
          obtain ⟨v4b, hb⟩ : ∃ wb, wb = v4.alloc (.cells #[.int .i64 yk, .int .i64 yv] 60) := ⟨_, rfl⟩
          obtain ⟨Bb, hxb, hsb⟩ := box_made hb
          have Xv4 := Lib.hid (Xu1.out.step (hx.step hxb))
          have HRow := Lib.hid (HRow.out.to (hx.step hxb))
          have HAv1 := Lib.hid (HAv1.out.to (hx.step hxb))
          have HBx := Lib.hid (HBx.out.to (hx.step hxb))
          have HBg := Lib.hid Bb
          have Hwv4 := Lib.hid hb
          obtain ⟨bg, hbb⟩ : ∃ b, b = v4.heap.size := ⟨_, rfl⟩
          have Hbbg := Lib.hid hbb
          rw [← hbb] at HBg
          have q0 : v4b.cell? ⟨bx, 0, none⟩ = some (.slice A1 n1 c1) := HBx.out.cell 0
          have q1 : v4b.cell? ⟨bx, 1, none⟩ = some (.slice B1 m1 d1) := HBx.out.cell 1
          have q2 : v4b.cell? ⟨bg, 0, none⟩ = some (.int .i64 yk) := HBg.out.cell 0
          rw [hb] at q0 q1 q2
          rw [hbb] at q2
          clear hb hxb hsb Bb hbb hx
          go_wp2_with fail
          rw [← Hwv4.out, ← Hbbg.out]
          clear q0 q1 q2
          have HC := Lib.hid (av_rank_ok (c := c1) (d := d1) HAv1.out HMr.out HY.out _ (Ext.refl _))
          unfold IntE at HC
          refine HC.out.mono ?_
          rintro e v5 ⟨rfl, hx⟩
          have Xv5 := Lib.hid (Xv4.out.step hx)
          have HRow := Lib.hid (HRow.out.to hx)
          have HAv1 := Lib.hid (HAv1.out.to hx)
          have HBx := Lib.hid (HBx.out.to hx)
          have HBg := Lib.hid (HBg.out.to hx)
          have q0 : v5.cell? ⟨bx, 0, none⟩ = some (.slice A1 n1 c1) := HBx.out.cell 0
          have q1 : v5.cell? ⟨bx, 1, none⟩ = some (.slice B1 m1 d1) := HBx.out.cell 1
          have q2 : v5.cell? ⟨bg, 0, none⟩ = some (.int .i64 yk) := HBg.out.cell 0
          clear hx
          go_wp2_with fail
          clear q0 q1 q2
          have HC := Lib.hid (av_floor_ok (c := c1) (d := d1) HAv1.out HMr.out HY.out _ (Ext.refl _))
          unfold ItemOk at HC
          refine HC.out.mono ?_
          rintro e v6 ⟨rfl, hx⟩
          obtain ⟨v6b, hb⟩ : ∃ wb, wb = v6.alloc (.cells #[.int .i64 yk, .int .i64 yv] 60) := ⟨_, rfl⟩
          obtain ⟨Bb, hxb, hsb⟩ := box_made hb
          have Xv6 := Lib.hid (Xv5.out.step (hx.step hxb))
          have HRow := Lib.hid (HRow.out.to (hx.step hxb))
          have HAv1 := Lib.hid (HAv1.out.to (hx.step hxb))
          have HBx := Lib.hid (HBx.out.to (hx.step hxb))
          have HBg := Lib.hid (HBg.out.to (hx.step hxb))
          have HBu := Lib.hid Bb
          have Hwv6 := Lib.hid hb
          obtain ⟨bu, hbb⟩ : ∃ b, b = v6.heap.size := ⟨_, rfl⟩
          have Hbbu := Lib.hid hbb
          rw [← hbb] at HBu
          have q0 : v6b.cell? ⟨bx, 0, none⟩ = some (.slice A1 n1 c1) := HBx.out.cell 0
          have q1 : v6b.cell? ⟨bx, 1, none⟩ = some (.slice B1 m1 d1) := HBx.out.cell 1
          have q2 : v6b.cell? ⟨bg, 0, none⟩ = some (.int .i64 yk) := HBg.out.cell 0
          rw [hb] at q0 q1 q2
          clear hb hxb hsb Bb hbb hx
          go_wp2_with fail
          rw [← Hwv6.out, ← Hbbu.out]
          clear q0 q1 q2
          have HC := Lib.hid (av_ceil_ok (c := c1) (d := d1) HAv1.out HMr.out HY.out _ (Ext.refl _))
          unfold ItemOk at HC
          refine HC.out.mono ?_
          rintro e v7 ⟨rfl, hx⟩
          obtain ⟨v7b, hb⟩ : ∃ wb, wb = v7.alloc (.cells #[.int .i64 yk, .int .i64 yv] 60) := ⟨_, rfl⟩
          obtain ⟨Bb, hxb, hsb⟩ := box_made hb
          have Xv7 := Lib.hid (Xv6.out.step (hx.step hxb))
          have HRow := Lib.hid (HRow.out.to (hx.step hxb))
          have HAv1 := Lib.hid (HAv1.out.to (hx.step hxb))
          have HBx := Lib.hid (HBx.out.to (hx.step hxb))
          have HBg := Lib.hid (HBg.out.to (hx.step hxb))
          have HBu := Lib.hid (HBu.out.to (hx.step hxb))
          have HBv := Lib.hid Bb
          have Hwv7 := Lib.hid hb
          obtain ⟨bv, hbb⟩ : ∃ b, b = v7.heap.size := ⟨_, rfl⟩
          have Hbbv := Lib.hid hbb
          rw [← hbb] at HBv
          have q0 : v7b.cell? ⟨bg, 0, none⟩ = some (.int .i64 yk) := HBg.out.cell 0
          have q1 : v7b.cell? ⟨bg, 1, none⟩ = some (.int .i64 yv) := HBg.out.cell 1
          have q2 : v7b.cell? ⟨bu, 0, none⟩ = some (.int .i64 yk) := HBu.out.cell 0
          have q3 : v7b.cell? ⟨bu, 1, none⟩ = some (.int .i64 yv) := HBu.out.cell 1
          have q4 : v7b.cell? ⟨bv, 0, none⟩ = some (.int .i64 yk) := HBv.out.cell 0
          have q5 : v7b.cell? ⟨bv, 1, none⟩ = some (.int .i64 yv) := HBv.out.cell 1
          rw [hb] at q0 q1 q2 q3 q4 q5
          rw [hbb] at q4 q5
          clear hb hxb hsb Bb hbb hx
          have heq := it_same yk yv
          go_wp2_with fail
          try rw [← Hwv7.out]
          go_ret
          exact ⟨rfl, by first | exact Xv7.out | (rw [← Hwv7.out]; exact Xv7.out)⟩

theorem OrderBack_walk (w : World) (A : Option Addr) (n c : Nat) (zs : List Int) (h : Rd w 1 A n (Ks .i64 zs)) (hn : n ≤ c) (hc : c ≤ maxLen) (_ : ∀ z ∈ zs, (Lit.int .i64 z).wf = true) (place : Int) (_ : (Lit.int .i64 place).wf = true) (a : Int) (_ : (Lit.int .i64 a).wf = true) (b : Int) (_ : (Lit.int .i64 b).wf = true) :
    Calls Try.prog 8 #[.slice A n c, .int .i64 place, .int .i64 a, .int .i64 b] w fun e w' => e = .returned (.bool true) ∧ Ext w w' :=
  oback_m A n c zs place a b w h hn hc

end Go.Proofs.Ytjiehlhnocgneaa
