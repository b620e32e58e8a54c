/-
  The walk of HamtApart.
-/
import Derived.Test.YtfoifcbaadnigaaHtLaw
set_option linter.unusedVariables false
set_option linter.unusedSimpArgs false
namespace Go.Proofs.Ytfoifcbaadnigaa
open Go.RowKit

set_option maxHeartbeats 25600000 in
set_option maxRecDepth 100000 in
theorem apart_m (A : Option Addr) (n c : Nat) (zs : List Int) (key other v : Int) (w : World) (h : Rd w 1 A n (Ks .i64 zs)) (hnc : n ≤ c) (hc : c ≤ maxLen) :
    Calls Try.prog 4 #[.slice A n c, .int .i64 key, .int .i64 other, .int .i64 v] w fun e w' => e = .returned (.bool true) ∧ Ext w w' := by
  have HAl := Lib.hid (fun W => alive9_is W)
  obtain ⟨K, hK, hKI⟩ := key40 key
  obtain ⟨O, hO, hOI⟩ := key40 other
  have HK := Lib.hid hK
  have HO := Lib.hid hO
  have HKI := Lib.hid hKI
  clear hK hKI hO hOI
  have HH := Lib.hid h
  have hlen := h.1
  have HL := Lib.hid (show zs.length = n by simpa [Ks] using hlen)
  have hBn : n = 0 ∨ ∃ ad, A = some ad := by
    rcases Nat.eq_zero_or_pos n with h' | h'
    · exact .inl h'
    · exact .inr (HH.out.some_ h' (by omega))
  have hA : A = none → n = 0 := fun e => by
    rcases hBn with h' | ⟨ad, h'⟩
    · exact h'
    · rw [e] at h'; cases h'
  simp only [maxLen] at hc
  clear h hlen
  go_enter Try.func4, Try.ntmps4
  go_wp2_with fail
  go_loopw [9, 30, 10, 11] (fun rv j _ _ wr => Hid (Ext w wr) ∧ ∃ k : Nat, k ≤ n ∧ j = .int .i64 k ∧ Hid (∃ row, RdR wr rv row ∧ Sm row ∧ row.length ≤ k ∧ row.length ≤ 20)) (fun _ j _ _ _ => n - (intOf j).toNat)
  case atStart => exact ⟨Lib.hid (Ext.refl _), 0, Nat.zero_le _, rfl, Lib.hid ⟨[], RdR.nil0 _, Sm.nil, by simp, by simp⟩⟩
  case round =>
    obtain ⟨hx, k, hk, rfl, hR⟩ := hrel
    rename World => w4
    obtain ⟨row, hr, hs, hl1, hl2⟩ := hR.out
    obtain ⟨AR, jr, cR, hv, hrow, hjr⟩ := hr.sl
    subst hv
    have HS := Lib.hid hs
    have HRow := Lib.hid hrow
    have HL1 := Lib.hid hl1
    have HL2 := Lib.hid hl2
    have HJr := Lib.hid hjr
    clear hr hs hl1 hl2 hR hrow hjr
    by_cases hlt : k < n
    · obtain ⟨ad, rfl⟩ : ∃ ad, A = some ad := by
        rcases hBn with h' | h'
        · omega
        · exact h'
      obtain ⟨z1, hz1⟩ : ∃ z, zs[k]? = some z := ⟨_, List.getElem?_eq_getElem (by have := HL.out; omega)⟩
      have c0 : w4.cell? (ad.add k) = some (.int .i64 z1) := (HH.out.to hx.out).cells k _ (by simp [Ks, hz1])
      have hnk : ¬ n ≤ k := by omega
      clear hz1
      by_cases hk2 : k < 20
      · obtain ⟨KZ, hKZ, hKZI⟩ := key40 z1
        have HKZ := Lib.hid hKZI
        clear hKZI
        have HP := Lib.hid (rdr_put HRow.out (by have := HL2.out; omega) HS.out.1 KZ)
        go_wp2_with fail
        refine (HP.out _ _ (Ext.refl _)).mono ?_
        rintro e w5 ⟨A5, j5, c5, rfl, hr5, hx5⟩
        have HR5 := Lib.hid (show ∃ row', RdR w5 (.slice A5 j5 c5) row' ∧ Sm row' ∧ row'.length ≤ k + 1 ∧ row'.length ≤ 20 from ⟨_, hr5, HS.out.put HKZ.out _, Nat.le_trans (putR_len1 HS.out.1) (by have := HL1.out; omega), Nat.le_trans (putR_len1 HS.out.1) (by have := HL1.out; omega)⟩)
        have X5 := Lib.hid (hx.out.step hx5)
        clear hr5 hx5 c0 HP
        go_wp2_with fail
        go_roundw
        case rel => exact ⟨X5, k + 1, by omega, by go_num, HR5⟩
        case measure => simp [intOf]; omega
      · have HR5 := Lib.hid (show ∃ row', RdR w4 (.slice AR jr cR) row' ∧ Sm row' ∧ row'.length ≤ k + 1 ∧ row'.length ≤ 20 from ⟨row, HRow.out, HS.out, by have := HL1.out; omega, HL2.out⟩)
        go_wp2_with fail
        go_roundw
        case rel => exact ⟨hx, k + 1, by omega, by go_num, HR5⟩
        case measure => simp [intOf]; omega
    · have hge : n ≤ k := by omega
      clear hlt
      have HB := Lib.hid (tv_build HRow.out HS.out 400 (by omega) (by omega) (by have h1 := need_le HL2.out; omega) w4 (Ext.refl _))
      rw [show ((400 : Nat) : Int) = 400 from rfl] at HB
      unfold BuildT at HB
      have HX4 := hx
      have hK := HK.out
      have hO := HO.out
      have HLp := Lib.hid (show (putR row K v).length ≤ 21 from Nat.le_trans (putR_len1 HS.out.1) (by have := HL2.out; omega))
      have HLd := Lib.hid (show (delR row K).length ≤ 20 from Nat.le_trans (List.length_filter_le _ _) HL2.out)
      obtain ⟨XE, hXE⟩ : ∃ p, p = getR row O := ⟨_, rfl⟩
      obtain ⟨X, E⟩ := XE
      by_cases hKO : K = O
      · subst hKO
        have hbq : (K == K) = true := by simp
        go_wp2_with fail
        clear hK hO
        refine HB.out.mono ?_
        rintro e v1 ⟨A1, n1, c1, B1, m1, d1, ns1, fs1, r, rfl, hav, hmp, hfr, hx⟩
        obtain ⟨v1b, hb⟩ : ∃ wb, wb = v1.alloc (.cells #[.slice A1 n1 c1, .slice B1 m1 d1] 26) := ⟨_, rfl⟩
        obtain ⟨Bb, hxb, hsb⟩ := box_made hb
        have Xv1 := Lib.hid (HX4.out.step (hx.step hxb))
        have HRow := Lib.hid (HRow.out.to (hx.step hxb))
        have HAv1 := Lib.hid (hav.to hxb)
        have HMr := Lib.hid (hmp)
        have HF1 := Lib.hid (show 270 ≤ fs1.length from by have h1 := need_le HL2.out; omega)
        have HBa := Lib.hid Bb
        have Hwv1 := Lib.hid hb
        obtain ⟨ba, hbb⟩ : ∃ b, b = v1.heap.size := ⟨_, rfl⟩
        have Hbba := Lib.hid hbb
        rw [← hbb] at HBa
        have q0 : v1b.cell? ⟨ba, 0, none⟩ = some (.slice A1 n1 c1) := HBa.out.cell 0
        have q1 : v1b.cell? ⟨ba, 1, none⟩ = some (.slice B1 m1 d1) := HBa.out.cell 1
        rw [hb] at q0 q1
        rw [hbb] at q0 q1
        clear hav hmp hfr
        clear hb hxb hsb Bb hbb hx
        go_wp2_with fail
        rw [← Hwv1.out, ← Hbba.out]
        clear q0 q1
        have HC := Lib.hid (tv_get (c := c1) (d := d1) HAv1.out HMr.out (HS.out.1) (by have := HL2.out; omega) K _ (Ext.refl _))
        rw [← hXE] at HC
        simp only at HC
        refine HC.out.mono ?_
        rintro e v2 ⟨rfl, hx⟩
        have Xv2 := Lib.hid (Xv1.out.step hx)
        have HRow := Lib.hid (HRow.out.to hx)
        have HAv1 := Lib.hid (HAv1.out.to hx)
        have HBa := Lib.hid (HBa.out.to hx)
        have q0 : v2.cell? ⟨ba, 0, none⟩ = some (.slice A1 n1 c1) := HBa.out.cell 0
        have q1 : v2.cell? ⟨ba, 1, none⟩ = some (.slice B1 m1 d1) := HBa.out.cell 1
        clear hx
        go_wp2_with fail
        clear q0 q1
        have HC := Lib.hid (tv_put (c := c1) (d := d1) HAv1.out HMr.out HS.out K v HKI.out (by have := HF1.out; omega) _ (Ext.refl _))
        unfold MadeT at HC
        refine HC.out.mono ?_
        rintro e v3 ⟨A2, n2, c2, B2, m2, d2, ns2, fs2, s, rfl, hav, hg, hmx, hx⟩
        obtain ⟨v3b, hb⟩ : ∃ wb, wb = v3.alloc (.cells #[.slice A2 n2 c2, .slice B2 m2 d2] 26) := ⟨_, rfl⟩
        obtain ⟨Bb, hxb, hsb⟩ := box_made hb
        have Xv3 := Lib.hid (Xv2.out.step (hx.step hxb))
        have HRow := Lib.hid (HRow.out.to (hx.step hxb))
        have HAv1 := Lib.hid (HAv1.out.to (hx.step hxb))
        have HBa := Lib.hid (HBa.out.to (hx.step hxb))
        have HAv2 := Lib.hid (hav.to hxb)
        have HMs := Lib.hid (hmx)
        have HF2 := Lib.hid (show 250 ≤ fs2.length from by have := HF1.out; have := hg.few; omega)
        have HBb := Lib.hid Bb
        have Hwv3 := Lib.hid hb
        obtain ⟨bb, hbb⟩ : ∃ b, b = v3.heap.size := ⟨_, rfl⟩
        have Hbbb := Lib.hid hbb
        rw [← hbb] at HBb
        have q0 : v3b.cell? ⟨bb, 0, none⟩ = some (.slice A2 n2 c2) := HBb.out.cell 0
        have q1 : v3b.cell? ⟨bb, 1, none⟩ = some (.slice B2 m2 d2) := HBb.out.cell 1
        rw [hb] at q0 q1
        rw [hbb] at q0 q1
        clear hav hg hmx
        clear hb hxb hsb Bb hbb hx
        go_wp2_with fail
        rw [← Hwv3.out, ← Hbbb.out]
        clear q0 q1
        have HC := Lib.hid (tv_get (c := c2) (d := d2) HAv2.out HMs.out (HS.out.1.putR K v) (by have := HLp.out; omega) K _ (Ext.refl _))
        rw [getR_has (HS.out.1.putR K v) (show (K, v) ∈ putR row K v by simp [putR])] at HC
        simp only at HC
        refine HC.out.mono ?_
        rintro e v4 ⟨rfl, hx⟩
        have Xv4 := Lib.hid (Xv3.out.step hx)
        have HRow := Lib.hid (HRow.out.to hx)
        have HAv1 := Lib.hid (HAv1.out.to hx)
        have HBa := Lib.hid (HBa.out.to hx)
        have HAv2 := Lib.hid (HAv2.out.to hx)
        have HBb := Lib.hid (HBb.out.to hx)
        have q0 : v4.cell? ⟨bb, 0, none⟩ = some (.slice A2 n2 c2) := HBb.out.cell 0
        have q1 : v4.cell? ⟨bb, 1, none⟩ = some (.slice B2 m2 d2) := HBb.out.cell 1
        clear hx
        go_wp2_with fail
        clear q0 q1
        have HC := Lib.hid (tv_del (c := c2) (d := d2) HAv2.out HMs.out (HS.out.put HKI.out v) K HKI.out (has_put' _ _ _) (by have := HF2.out; omega) _ (Ext.refl _))
        rw [del_put' HS.out.1] at HC
        unfold MadeT at HC
        refine HC.out.mono ?_
        rintro e v5 ⟨A3, n3, c3, B3, m3, d3, ns3, fs3, t, rfl, hav, hg, hmx, hx⟩
        obtain ⟨v5b, hb⟩ : ∃ wb, wb = v5.alloc (.cells #[.slice A3 n3 c3, .slice B3 m3 d3] 26) := ⟨_, rfl⟩
        obtain ⟨Bb, hxb, hsb⟩ := box_made hb
        have Xv5 := Lib.hid (Xv4.out.step (hx.step hxb))
        have HRow := Lib.hid (HRow.out.to (hx.step hxb))
        have HAv1 := Lib.hid (HAv1.out.to (hx.step hxb))
        have HBa := Lib.hid (HBa.out.to (hx.step hxb))
        have HAv2 := Lib.hid (HAv2.out.to (hx.step hxb))
        have HBb := Lib.hid (HBb.out.to (hx.step hxb))
        have HAv3 := Lib.hid (hav.to hxb)
        have HMt := Lib.hid (hmx)
        have HBc := Lib.hid Bb
        have Hwv5 := Lib.hid hb
        obtain ⟨bc, hbb⟩ : ∃ b, b = v5.heap.size := ⟨_, rfl⟩
        have Hbbc := Lib.hid hbb
        rw [← hbb] at HBc
        have q0 : v5b.cell? ⟨bc, 0, none⟩ = some (.slice A3 n3 c3) := HBc.out.cell 0
        have q1 : v5b.cell? ⟨bc, 1, none⟩ = some (.slice B3 m3 d3) := HBc.out.cell 1
        rw [hb] at q0 q1
        rw [hbb] at q0 q1
        clear hav hg hmx
        clear hb hxb hsb Bb hbb hx
        go_wp2_with fail
        rw [← Hwv5.out, ← Hbbc.out]
        clear q0 q1
        have HC := Lib.hid (tv_get (c := c3) (d := d3) HAv3.out HMt.out (HS.out.1.filter _) (by have := HLd.out; omega) K _ (Ext.refl _))
        rw [getR_gone] at HC
        simp only at HC
        refine HC.out.mono ?_
        rintro e v6 ⟨rfl, hx⟩
        have Xv6 := Lib.hid (Xv5.out.step hx)
        have HRow := Lib.hid (HRow.out.to hx)
        have HAv1 := Lib.hid (HAv1.out.to hx)
        have HBa := Lib.hid (HBa.out.to hx)
        have HAv2 := Lib.hid (HAv2.out.to hx)
        have HBb := Lib.hid (HBb.out.to hx)
        have HAv3 := Lib.hid (HAv3.out.to hx)
        have HBc := Lib.hid (HBc.out.to hx)
        have q0 : v6.cell? ⟨bc, 0, none⟩ = some (.slice A3 n3 c3) := HBc.out.cell 0
        have q1 : v6.cell? ⟨bc, 1, none⟩ = some (.slice B3 m3 d3) := HBc.out.cell 1
        clear hx
        go_wp2_with fail
        clear q0 q1
        have HC := Lib.hid (tv_get (c := c3) (d := d3) HAv3.out HMt.out (HS.out.1.filter _) (by have := HLd.out; omega) K _ (Ext.refl _))
        rw [getR_gone] at HC
        simp only at HC
        refine HC.out.mono ?_
        rintro e v7 ⟨rfl, hx⟩
        have Xv7 := Lib.hid (Xv6.out.step hx)
        have HRow := Lib.hid (HRow.out.to hx)
        have HAv1 := Lib.hid (HAv1.out.to hx)
        have HBa := Lib.hid (HBa.out.to hx)
        have HAv2 := Lib.hid (HAv2.out.to hx)
        have HBb := Lib.hid (HBb.out.to hx)
        have HAv3 := Lib.hid (HAv3.out.to hx)
        have HBc := Lib.hid (HBc.out.to hx)
        clear hx
        go_wp2_with fail
        refine (HAl.out _).mono ?_
        rintro e u1 ⟨rfl, hu1⟩
        have XU := Lib.hid (Xv7.out.step hu1)
        clear hu1
        go_wp2_with fail
        go_ret
        exact ⟨rfl, XU.out⟩
      · have hbq : (K == O) = false := by simpa using hKO
        have hbn : (K != O) = true := by simpa using hKO
        go_wp2_with fail
        clear hK hO
        refine HB.out.mono ?_
        rintro e v1 ⟨A1, n1, c1, B1, m1, d1, ns1, fs1, r, rfl, hav, hmp, hfr, hx⟩
        obtain ⟨v1b, hb⟩ : ∃ wb, wb = v1.alloc (.cells #[.slice A1 n1 c1, .slice B1 m1 d1] 26) := ⟨_, rfl⟩
        obtain ⟨Bb, hxb, hsb⟩ := box_made hb
        have Xv1 := Lib.hid (HX4.out.step (hx.step hxb))
        have HRow := Lib.hid (HRow.out.to (hx.step hxb))
        have HAv1 := Lib.hid (hav.to hxb)
        have HMr := Lib.hid (hmp)
        have HF1 := Lib.hid (show 270 ≤ fs1.length from by have h1 := need_le HL2.out; omega)
        have HBa := Lib.hid Bb
        have Hwv1 := Lib.hid hb
        obtain ⟨ba, hbb⟩ : ∃ b, b = v1.heap.size := ⟨_, rfl⟩
        have Hbba := Lib.hid hbb
        rw [← hbb] at HBa
        have q0 : v1b.cell? ⟨ba, 0, none⟩ = some (.slice A1 n1 c1) := HBa.out.cell 0
        have q1 : v1b.cell? ⟨ba, 1, none⟩ = some (.slice B1 m1 d1) := HBa.out.cell 1
        rw [hb] at q0 q1
        rw [hbb] at q0 q1
        clear hav hmp hfr
        clear hb hxb hsb Bb hbb hx
        go_wp2_with fail
        rw [← Hwv1.out, ← Hbba.out]
        clear q0 q1
        have HC := Lib.hid (tv_get (c := c1) (d := d1) HAv1.out HMr.out (HS.out.1) (by have := HL2.out; omega) O _ (Ext.refl _))
        rw [← hXE] at HC
        simp only at HC
        refine HC.out.mono ?_
        rintro e v2 ⟨rfl, hx⟩
        have Xv2 := Lib.hid (Xv1.out.step hx)
        have HRow := Lib.hid (HRow.out.to hx)
        have HAv1 := Lib.hid (HAv1.out.to hx)
        have HBa := Lib.hid (HBa.out.to hx)
        have q0 : v2.cell? ⟨ba, 0, none⟩ = some (.slice A1 n1 c1) := HBa.out.cell 0
        have q1 : v2.cell? ⟨ba, 1, none⟩ = some (.slice B1 m1 d1) := HBa.out.cell 1
        clear hx
        go_wp2_with fail
        clear q0 q1
        have HC := Lib.hid (tv_put (c := c1) (d := d1) HAv1.out HMr.out HS.out K v HKI.out (by have := HF1.out; omega) _ (Ext.refl _))
        unfold MadeT at HC
        refine HC.out.mono ?_
        rintro e v3 ⟨A2, n2, c2, B2, m2, d2, ns2, fs2, s, rfl, hav, hg, hmx, hx⟩
        obtain ⟨v3b, hb⟩ : ∃ wb, wb = v3.alloc (.cells #[.slice A2 n2 c2, .slice B2 m2 d2] 26) := ⟨_, rfl⟩
        obtain ⟨Bb, hxb, hsb⟩ := box_made hb
        have Xv3 := Lib.hid (Xv2.out.step (hx.step hxb))
        have HRow := Lib.hid (HRow.out.to (hx.step hxb))
        have HAv1 := Lib.hid (HAv1.out.to (hx.step hxb))
        have HBa := Lib.hid (HBa.out.to (hx.step hxb))
        have HAv2 := Lib.hid (hav.to hxb)
        have HMs := Lib.hid (hmx)
        have HF2 := Lib.hid (show 250 ≤ fs2.length from by have := HF1.out; have := hg.few; omega)
        have HBb := Lib.hid Bb
        have Hwv3 := Lib.hid hb
        obtain ⟨bb, hbb⟩ : ∃ b, b = v3.heap.size := ⟨_, rfl⟩
        have Hbbb := Lib.hid hbb
        rw [← hbb] at HBb
        have q0 : v3b.cell? ⟨bb, 0, none⟩ = some (.slice A2 n2 c2) := HBb.out.cell 0
        have q1 : v3b.cell? ⟨bb, 1, none⟩ = some (.slice B2 m2 d2) := HBb.out.cell 1
        rw [hb] at q0 q1
        rw [hbb] at q0 q1
        clear hav hg hmx
        clear hb hxb hsb Bb hbb hx
        go_wp2_with fail
        rw [← Hwv3.out, ← Hbbb.out]
        clear q0 q1
        have HC := Lib.hid (tv_get (c := c2) (d := d2) HAv2.out HMs.out (HS.out.1.putR K v) (by have := HLp.out; omega) O _ (Ext.refl _))
        rw [getR_put HS.out.1 v hKO, ← hXE] at HC
        simp only at HC
        refine HC.out.mono ?_
        rintro e v4 ⟨rfl, hx⟩
        have Xv4 := Lib.hid (Xv3.out.step hx)
        have HRow := Lib.hid (HRow.out.to hx)
        have HAv1 := Lib.hid (HAv1.out.to hx)
        have HBa := Lib.hid (HBa.out.to hx)
        have HAv2 := Lib.hid (HAv2.out.to hx)
        have HBb := Lib.hid (HBb.out.to hx)
        have q0 : v4.cell? ⟨bb, 0, none⟩ = some (.slice A2 n2 c2) := HBb.out.cell 0
        have q1 : v4.cell? ⟨bb, 1, none⟩ = some (.slice B2 m2 d2) := HBb.out.cell 1
        clear hx
        go_wp2_with fail
        clear q0 q1
        have HC := Lib.hid (tv_del (c := c2) (d := d2) HAv2.out HMs.out (HS.out.put HKI.out v) K HKI.out (has_put' _ _ _) (by have := HF2.out; omega) _ (Ext.refl _))
        rw [del_put' HS.out.1] at HC
        unfold MadeT at HC
        refine HC.out.mono ?_
        rintro e v5 ⟨A3, n3, c3, B3, m3, d3, ns3, fs3, t, rfl, hav, hg, hmx, hx⟩
        obtain ⟨v5b, hb⟩ : ∃ wb, wb = v5.alloc (.cells #[.slice A3 n3 c3, .slice B3 m3 d3] 26) := ⟨_, rfl⟩
        obtain ⟨Bb, hxb, hsb⟩ := box_made hb
        have Xv5 := Lib.hid (Xv4.out.step (hx.step hxb))
        have HRow := Lib.hid (HRow.out.to (hx.step hxb))
        have HAv1 := Lib.hid (HAv1.out.to (hx.step hxb))
        have HBa := Lib.hid (HBa.out.to (hx.step hxb))
        have HAv2 := Lib.hid (HAv2.out.to (hx.step hxb))
        have HBb := Lib.hid (HBb.out.to (hx.step hxb))
        have HAv3 := Lib.hid (hav.to hxb)
        have HMt := Lib.hid (hmx)
        have HBc := Lib.hid Bb
        have Hwv5 := Lib.hid hb
        obtain ⟨bc, hbb⟩ : ∃ b, b = v5.heap.size := ⟨_, rfl⟩
        have Hbbc := Lib.hid hbb
        rw [← hbb] at HBc
        have q0 : v5b.cell? ⟨bc, 0, none⟩ = some (.slice A3 n3 c3) := HBc.out.cell 0
        have q1 : v5b.cell? ⟨bc, 1, none⟩ = some (.slice B3 m3 d3) := HBc.out.cell 1
        rw [hb] at q0 q1
        rw [hbb] at q0 q1
        clear hav hg hmx
        clear hb hxb hsb Bb hbb hx
        go_wp2_with fail
        rw [← Hwv5.out, ← Hbbc.out]
        clear q0 q1
        have HC := Lib.hid (tv_get (c := c3) (d := d3) HAv3.out HMt.out (HS.out.1.filter _) (by have := HLd.out; omega) O _ (Ext.refl _))
        rw [getR_del HS.out.1 hKO, ← hXE] at HC
        simp only at HC
        refine HC.out.mono ?_
        rintro e v6 ⟨rfl, hx⟩
        have Xv6 := Lib.hid (Xv5.out.step hx)
        have HRow := Lib.hid (HRow.out.to hx)
        have HAv1 := Lib.hid (HAv1.out.to hx)
        have HBa := Lib.hid (HBa.out.to hx)
        have HAv2 := Lib.hid (HAv2.out.to hx)
        have HBb := Lib.hid (HBb.out.to hx)
        have HAv3 := Lib.hid (HAv3.out.to hx)
        have HBc := Lib.hid (HBc.out.to hx)
        have q0 : v6.cell? ⟨bc, 0, none⟩ = some (.slice A3 n3 c3) := HBc.out.cell 0
        have q1 : v6.cell? ⟨bc, 1, none⟩ = some (.slice B3 m3 d3) := HBc.out.cell 1
        clear hx
        go_wp2_with fail
        clear q0 q1
        have HC := Lib.hid (tv_get (c := c3) (d := d3) HAv3.out HMt.out (HS.out.1.filter _) (by have := HLd.out; omega) K _ (Ext.refl _))
        rw [getR_gone] at HC
        simp only at HC
        refine HC.out.mono ?_
        rintro e v7 ⟨rfl, hx⟩
        have Xv7 := Lib.hid (Xv6.out.step hx)
        have HRow := Lib.hid (HRow.out.to hx)
        have HAv1 := Lib.hid (HAv1.out.to hx)
        have HBa := Lib.hid (HBa.out.to hx)
        have HAv2 := Lib.hid (HAv2.out.to hx)
        have HBb := Lib.hid (HBb.out.to hx)
        have HAv3 := Lib.hid (HAv3.out.to hx)
        have HBc := Lib.hid (HBc.out.to hx)
        clear hx
        go_wp2_with fail
        refine (HAl.out _).mono ?_
        rintro e u1 ⟨rfl, hu1⟩
        have XU := Lib.hid (Xv7.out.step hu1)
        clear hu1
        go_wp2_with fail
        go_ret
        exact ⟨rfl, XU.out⟩

theorem HamtApart_walk (w : World) (A : Option Addr) (n c : Nat) (zs : List Int) (h : Rd w 1 A n (Ks .i64 zs)) (hn : n ≤ c) (hc : c ≤ maxLen) (_ : ∀ z ∈ zs, (Lit.int .i64 z).wf = true) (key : Int) (_ : (Lit.int .i64 key).wf = true) (other : Int) (_ : (Lit.int .i64 other).wf = true) (v : Int) (_ : (Lit.int .i64 v).wf = true) :
    Calls Try.prog 4 #[.slice A n c, .int .i64 key, .int .i64 other, .int .i64 v] w fun e w' => e = .returned (.bool true) ∧ Ext w w' :=
  apart_m A n c zs key other v w h hn hc

end Go.Proofs.Ytfoifcbaadnigaa
