/-
  The walk of SpanKeeps.
-/
import Derived.Test.YthgaogbpkedjcaaKeeps8
set_option linter.unusedVariables false
set_option linter.unusedSimpArgs false
namespace Go.Proofs.Ythgaogbpkedjcaa
open Go.RowKit

set_option maxHeartbeats 51200000 in
set_option maxRecDepth 100000 in
theorem skeeps_m (A : Option Addr) (n c : Nat) (zs : List Int) (AM : Option Addr) (nm cm : Nat) (ms : List Int) (low high : Int) (w : World) (h : Rd w 1 A n (Ks .i64 zs)) (hnc : n ≤ c) (hc : c ≤ maxLen) (hM : Rd w 1 AM nm (Ks .i64 ms)) (hmc : nm ≤ cm) (hcm : cm ≤ maxLen) (hlw : -9223372036854775808 ≤ low) (hhg : high ≤ 9223372036854775807) :
    Calls Try.prog 4 #[.slice A n c, .slice AM nm cm, .int .i64 low, .int .i64 high] w fun e w' => e = .returned (.bool true) ∧ Ext w w' := by
  have HAl := Lib.hid (fun W => alive8_is W)
  obtain ⟨i0, hi0, hz0, hz1, hz2⟩ := info_parts item_info
  have HLow := Lib.hid hlw
  have HHigh := Lib.hid hhg
  have HMo := Lib.hid hM
  have HMl := Lib.hid (show ms.length = nm by simpa [Ks] using hM.1)
  have HMB := Lib.hid (show nm = 0 ∨ ∃ ad, AM = some ad by
    rcases Nat.eq_zero_or_pos nm with h' | h'
    · exact .inl h'
    · exact .inr (hM.some_ h' (by omega)))
  simp only [maxLen] at hcm
  clear hlw hhg hM
  have HH := Lib.hid h
  have hlen := h.1
  have HL := Lib.hid (show zs.length = n by simpa [Ks] using hlen)
  have hBn : n = 0 ∨ ∃ ad, A = some ad := by
    rcases Nat.eq_zero_or_pos n with h' | h'
    · exact .inl h'
    · exact .inr (HH.out.some_ h' (by omega))
  have hA : A = none → n = 0 := fun e => by
    rcases hBn with h' | ⟨ad, h'⟩
    · exact h'
    · rw [e] at h'; cases h'
  simp only [maxLen] at hc
  clear h hlen
  go_enter Try.func4, Try.ntmps4
  go_wp2_with fail
  go_loopw [9, 27, 10, 11] (fun rv j _ _ wr => Hid (Ext w wr) ∧ ∃ k : Nat, k ≤ n ∧ j = .int .i64 k ∧ Hid (∃ row, RdR wr rv row ∧ Srt row ∧ row.length ≤ k ∧ row.length ≤ 20 ∧ ∀ x ∈ row, 0 ≤ x.1 ∧ x.1 ≤ 39 ∧ 1 ≤ x.2 ∧ x.2 ≤ 20)) (fun _ j _ _ _ => n - (intOf j).toNat)
  case atStart => exact ⟨Lib.hid (Ext.refl _), 0, Nat.zero_le _, rfl, Lib.hid ⟨[], RdR.nil0 _, by simp [Srt], by simp, by simp, by simp⟩⟩
  case round =>
    obtain ⟨hx, k, hk, rfl, hR⟩ := hrel
    rename World => w4
    obtain ⟨row, hr, hs, hl1, hl2, hrg⟩ := hR.out
    have HRG := Lib.hid hrg
    obtain ⟨AR, jr, cR, hv, hrow, hjr⟩ := hr.sl
    subst hv
    have HS := Lib.hid hs
    have HRow := Lib.hid hrow
    have HL1 := Lib.hid hl1
    have HL2 := Lib.hid hl2
    have HJr := Lib.hid hjr
    clear hr hs hl1 hl2 hR hrow hjr hrg
    by_cases hlt : k < n
    · obtain ⟨ad, rfl⟩ : ∃ ad, A = some ad := by
        rcases hBn with h' | h'
        · omega
        · exact h'
      obtain ⟨z1, hz1⟩ : ∃ z, zs[k]? = some z := ⟨_, List.getElem?_eq_getElem (by have := HL.out; omega)⟩
      have c0 : w4.cell? (ad.add k) = some (.int .i64 z1) := (HH.out.to hx.out).cells k _ (by simp [Ks, hz1])
      have hnk : ¬ n ≤ k := by omega
      clear hz1
      obtain ⟨K1, hK1, hKI1, hK2⟩ := key40 z1
      have HK2 := Lib.hid hK2
      clear hKI1 hK2
      by_cases hk2 : k < 20
      · have hv1 : wrap64 ((k : Int) + 1) = (k : Int) + 1 := w64r _ (by omega) (by omega)
        have HV1 := Lib.hid (show (1 : Int) ≤ (k : Int) + 1 ∧ (k : Int) + 1 ≤ 20 by omega)
        have HP := Lib.hid (rdr_put HRow.out (by have := HL2.out; omega) HS.out)
        go_wp2_with fail
        refine (HP.out _ _ _ (Ext.refl _)).mono ?_
        rintro e w5 ⟨A5, j5, c5, rfl, hr5, hx5⟩
        have HR5 := Lib.hid (show ∃ row', RdR w5 (.slice A5 j5 c5) row' ∧ Srt row' ∧ row'.length ≤ k + 1 ∧ row'.length ≤ 20 ∧ ∀ x ∈ row', 0 ≤ x.1 ∧ x.1 ≤ 39 ∧ 1 ≤ x.2 ∧ x.2 ≤ 20 from ⟨_, hr5, HS.out.putR _ _, Nat.le_trans (putR_len1 HS.out) (by have := HL1.out; omega), Nat.le_trans (putR_len1 HS.out) (by have := HL1.out; omega), mem_few HRG.out HK2.out HV1.out⟩)
        have X5 := Lib.hid (hx.out.step hx5)
        clear hr5 hx5 c0 HP hv1
        go_wp2_with fail
        go_roundw
        case rel => exact ⟨X5, k + 1, by omega, by go_num, HR5⟩
        case measure => simp [intOf]; omega
      · have HR5 := Lib.hid (show ∃ row', RdR w4 (.slice AR jr cR) row' ∧ Srt row' ∧ row'.length ≤ k + 1 ∧ row'.length ≤ 20 ∧ ∀ x ∈ row', 0 ≤ x.1 ∧ x.1 ≤ 39 ∧ 1 ≤ x.2 ∧ x.2 ≤ 20 from ⟨row, HRow.out, HS.out, by have := HL1.out; omega, HL2.out, HRG.out⟩)
        go_wp2_with fail
        go_roundw
        case rel => exact ⟨hx, k + 1, by omega, by go_num, HR5⟩
        case measure => simp [intOf]; omega
    · have hge : n ≤ k := by omega
      clear hlt
      have HJ2 := Lib.hid HRow.out.len
      have hj30 : jr ≤ 20 := by have := HJ2.out; have := HL2.out; omega
      have HB := Lib.hid (av_build HRow.out HS.out 500 (by omega) (by omega) (by have := HJ2.out; have := HL2.out; omega) (by have := HL2.out; omega) w4 (Ext.refl _))
      unfold BuildV at HB
      rw [show ((500 : Nat) : Int) = 500 from rfl] at HB
      have HX4 := Lib.hid (Ext.refl w4)
      have HR6 := Lib.hid HRow.out
      go_wp2_with fail
      refine HB.out.mono ?_
      rintro e v1 ⟨A1, n1, c1, B1, m1, d1, ns1, fs1, r, rfl, hav, hmp, hfr, hx⟩
      obtain ⟨v1b, hb⟩ : ∃ wb, wb = v1.alloc (.cells #[.slice A1 n1 c1, .slice B1 m1 d1] 25) := ⟨_, rfl⟩
      obtain ⟨Bb, hxb, hsb⟩ := box_made hb
      have Xv1 := Lib.hid (HX4.out.step (hx.step hxb))
      have HRow := Lib.hid (HRow.out.to (hx.step hxb))
      have HAv1 := Lib.hid (hav.to hxb)
      have HMr := Lib.hid (hmp)
      have HFr := Lib.hid (hfr)
      have HBx := Lib.hid Bb
      have Hwv1 := Lib.hid hb
      obtain ⟨bx, hbb⟩ : ∃ b, b = v1.heap.size := ⟨_, rfl⟩
      have Hbbx := Lib.hid hbb
      rw [← hbb] at HBx
      have q0 : v1b.cell? ⟨bx, 0, none⟩ = some (.slice A1 n1 c1) := HBx.out.cell 0
      have q1 : v1b.cell? ⟨bx, 1, none⟩ = some (.slice B1 m1 d1) := HBx.out.cell 1
      rw [hb] at q0 q1
      rw [hbb] at q0 q1
      have HLX := Lib.hid (show w4.heap.size ≤ bx by rw [hbb]; exact hx.size)
      clear hav hmp hfr
      clear hb hxb hsb Bb hbb hx
      go_wp2_with fail
      rw [← Hwv1.out, ← Hbbx.out]
      clear q0 q1
      have HC := Lib.hid (av_open (c := c1) (d := d1) HAv1.out HMr.out low high _ (Ext.refl _))
      unfold OpenA at HC
      have HBx1 := Lib.hid HBx.out.lt
      refine HC.out.mono ?_
      rintro e v2 ⟨rfl, hx⟩
      have HBxold := Lib.hid (show bx < v2.heap.size from Nat.lt_of_lt_of_le HBx1.out hx.size)
      obtain ⟨v2b, hb⟩ : ∃ wb, wb = v2.alloc (.cells #[.int .u64 r, .int .i64 low, .int .i64 high, .bool false] 29) := ⟨_, rfl⟩
      obtain ⟨Bb, hxb, hsb⟩ := box_made hb
      have Xv2 := Lib.hid (Xv1.out.step (hx.step hxb))
      have HRow := Lib.hid (HRow.out.to (hx.step hxb))
      have HAv1 := Lib.hid (HAv1.out.to (hx.step hxb))
      have HBx := Lib.hid (HBx.out.to (hx.step hxb))
      have HBo := Lib.hid Bb
      have Hwv2 := Lib.hid hb
      obtain ⟨bo, hbb⟩ : ∃ b, b = v2.heap.size := ⟨_, rfl⟩
      have Hbbo := Lib.hid hbb
      rw [← hbb] at HBo
      have q0 : v2b.cell? ⟨bx, 0, none⟩ = some (.slice A1 n1 c1) := HBx.out.cell 0
      have q1 : v2b.cell? ⟨bx, 1, none⟩ = some (.slice B1 m1 d1) := HBx.out.cell 1
      have q2 : v2b.cell? ⟨bo, 0, none⟩ = some (.int .u64 r) := HBo.out.cell 0
      have q3 : v2b.cell? ⟨bo, 1, none⟩ = some (.int .i64 low) := HBo.out.cell 1
      have q4 : v2b.cell? ⟨bo, 2, none⟩ = some (.int .i64 high) := HBo.out.cell 2
      have q5 : v2b.cell? ⟨bo, 3, none⟩ = some (.bool false) := HBo.out.cell 3
      rw [hb] at q0 q1 q2 q3 q4 q5
      rw [hbb] at q2 q3 q4 q5
      have HLO := Lib.hid (show bx < bo by rw [hbb]; have h3 := HBxold.out; omega)
      clear hb hxb hsb Bb hbb hx
      go_wp2_with fail
      rw [← Hwv2.out, ← Hbbo.out]
      clear q0 q1 q2 q3 q4 q5
      refine (HAl.out _).mono ?_
      rintro e v3 ⟨rfl, hx⟩
      have HBx3 := Lib.hid (HBx.out.to hx)
      have HBo3 := Lib.hid (HBo.out.to hx)
      have HAv3 := Lib.hid (HAv1.out.to hx)
      have X3 := Lib.hid (Xv2.out.step hx)
      clear hx
      obtain ⟨base, hbase⟩ : ∃ b, b = v3.heap.size := ⟨_, rfl⟩
      have HBase := Lib.hid (show bo < base ∧ base ≤ v3.heap.size ∧ w4.heap.size ≤ bx ∧ bx < bo from ⟨by rw [hbase]; exact HBo3.out.lt, by rw [hbase]; exact Nat.le_refl _, HLX.out, HLO.out⟩)
      have HK0 := Lib.hid (show KS v3 bx bo base A1 n1 c1 B1 m1 d1 ns1 fs1 r row r row (20 + 0) low high false (.slice none 0 0) 0 [] from
        ⟨HBx3.out, HBo3.out, HAv3.out, HMr.out, HMr.out, OwnQ.nil _ _ _, ⟨HLO.out, HBase.out.1⟩, by have := HL2.out; omega, by have := HFr.out; have := HL2.out; omega, rfl⟩)
      have HX0 := Lib.hid (hx.out)
      clear hbase HBx HBo HAv1 hx
      go_wp2_with fail
      go_loopw [63, 16, 17, 18, 19, 20, 21, 22, 23, 24] (fun j zv gv _ _ _ _ _ _ _ wr => Hid (Ext w4 wr) ∧ ∃ (i : Nat) (z2 : Int), j = .int .i64 i ∧ zv = .int .u64 z2 ∧ i ≤ 20 ∧ Hid (base ≤ wr.heap.size) ∧ Hid (∃ A n c B m d ns fs row2 a got, KS wr bx bo base A n c B m d ns fs r row z2 row2 (20 + i) a high false gv i got ∧ got ++ inn row a high = inn row low high ∧ -9223372036854775808 ≤ a)) (fun j _ _ _ _ _ _ _ _ _ _ => 30 - (intOf j).toNat)
      case atStart => exact ⟨X3, 0, r, rfl, rfl, by omega, Lib.hid HBase.out.2.1, Lib.hid ⟨_, _, _, _, _, _, _, _, _, _, [], HK0.out, rfl, HLow.out⟩⟩
      case round =>
        obtain ⟨hx, i, z2, rfl, rfl, hi20, hbs, hKS⟩ := hrel
        rename World => w5
        obtain ⟨A, n, c, B, m, d, ns, fs, row2, a, got, hK, hsum, ha⟩ := hKS.out
        have HK := Lib.hid hK
        have HSum := Lib.hid hsum
        have HA := Lib.hid ha
        obtain ⟨Ag, cg, hgv⟩ := own_slice hK.own.own
        subst hgv
        have HF := Lib.hid hK.av.ar.lenF
        clear hK hsum ha hKS HK0 X3
        have b1 : w5.cell? ⟨bx, 1, none⟩ = some (.slice B m d) := HK.out.box.cell 1
        have hi30 : i < 30 := by omega
        obtain ⟨HX5, hHX5⟩ : ∃ H : Hid (Ext w4 w5), H = hx := ⟨_, rfl⟩
        clear hHX5
        go_upto_region 17 with fail
        go_cut [75] (fun s75 wx => w5 = wx ∧ ∃ t : Bool, s75 = .bool t ∧ Hid (t = true → i < nm ∧ 420 < m))
        case first =>
          by_cases hm1 : i < nm
          · by_cases hm2 : 420 < m
            · have hm3 : (420 : Int) < (m : Int) := by omega
              go_wp2_with fail
              go_meet
              case rel => exact ⟨rfl, true, rfl, Lib.hid (fun _ => ⟨hm1, hm2⟩)⟩
            · have hm3 : ¬ (420 : Int) < (m : Int) := by omega
              go_wp2_with fail
              go_meet
              case rel => exact ⟨rfl, false, rfl, Lib.hid (fun h => by cases h)⟩
          · have hm3 : nm ≤ i := by omega
            go_wp2_with fail
            go_meet
            case rel => exact ⟨rfl, false, rfl, Lib.hid (fun h => by cases h)⟩
        case rest =>
          obtain ⟨rfl, t, rfl, ht⟩ := hcut
          go_upto_if 75 with fail
          go_cut [16, 19, 20, 21] (fun s16 _ _ _ wx => Hid (Ext w4 wx) ∧ ∃ (z5 : Int), s16 = .int .u64 z5 ∧ Hid (base ≤ wx.heap.size) ∧ Hid (∃ A n c B m d ns fs row2, KS wx bx bo base A n c B m d ns fs r row z5 row2 (20 + (i + 1)) a high false (.slice Ag i cg) i got))
          case first =>
            cases t with
            | false =>
              go_wp2_with fail
              go_meet
              case rel => exact ⟨HX5, z2, rfl, hbs, Lib.hid ⟨_, _, _, _, _, _, _, _, _, HK.out.more (by omega)⟩⟩
            | true =>
              obtain ⟨hm1, hm2⟩ := ht.out rfl
              obtain ⟨adm, rfl⟩ : ∃ ad, AM = some ad := by
                rcases HMB.out with h' | h'
                · omega
                · exact h'
              obtain ⟨zm, hzm⟩ : ∃ z, ms[i]? = some z := ⟨_, List.getElem?_eq_getElem (by have := HMl.out; omega)⟩
              have cm0 : w5.cell? (adm.add i) = some (.int .i64 zm) := (HMo.out.to (HX0.out.step HX5.out)).cells i _ (by simp [Ks, hzm])
              obtain ⟨KK, hKK, hKKI, hKK2⟩ := key40 zm
              have HPP := Lib.hid (av_put (c := c) (d := d) HK.out.av HK.out.mq KK (-1) hKKI (by have := HK.out.few; omega) (by have := HK.out.few; have := HF.out; omega))
              obtain ⟨wA, hwA⟩ : ∃ w, w = w5.alloc (.cells #[.slice none 0 0, .slice none 0 0] 25) := ⟨_, rfl⟩
              obtain ⟨BA, SA, _⟩ := box_made hwA
              obtain ⟨bA, hbA⟩ : ∃ b, b = w5.heap.size := ⟨_, rfl⟩
              rw [← hbA] at BA
              have HBA := Lib.hid BA
              have HSA := Lib.hid SA
              have HPA := Lib.hid (HPP.out wA.drew SA.drew)
              have HPB := Lib.hid (HPP.out w5.drew (Ext.refl w5).drew)
              rw [hwA] at HPA
              unfold MadeV at HPA HPB
              have HwA := Lib.hid hwA
              have HbA := Lib.hid hbA
              have b0 : w5.cell? ⟨bx, 0, none⟩ = some (.slice A n c) := HK.out.box.cell 0
              have HSS := Lib.hid (fun W (hW : Ext w5 W) => show W.cell? ⟨bx, 0, none⟩ = some (.slice A n c) ∧ W.cell? ⟨bx, 1, none⟩ = some (.slice B m d) ∧ W.cell? (adm.add i) = some (.int .i64 zm) from ⟨hW.cellOf b0, hW.cellOf b1, hW.cellOf cm0⟩)
              have hE5 := HX5.out.size
              have e40 : IntKind.i64.wrap (zm.tmod 40 + 40) = zm.tmod 40 + 40 := by
                have h1 : -40 < zm.tmod 40 := Int.lt_tmod_of_pos zm (by omega)
                have h2 : zm.tmod 40 < 40 := Int.tmod_lt_of_pos zm (by omega)
                rw [IntKind.wrap_i64]; omega
              have e41 : (zm.tmod 40 + 40).tmod 40 = KK := by
                have h1 : -40 < zm.tmod 40 := Int.lt_tmod_of_pos zm (by omega)
                have h2 : zm.tmod 40 < 40 := Int.tmod_lt_of_pos zm (by omega)
                have h3 : wrap64 (zm.tmod 40 + 40) = zm.tmod 40 + 40 := w64r _ (by omega) (by omega)
                rw [← hKK, h3]
              have hni : ¬ nm ≤ i := by omega
              clear hzm hKKI hKK2 hKK hwA BA SA hbA
              go_upto_region 18 with fail
              go_region_held3 (fun W => W.cell? ⟨bx, 0, none⟩ = some (.slice A n c) ∧ W.cell? ⟨bx, 1, none⟩ = some (.slice B m d) ∧ W.cell? (adm.add i) = some (.int .i64 zm)) (first | exact HSS.out _ ((Ext.refl w5).new _).drew | exact HSS.out _ (Ext.refl w5).drew | exact HSS.out _ hp6 | exact HSS.out _ (hp6.new _) | exact HSS.out _ hs6) (first
                | (go_at_call 21; refine (HPA.out).mono ?_; rintro e w6 ⟨A5, n5, c5, B5, m5, d5, ns5, fs5, z5, rfl, hav5, hG5, hM5, hp6'⟩; have hpA := hp6'.undrew; have hp6 : Ext w5 w6 := ((Ext.refl w5).new _).step hpA; have t0 : w6.cell? ⟨w5.heap.size, 0, none⟩ = some (.slice none 0 0) := ((Bx.new w5 _ _).to hpA).cell 0; have t1 : w6.cell? ⟨w5.heap.size, 1, none⟩ = some (.slice none 0 0) := ((Bx.new w5 _ _).to hpA).cell 1; have f0 := ((Bx.new w5 _ _).to hpA).free 0; have f1 := ((Bx.new w5 _ _).to hpA).free 1; have hs6 : Ext w5 ((w6.setCell ⟨w5.heap.size, 0, none⟩ (.slice A5 n5 c5)).setCell ⟨w5.heap.size, 1, none⟩ (.slice B5 m5 d5)) := (Only.two w6 w5.heap.size (.slice A5 n5 c5) (.slice B5 m5 d5)).new hp6 (Nat.le_refl _))
                | (go_at_call 21; refine (HPB.out).mono ?_; rintro e w6 ⟨A5, n5, c5, B5, m5, d5, ns5, fs5, z5, rfl, hav5, hG5, hM5, hp6'⟩; have hp6 : Ext w5 w6 := hp6'.undrew))
              · obtain ⟨w7, hw7⟩ : ∃ v, v = w6.alloc (.cells #[.slice A5 n5 c5, .slice B5 m5 d5] 25) := ⟨_, rfl⟩
                obtain ⟨B7, hx7, _⟩ := box_made hw7
                obtain ⟨bb, hbb⟩ : ∃ b, b = w6.heap.size := ⟨_, rfl⟩
                rw [← hbb] at B7
                have X7 := hp6.step hx7
                have AV7 := hav5.to hx7
                rw [← hw7, ← hbb]
                clear hw7 hx7 hbb hp6 hp6'
                have hf5 : 300 ≤ fs5.length := by have h1 := hG5.few; have h2 := HF.out; have h3 := HK.out.few; omega
                obtain ⟨w8, hw8⟩ : ∃ v, v = (w7.setCell ⟨bx, 0, none⟩ (.slice A5 n5 c5)).setCell ⟨bx, 1, none⟩ (.slice B5 m5 d5) := ⟨_, rfl⟩
                have hK7 := HK.out.to X7
                have O8 : Only bx w7 w8 := by rw [hw8]; exact Only.two _ _ _ _
                have HK8 := Lib.hid ((hK7.put AV7 hG5 hM5 (Nat.le_trans (putR_len1 HK.out.mq.srt) (by have := HK.out.few; omega)) hf5 (by rw [hw8]; exact hK7.box.two _ _) O8).more (show 20 + i + 1 ≤ 20 + (i + 1) by omega))
                have X8 := Lib.hid (O8.new (HX5.out.step X7) HBase.out.2.2.1)
                have S8 := Lib.hid (show base ≤ w8.heap.size from Nat.le_trans hbs.out (Nat.le_trans X7.size O8.size))
                have Hw8 := Lib.hid hw8
                have r0 : w7.cell? ⟨bb, 0, none⟩ = some (.slice A5 n5 c5) := B7.cell 0
                have r1 : w7.cell? ⟨bb, 1, none⟩ = some (.slice B5 m5 d5) := B7.cell 1
                have s0 : w7.cell? ⟨bx, 0, none⟩ = some (.slice A n c) := hK7.box.cell 0
                have s1 : w7.cell? ⟨bx, 1, none⟩ = some (.slice B m d) := hK7.box.cell 1
                have g0 := hK7.box.free 0
                have g1 := hK7.box.free 1
                clear hw8 O8 hK7 B7 AV7 X7 hf5 hav5 hG5 hM5 b0 b1 cm0
                go_wp2_with fail
                go_meet
                case rel => first | exact ⟨X8, z5, rfl, S8, Lib.hid ⟨_, _, _, _, _, _, _, _, _, HK8.out⟩⟩ | (rw [← Hw8.out]; exact ⟨X8, z5, rfl, S8, Lib.hid ⟨_, _, _, _, _, _, _, _, _, HK8.out⟩⟩)
              · obtain ⟨w7, hw7⟩ : ∃ v, v = (w6.setCell ⟨w5.heap.size, 0, none⟩ (.slice A5 n5 c5)).setCell ⟨w5.heap.size, 1, none⟩ (.slice B5 m5 d5) := ⟨_, rfl⟩
                have O7 : Only w5.heap.size w6 w7 := by rw [hw7]; exact Only.two _ _ _ _
                have B6 := (Bx.new w5 #[.slice none 0 0, .slice none 0 0] 25).to hpA
                have B7 : Bx w7 w5.heap.size #[.slice A5 n5 c5, .slice B5 m5 d5] := by rw [hw7]; exact B6.two _ _
                have X7 : Ext w5 w7 := by rw [hw7]; exact hs6
                have hf5 : 5 ≤ fs5.length := by have h1 := hG5.few; have h2 := HF.out; have h3 := HK.out.few; omega
                have AV7 := hav5.sz O7 B6 (by simp) hf5
                rw [← hw7]
                obtain ⟨bb, hbb⟩ : ∃ b, b = w5.heap.size := ⟨_, rfl⟩
                rw [← hbb] at B7 ⊢
                clear hw7 O7 B6 hf5 hbb hp6 hp6' hpA hs6 t0 t1 f0 f1
                have hf5 : 300 ≤ fs5.length := by have h1 := hG5.few; have h2 := HF.out; have h3 := HK.out.few; omega
                obtain ⟨w8, hw8⟩ : ∃ v, v = (w7.setCell ⟨bx, 0, none⟩ (.slice A5 n5 c5)).setCell ⟨bx, 1, none⟩ (.slice B5 m5 d5) := ⟨_, rfl⟩
                have hK7 := HK.out.to X7
                have O8 : Only bx w7 w8 := by rw [hw8]; exact Only.two _ _ _ _
                have HK8 := Lib.hid ((hK7.put AV7 hG5 hM5 (Nat.le_trans (putR_len1 HK.out.mq.srt) (by have := HK.out.few; omega)) hf5 (by rw [hw8]; exact hK7.box.two _ _) O8).more (show 20 + i + 1 ≤ 20 + (i + 1) by omega))
                have X8 := Lib.hid (O8.new (HX5.out.step X7) HBase.out.2.2.1)
                have S8 := Lib.hid (show base ≤ w8.heap.size from Nat.le_trans hbs.out (Nat.le_trans X7.size O8.size))
                have Hw8 := Lib.hid hw8
                have r0 : w7.cell? ⟨bb, 0, none⟩ = some (.slice A5 n5 c5) := B7.cell 0
                have r1 : w7.cell? ⟨bb, 1, none⟩ = some (.slice B5 m5 d5) := B7.cell 1
                have s0 : w7.cell? ⟨bx, 0, none⟩ = some (.slice A n c) := hK7.box.cell 0
                have s1 : w7.cell? ⟨bx, 1, none⟩ = some (.slice B m d) := hK7.box.cell 1
                have g0 := hK7.box.free 0
                have g1 := hK7.box.free 1
                clear hw8 O8 hK7 B7 AV7 X7 hf5 hav5 hG5 hM5 b0 b1 cm0
                go_wp2_with fail
                go_meet
                case rel => first | exact ⟨X8, z5, rfl, S8, Lib.hid ⟨_, _, _, _, _, _, _, _, _, HK8.out⟩⟩ | (rw [← Hw8.out]; exact ⟨X8, z5, rfl, S8, Lib.hid ⟨_, _, _, _, _, _, _, _, _, HK8.out⟩⟩)
          case rest =>
            obtain ⟨hx6, z5, rfl, hb6, hKS6⟩ := hcut
            rename World => w6
            obtain ⟨A5, n5, c5, B5, m5, d5, ns5, fs5, row5, hK6⟩ := hKS6.out
            have HK6 := Lib.hid hK6
            clear hK6 hKS6 ht b1
            have HCS := Lib.hid (av_step (c := c5) (d := d5) HK6.out.av HK6.out.mp a high HA.out HHigh.out _ (Ext.refl _))
            have p0 : w6.cell? ⟨bx, 0, none⟩ = some (.slice A5 n5 c5) := HK6.out.box.cell 0
            have p1 : w6.cell? ⟨bx, 1, none⟩ = some (.slice B5 m5 d5) := HK6.out.box.cell 1
            have p2 : w6.cell? ⟨bo, 0, none⟩ = some (.int .u64 r) := HK6.out.cu.cell 0
            have p3 : w6.cell? ⟨bo, 1, none⟩ = some (.int .i64 a) := HK6.out.cu.cell 1
            have p4 : w6.cell? ⟨bo, 2, none⟩ = some (.int .i64 high) := HK6.out.cu.cell 2
            have p5 : w6.cell? ⟨bo, 3, none⟩ = some (.bool false) := HK6.out.cu.cell 3
            go_wp2_with fail
            refine HCS.out.mono ?_
            rintro e t0 hstep
            clear p0 p1 p2 p3 p4 p5
            obtain ⟨a2, q2, x1, x2, ⟨rfl, hxt⟩, hN⟩ := stepk HRG.out HS.out HSum.out HA.out hstep
            have HNx := Lib.hid hN
            obtain ⟨t0a, ht0a⟩ : ∃ t, t = t0.alloc (.cells #[.int .u64 r, .int .i64 a2, .int .i64 high, .bool q2] 29) := ⟨_, rfl⟩
            obtain ⟨t1, ht1⟩ : ∃ t, t = t0a.alloc (.cells #[.int .i64 x1, .int .i64 x2] 40) := ⟨_, rfl⟩
            obtain ⟨Ba, hxa, hsa⟩ := box_made ht0a
            obtain ⟨Bb, hxb, hsb⟩ := box_made ht1
            have hx3 := hxt.step (hxa.step hxb)
            obtain ⟨bd, hbd⟩ : ∃ b, b = t0.heap.size := ⟨_, rfl⟩
            obtain ⟨bi, hbi⟩ : ∃ b, b = t0.heap.size + 1 := ⟨_, rfl⟩
            have ST0 := Lib.hid (show base ≤ t0.heap.size from Nat.le_trans hb6.out hxt.size)
            have HBi1 := Lib.hid (show t0.heap.size ≤ bi by omega)
            have HBd := Lib.hid (show Bx t1 bd #[.int .u64 r, .int .i64 a2, .int .i64 high, .bool q2] by rw [hbd]; exact Ba.to hxb)
            have HBi := Lib.hid (show Bx t1 bi #[.int .i64 x1, .int .i64 x2] by rw [hbi, ← hsa]; exact Bb)
            have KT1 := Lib.hid (HK6.out.to hx3)
            have XT1 := Lib.hid (hx6.out.step hx3)
            have ST1 := Lib.hid (show base ≤ t1.heap.size from Nat.le_trans hb6.out hx3.size)
            have Ha0 := Lib.hid ht0a
            have Hb0 := Lib.hid ht1
            have Hbd := Lib.hid hbd
            have Hbi := Lib.hid hbi
            have d0 : t1.cell? ⟨bd, 0, none⟩ = some (.int .u64 r) := HBd.out.cell 0
            have d1 : t1.cell? ⟨bd, 1, none⟩ = some (.int .i64 a2) := HBd.out.cell 1
            have d2 : t1.cell? ⟨bd, 2, none⟩ = some (.int .i64 high) := HBd.out.cell 2
            have d3 : t1.cell? ⟨bd, 3, none⟩ = some (.bool q2) := HBd.out.cell 3
            have g0' : t1.cell? ⟨bi, 0, none⟩ = some (.int .i64 x1) := HBi.out.cell 0
            have g1' : t1.cell? ⟨bi, 1, none⟩ = some (.int .i64 x2) := HBi.out.cell 1
            clear ht0a ht1 hxa hxb hsa hsb Ba Bb hxt hx3 hbd hbi hstep hN
            go_upto_region 23 with fail
            rw [← Ha0.out, ← Hb0.out, ← Hbi.out, ← Hbd.out]
            obtain ⟨t2, ht2⟩ : ∃ t, t = (((t1.setCell ⟨bo, 0, none⟩ (.int .u64 r)).setCell ⟨bo, 1, none⟩ (.int .i64 a2)).setCell ⟨bo, 2, none⟩ (.int .i64 high)).setCell ⟨bo, 3, none⟩ (.bool q2) := ⟨_, rfl⟩
            have O2 : Only bo t1 t2 := by rw [ht2]; exact Only.four _ _ _ _ _ _
            have KT2 := Lib.hid (KT1.out.step (by rw [ht2]; exact KT1.out.cu.four _ _ _ _) O2)
            have XT2 := Lib.hid (O2.new XT1.out (by have := HBase.out; omega))
            have ST2 := Lib.hid (show base ≤ t2.heap.size from Nat.le_trans ST1.out O2.size)
            have HBi2 := Lib.hid (O2.bx HBi.out (by have h1 := HBi1.out; have h2 := HBase.out; have h3 := ST0.out; omega))
            have Ht2 := Lib.hid ht2
            have q0 := KT1.out.cu.cell 0
            have q1 := KT1.out.cu.cell 1
            have q2' := KT1.out.cu.cell 2
            have q3 := KT1.out.cu.cell 3
            simp only [List.getElem?_toArray, List.getElem?_cons_zero, List.getElem?_cons_succ] at q0 q1 q2' q3
            have f0 := KT1.out.cu.free 0
            have f1 := KT1.out.cu.free 1
            have f2 := KT1.out.cu.free 2
            have f3 := KT1.out.cu.free 3
            have g0 : t2.cell? ⟨bi, 0, none⟩ = some (.int .i64 x1) := HBi2.out.cell 0
            have g1 : t2.cell? ⟨bi, 1, none⟩ = some (.int .i64 x2) := HBi2.out.cell 1
            clear ht2 O2 g0' g1'
            go_upto_region 25 with fail
            rw [← Ht2.out]
            clear q0 q1 q2' q3 f0 f1 f2 f3
            rcases HNx.out with ⟨hin, rfl, rfl, rfl⟩ | ⟨hin, rfl, hx2⟩ | ⟨hin, rfl, ha2, hx2, hlt9⟩
            · have v3c : t2.cell? ⟨bo, 3, none⟩ = some (.bool true) := KT2.out.cu.cell 3
              have h00 : ¬ ((0 : Int) ≠ 0) := by simp
              have hgr := KT2.out.own.own
              have HG9 := Lib.hid (show RdI t2 Ag i got from Rd.own hgr)
              obtain ⟨got9, hgot9⟩ : ∃ g, g = got := ⟨_, rfl⟩
              rw [← hgot9] at HG9
              have HS9 := Lib.hid (show got9 = inn row low high by rw [hgot9]; exact hin)
              clear hgr hgot9
              have HW1 := Lib.hid (show Calls Try.prog 18 #[.slice AR jr cR, .int .i64 low, .int .i64 high] t2 (RowS (inn row low high) t2) from (spWithin_is AR jr cR row low high _ ((HR6.out.to (XT2.out)).rdi) (by omega)).mono fun e w' h => h.rdr)
              unfold RowS at HW1
              go_wp2_with fail
              refine HW1.out.mono ?_
              rintro e y1 ⟨AA, ja, ca, rfl, hrr, hy1⟩
              have HSm := Lib.hid (spSame_is _ AA _ _ cg ca got9 (inn row low high) y1 (HG9.out.to hy1) hrr.rdi (by omega))
              rw [decide_eq_true HS9.out] at HSm
              have Y1 := Lib.hid (HX0.out.step (XT2.out.step hy1))
              clear hrr hy1 HW1
              go_wp2_with fail
              refine HSm.out.mono ?_
              rintro e y2 ⟨rfl, hy2⟩
              have Y2 := Lib.hid (Y1.out.step hy2)
              clear hy2
              go_wp2_with fail
              go_ret
              exact ⟨rfl, Y2.out⟩
            · have HXR := Lib.hid hx2
              have hx20 : ¬ x2 = 0 := by omega
              clear hx2
              obtain ⟨t3, ht3⟩ : ∃ t, t = t2.alloc (.cells #[.int .i64 x1, .int .i64 x2] 40) := ⟨_, rfl⟩
              obtain ⟨Bt3, hxt3, hst3⟩ := box_made ht3
              have Ht3 := Lib.hid ht3
              have KT3 := Lib.hid (KT2.out.to hxt3)
              have XT3 := Lib.hid (XT2.out.step hxt3)
              have ST3 := Lib.hid (show base ≤ t3.heap.size from Nat.le_trans ST2.out hxt3.size)
              have HB3 := Lib.hid Bt3
              clear ht3 Bt3 hxt3 hst3
              go_wp2_with (first
                | (at_builtin
                   rw [← Ht3.out]
                   refine wpList_append_q _ rfl (.tmp 107) (.tmp 109) _ rfl base i0 (.int .i64 0) (.int .i64 0) 16 Try.underlying31 hi0 hz0 hz1 hz2 Go.Proofs.Ythgaogbpkedjcaa.small (small_num (by omega)) (small_num (by omega)) (.slice Ag i cg) i (flat itc got) (by rfl) KT3.out.own ⟨t2.heap.size, 0, none⟩ 1 (by rfl) (.int .i64 x1) (.int .i64 x2) (two_cells HB3.out) rfl rfl (small_num (by have := HXR.out; omega)) (small_num (by have := HXR.out; omega)) (by simp only [maxLen]; omega) (by omega) ST3.out ?_
                   intro A7 c7 t4 ho7 hg7
                   have KT4 := Lib.hid (KT3.out.app ho7 hg7)
                   have XT4 := Lib.hid (XT3.out.grown hg7 (fun g hg => by have := KT3.out.gb g hg; have := HBase.out; omega))
                   have ST4 := Lib.hid (show base ≤ t4.heap.size from Nat.le_trans ST3.out hg7.size)
                   have v3c : t4.cell? ⟨bo, 3, none⟩ = some (.bool true) := KT4.out.cu.cell 3
                   clear ho7 hg7))
              have hgr := KT4.out.own.own
              have HG9 := Lib.hid (show RdI t4 A7 (i + 1) (got ++ [(x1, x2)]) from Rd.own hgr)
              obtain ⟨got9, hgot9⟩ : ∃ g, g = (got ++ [(x1, x2)]) := ⟨_, rfl⟩
              rw [← hgot9] at HG9
              have HS9 := Lib.hid (show got9 = inn row low high by rw [hgot9]; exact hin)
              clear hgr hgot9
              have HW1 := Lib.hid (show Calls Try.prog 18 #[.slice AR jr cR, .int .i64 low, .int .i64 high] t4 (RowS (inn row low high) t4) from (spWithin_is AR jr cR row low high _ ((HR6.out.to (XT4.out)).rdi) (by omega)).mono fun e w' h => h.rdr)
              unfold RowS at HW1
              go_wp2_with fail
              refine HW1.out.mono ?_
              rintro e y1 ⟨AA, ja, ca, rfl, hrr, hy1⟩
              have HSm := Lib.hid (spSame_is _ AA _ _ c7 ca got9 (inn row low high) y1 (HG9.out.to hy1) hrr.rdi (by omega))
              rw [decide_eq_true HS9.out] at HSm
              have Y1 := Lib.hid (HX0.out.step (XT4.out.step hy1))
              clear hrr hy1 HW1
              go_wp2_with fail
              refine HSm.out.mono ?_
              rintro e y2 ⟨rfl, hy2⟩
              have Y2 := Lib.hid (Y1.out.step hy2)
              clear hy2
              go_wp2_with fail
              go_ret
              exact ⟨rfl, Y2.out⟩
            · have HXR := Lib.hid hx2
              have hx20 : ¬ x2 = 0 := by omega
              clear hx2
              obtain ⟨t3, ht3⟩ : ∃ t, t = t2.alloc (.cells #[.int .i64 x1, .int .i64 x2] 40) := ⟨_, rfl⟩
              obtain ⟨Bt3, hxt3, hst3⟩ := box_made ht3
              have Ht3 := Lib.hid ht3
              have KT3 := Lib.hid (KT2.out.to hxt3)
              have XT3 := Lib.hid (XT2.out.step hxt3)
              have ST3 := Lib.hid (show base ≤ t3.heap.size from Nat.le_trans ST2.out hxt3.size)
              have HB3 := Lib.hid Bt3
              clear ht3 Bt3 hxt3 hst3
              go_wp2_with (first
                | (at_builtin
                   rw [← Ht3.out]
                   refine wpList_append_q _ rfl (.tmp 107) (.tmp 109) _ rfl base i0 (.int .i64 0) (.int .i64 0) 16 Try.underlying31 hi0 hz0 hz1 hz2 Go.Proofs.Ythgaogbpkedjcaa.small (small_num (by omega)) (small_num (by omega)) (.slice Ag i cg) i (flat itc got) (by rfl) KT3.out.own ⟨t2.heap.size, 0, none⟩ 1 (by rfl) (.int .i64 x1) (.int .i64 x2) (two_cells HB3.out) rfl rfl (small_num (by have := HXR.out; omega)) (small_num (by have := HXR.out; omega)) (by simp only [maxLen]; omega) (by omega) ST3.out ?_
                   intro A7 c7 t4 ho7 hg7
                   have KT4 := Lib.hid (KT3.out.app ho7 hg7)
                   have XT4 := Lib.hid (XT3.out.grown hg7 (fun g hg => by have := KT3.out.gb g hg; have := HBase.out; omega))
                   have ST4 := Lib.hid (show base ≤ t4.heap.size from Nat.le_trans ST3.out hg7.size)
                   have v3c : t4.cell? ⟨bo, 3, none⟩ = some (.bool false) := KT4.out.cu.cell 3
                   clear ho7 hg7))
              have HFIN := Lib.hid (show ∃ A n c B m d ns fs row2 a got, KS t4 bx bo base A n c B m d ns fs r row z5 row2 (20 + (i + 1)) a high false (.slice A7 (i + 1 : Nat) c7) (i + 1) got ∧ got ++ inn row a high = inn row low high ∧ -9223372036854775808 ≤ a from ⟨_, _, _, _, _, _, _, _, _, a2, _, KT4.out.more (by omega), hin, ha2⟩)
              have hi21 : i + 1 ≤ 20 := by have h1 := KT3.out.gl; have h2 := HJ2.out; omega
              go_roundw
              case rel => exact ⟨XT4, i + 1, z5, by go_num, rfl, hi21, ST4, HFIN⟩
              case measure => simp [intOf]; omega

theorem SpanKeeps_walk (w : World) (A : Option Addr) (n c : Nat) (zs : List Int) (h : Rd w 1 A n (Ks .i64 zs)) (hn : n ≤ c) (hc : c ≤ maxLen) (_ : ∀ z ∈ zs, (Lit.int .i64 z).wf = true) (B : Option Addr) (m d : Nat) (ms : List Int) (h' : Rd w 1 B m (Ks .i64 ms)) (hm : m ≤ d) (hd : d ≤ maxLen) (_ : ∀ z ∈ ms, (Lit.int .i64 z).wf = true) (low : Int) (hl : (Lit.int .i64 low).wf = true) (high : Int) (hh : (Lit.int .i64 high).wf = true) :
    Calls Try.prog 4 #[.slice A n c, .slice B m d, .int .i64 low, .int .i64 high] w fun e w' => e = .returned (.bool true) ∧ Ext w w' :=
  skeeps_m A n c zs B m d ms low high w h hn hc h' hm hd (wfi hl).1 (wfi hh).2

end Go.Proofs.Ythgaogbpkedjcaa
