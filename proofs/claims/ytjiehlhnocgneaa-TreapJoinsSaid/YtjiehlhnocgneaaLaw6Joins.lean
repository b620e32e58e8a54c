/-
  The walk of TreapJoins.
-/
import Derived.Test.YtjiehlhnocgneaaArV
import Derived.Test.YtjiehlhnocgneaaMinMax
set_option linter.unusedVariables false
set_option linter.unusedSimpArgs false
namespace Go.Proofs.Ytjiehlhnocgneaa
open Go.RowKit

theorem ge_lo {l : Row} (hs : Srt l) {p q : Int} : (lo l p ++ lo (ge l p) q) ++ ge (ge l p) q = l := by
  rw [List.append_assoc, lo_ge (show Srt (ge l p) from hs.filter _) q, lo_ge hs p]
theorem mid_snoc {l : Row} {p q : Int} {k : Nat} {x : Int × Int} (hx : l[k]? = some x) : lo (ge (l.take (k + 1)) p) q = lo (ge (l.take k) p) q ++ (if p ≤ x.1 ∧ x.1 < q then [x] else []) := by
  rw [List.take_add_one, hx]
  simp only [lo, ge, List.filter_append, Option.toList]
  by_cases h1 : p ≤ x.1
  · by_cases h2 : x.1 < q
    · simp [h1, h2]
    · simp [h1, h2]
  · simp [h1]

set_option maxHeartbeats 25600000 in
set_option maxRecDepth 100000 in
theorem joins_m (A : Option Addr) (n c : Nat) (zs : List Int) (low high : Int) (w : World) (h : Rd w 1 A n (Ks .i64 zs)) (hnc : n ≤ c) (hc : c ≤ maxLen) :
    Calls Try.prog 6 #[.slice A n c, .int .i64 low, .int .i64 high] w fun e w' => e = .returned (.bool true) ∧ Ext w w' := by
  have HAl := Lib.hid (fun W => alive6_is W)
  obtain ⟨i0, hi0, hz0, hz1, hz2⟩ := info_parts item_info
  obtain ⟨LO, hLO⟩ : ∃ q, min (low.tmod 80) (high.tmod 80) = q := ⟨_, rfl⟩
  obtain ⟨HI, hHI⟩ : ∃ q, max (low.tmod 80) (high.tmod 80) = q := ⟨_, rfl⟩
  have HH := Lib.hid h
  have hlen := h.1
  have HL := Lib.hid (show zs.length = n by simpa [Ks] using hlen)
  have hBn : n = 0 ∨ ∃ ad, A = some ad := by
    rcases Nat.eq_zero_or_pos n with h' | h'
    · exact .inl h'
    · exact .inr (HH.out.some_ h' (by omega))
  have hA : A = none → n = 0 := fun e => by
    rcases hBn with h' | ⟨ad, h'⟩
    · exact h'
    · rw [e] at h'; cases h'
  simp only [maxLen] at hc
  clear h hlen
  go_enter Try.func6, Try.ntmps6
  go_wp2_with fail
  go_loopw [7, 32, 8, 9] (fun rv j _ _ wr => Hid (Ext w wr) ∧ ∃ k : Nat, k ≤ n ∧ j = .int .i64 k ∧ Hid (∃ row, RdR wr rv row ∧ Srt row ∧ row.length ≤ k ∧ row.length ≤ 16)) (fun _ j _ _ _ => n - (intOf j).toNat)
  case atStart => exact ⟨Lib.hid ((Ext.refl _).new _), 0, Nat.zero_le _, rfl, Lib.hid ⟨[], RdR.nilq _ _, by simp [Srt], by simp, by simp⟩⟩
  case round =>
    obtain ⟨hx, k, hk, rfl, hR⟩ := hrel
    rename World => w4
    obtain ⟨row, hr, hs, hl1, hl2⟩ := hR.out
    obtain ⟨AR, jr, cR, hv, hrow, hjr⟩ := hr.sl
    subst hv
    have HS := Lib.hid hs
    have HRow := Lib.hid hrow
    have HL1 := Lib.hid hl1
    have HL2 := Lib.hid hl2
    have HJr := Lib.hid hjr
    clear hr hs hl1 hl2 hR hrow hjr
    by_cases hlt : k < n
    · obtain ⟨ad, rfl⟩ : ∃ ad, A = some ad := by
        rcases hBn with h' | h'
        · omega
        · exact h'
      obtain ⟨z1, hz1⟩ : ∃ z, zs[k]? = some z := ⟨_, List.getElem?_eq_getElem (by have := HL.out; omega)⟩
      have c0 : w4.cell? (ad.add k) = some (.int .i64 z1) := (HH.out.to hx.out).cells k _ (by simp [Ks, hz1])
      have hnk : ¬ n ≤ k := by omega
      clear hz1
      by_cases hk2 : k < 16
      · have HP := Lib.hid (rdr_put HRow.out (by have := HL2.out; omega) HS.out)
        go_wp2_with fail
        refine (HP.out _ _ _ (Ext.refl _)).mono ?_
        rintro e w5 ⟨A5, j5, c5, rfl, hr5, hx5⟩
        have HR5 := Lib.hid (show ∃ row', RdR w5 (.slice A5 j5 c5) row' ∧ Srt row' ∧ row'.length ≤ k + 1 ∧ row'.length ≤ 16 from ⟨_, hr5, HS.out.putR _ _, Nat.le_trans (putR_len1 HS.out) (by have := HL1.out; omega), Nat.le_trans (putR_len1 HS.out) (by have := HL1.out; omega)⟩)
        have X5 := Lib.hid (hx.out.step hx5)
        clear hr5 hx5 c0 HP
        go_wp2_with fail
        go_roundw
        case rel => exact ⟨X5, k + 1, by omega, by go_num, HR5⟩
        case measure => simp [intOf]; omega
      · have HR5 := Lib.hid (show ∃ row', RdR w4 (.slice AR jr cR) row' ∧ Srt row' ∧ row'.length ≤ k + 1 ∧ row'.length ≤ 16 from ⟨row, HRow.out, HS.out, by have := HL1.out; omega, HL2.out⟩)
        go_wp2_with fail
        go_roundw
        case rel => exact ⟨hx, k + 1, by omega, by go_num, HR5⟩
        case measure => simp [intOf]; omega
    · have hge : n ≤ k := by omega
      clear hlt
      have HB := Lib.hid (av_build HRow.out HS.out 400 (by omega) (by omega) (by have := HL2.out; omega) (by have := HL2.out; omega) w4 (Ext.refl _))
      rw [show ((400 : Nat) : Int) = 400 from rfl] at HB
      unfold BuildV at HB
      have HX4 := hx
      have HMIN := Lib.hid hLO
      have HMAX := Lib.hid hHI
      go_wp2_with (first
        | (refine wpList_min2 rfl (.tmp 51) (.tmp 52) _ rfl (low.tmod 80) (high.tmod 80) LO rfl rfl hLO ?_)
        | (refine wpList_max2 rfl (.tmp 54) (.tmp 55) _ rfl (low.tmod 80) (high.tmod 80) HI rfl rfl hHI ?_))
      clear hLO hHI
      refine HB.out.mono ?_
      rintro e v1 ⟨A1, n1, c1, B1, m1, d1, ns1, fs1, r, rfl, hav, hmp, hfr, hx⟩
      obtain ⟨v1b, hb⟩ : ∃ wb, wb = v1.alloc (.cells #[.slice A1 n1 c1, .slice B1 m1 d1] 25) := ⟨_, rfl⟩
      obtain ⟨Bb, hxb, hsb⟩ := box_made hb
      have Xv1 := Lib.hid (HX4.out.step (hx.step hxb))
      have HRow := Lib.hid (HRow.out.to (hx.step hxb))
      have HAv1 := Lib.hid (hav.to hxb)
      have HMr := Lib.hid (hmp)
      have HF1 := Lib.hid (show 384 ≤ fs1.length from by have := HL2.out; omega)
      have HBa := Lib.hid Bb
      have Hwv1 := Lib.hid hb
      obtain ⟨ba, hbb⟩ : ∃ b, b = v1.heap.size := ⟨_, rfl⟩
      have Hbba := Lib.hid hbb
      rw [← hbb] at HBa
      have q0 : v1b.cell? ⟨ba, 0, none⟩ = some (.slice A1 n1 c1) := HBa.out.cell 0
      have q1 : v1b.cell? ⟨ba, 1, none⟩ = some (.slice B1 m1 d1) := HBa.out.cell 1
      rw [hb] at q0 q1
      rw [hbb] at q0 q1
      clear hav hmp hfr
      clear hb hxb hsb Bb hbb hx
      go_wp2_with fail
      rw [← Hwv1.out, ← Hbba.out]
      clear q0 q1
      have HC := Lib.hid (av_split (c := c1) (d := d1) HAv1.out HMr.out LO (by have := HF1.out; have := HL2.out; omega) _ (Ext.refl _))
      unfold SplitV at HC
      refine HC.out.mono ?_
      rintro e v2 ⟨A2, n2, c2, B2, m2, d2, ns2, fs2, x, y, rfl, hav, hg, hmx, hmy, hx⟩
      obtain ⟨v2b, hb⟩ : ∃ wb, wb = v2.alloc (.cells #[.slice A2 n2 c2, .slice B2 m2 d2] 25) := ⟨_, rfl⟩
      obtain ⟨Bb, hxb, hsb⟩ := box_made hb
      have Xv2 := Lib.hid (Xv1.out.step (hx.step hxb))
      have HRow := Lib.hid (HRow.out.to (hx.step hxb))
      have HAv1 := Lib.hid (HAv1.out.to (hx.step hxb))
      have HBa := Lib.hid (HBa.out.to (hx.step hxb))
      have HAv2 := Lib.hid (hav.to hxb)
      have HG2 := Lib.hid (hg)
      have HMx := Lib.hid (hmx)
      have HMy := Lib.hid (hmy)
      have HF2 := Lib.hid (show 368 ≤ fs2.length from by have := HL2.out; have := HF1.out; have := hg.few; omega)
      have HBb := Lib.hid Bb
      have Hwv2 := Lib.hid hb
      obtain ⟨bb, hbb⟩ : ∃ b, b = v2.heap.size := ⟨_, rfl⟩
      have Hbbb := Lib.hid hbb
      rw [← hbb] at HBb
      have q0 : v2b.cell? ⟨bb, 0, none⟩ = some (.slice A2 n2 c2) := HBb.out.cell 0
      have q1 : v2b.cell? ⟨bb, 1, none⟩ = some (.slice B2 m2 d2) := HBb.out.cell 1
      rw [hb] at q0 q1
      rw [hbb] at q0 q1
      clear hav hg hmx hmy
      clear hb hxb hsb Bb hbb hx
      go_wp2_with fail
      rw [← Hwv2.out, ← Hbbb.out]
      clear q0 q1
      have HGl := Lib.hid (show (ge row LO).length ≤ 16 from Nat.le_trans (ge_len _ _) HL2.out)
      have HC := Lib.hid (av_split (c := c2) (d := d2) HAv2.out HMy.out HI (by have := HF2.out; have := HGl.out; omega) _ (Ext.refl _))
      unfold SplitV at HC
      refine HC.out.mono ?_
      rintro e v3 ⟨A3, n3, c3, B3, m3, d3, ns3, fs3, mid, zz, rfl, hav, hg, hmx, hmy, hx⟩
      obtain ⟨v3b, hb⟩ : ∃ wb, wb = v3.alloc (.cells #[.slice A3 n3 c3, .slice B3 m3 d3] 25) := ⟨_, rfl⟩
      obtain ⟨Bb, hxb, hsb⟩ := box_made hb
      have Xv3 := Lib.hid (Xv2.out.step (hx.step hxb))
      have HRow := Lib.hid (HRow.out.to (hx.step hxb))
      have HAv1 := Lib.hid (HAv1.out.to (hx.step hxb))
      have HBa := Lib.hid (HBa.out.to (hx.step hxb))
      have HAv2 := Lib.hid (HAv2.out.to (hx.step hxb))
      have HBb := Lib.hid (HBb.out.to (hx.step hxb))
      have HAv3 := Lib.hid (hav.to hxb)
      have HG3 := Lib.hid (hg)
      have HMm := Lib.hid (hmx)
      have HMz := Lib.hid (hmy)
      have HF3 := Lib.hid (show 352 ≤ fs3.length from by have := HGl.out; have := HF2.out; have := hg.few; omega)
      have HBc := Lib.hid Bb
      have Hwv3 := Lib.hid hb
      obtain ⟨bc, hbb⟩ : ∃ b, b = v3.heap.size := ⟨_, rfl⟩
      have Hbbc := Lib.hid hbb
      rw [← hbb] at HBc
      have q0 : v3b.cell? ⟨bc, 0, none⟩ = some (.slice A3 n3 c3) := HBc.out.cell 0
      have q1 : v3b.cell? ⟨bc, 1, none⟩ = some (.slice B3 m3 d3) := HBc.out.cell 1
      rw [hb] at q0 q1
      rw [hbb] at q0 q1
      clear hav hg hmx hmy
      clear hb hxb hsb Bb hbb hx
      go_wp2_with fail
      rw [← Hwv3.out, ← Hbbc.out]
      clear q0 q1
      have HSq := Lib.hid (ge_lo (p := LO) (q := HI) HS.out)
      have HS1 := Lib.hid (show Srt (lo row LO ++ lo (ge row LO) HI) from (Srt.app.1 (show Srt ((lo row LO ++ lo (ge row LO) HI) ++ ge (ge row LO) HI) by rw [HSq.out]; exact HS.out)).1)
      have HLn := Lib.hid (show (lo row LO ++ lo (ge row LO) HI).length ≤ 16 from by
        have h1 := congrArg List.length HSq.out
        rw [List.length_append] at h1
        have := HL2.out
        omega)
      have HC := Lib.hid (av_join (c := c3) (d := d3) HAv3.out (HMx.out.grow HG3.out) HMm.out HS1.out (by have := HLn.out; omega) (by have := HF3.out; have := HLn.out; omega) _ (Ext.refl _))
      unfold MadeV at HC
      refine HC.out.mono ?_
      rintro e v4 ⟨A4, n4, c4, B4, m4, d4, ns4, fs4, s, rfl, hav, hg, hmx, hx⟩
      obtain ⟨v4b, hb⟩ : ∃ wb, wb = v4.alloc (.cells #[.slice A4 n4 c4, .slice B4 m4 d4] 25) := ⟨_, rfl⟩
      obtain ⟨Bb, hxb, hsb⟩ := box_made hb
      have Xv4 := Lib.hid (Xv3.out.step (hx.step hxb))
      have HRow := Lib.hid (HRow.out.to (hx.step hxb))
      have HAv1 := Lib.hid (HAv1.out.to (hx.step hxb))
      have HBa := Lib.hid (HBa.out.to (hx.step hxb))
      have HAv2 := Lib.hid (HAv2.out.to (hx.step hxb))
      have HBb := Lib.hid (HBb.out.to (hx.step hxb))
      have HAv3 := Lib.hid (HAv3.out.to (hx.step hxb))
      have HBc := Lib.hid (HBc.out.to (hx.step hxb))
      have HAv4 := Lib.hid (hav.to hxb)
      have HG4 := Lib.hid (hg)
      have HMs := Lib.hid (hmx)
      have HF4 := Lib.hid (show 336 ≤ fs4.length from by have := HLn.out; have := HF3.out; have := hg.few; omega)
      have HBd := Lib.hid Bb
      have Hwv4 := Lib.hid hb
      obtain ⟨bd, hbb⟩ : ∃ b, b = v4.heap.size := ⟨_, rfl⟩
      have Hbbd := Lib.hid hbb
      rw [← hbb] at HBd
      have q0 : v4b.cell? ⟨bd, 0, none⟩ = some (.slice A4 n4 c4) := HBd.out.cell 0
      have q1 : v4b.cell? ⟨bd, 1, none⟩ = some (.slice B4 m4 d4) := HBd.out.cell 1
      rw [hb] at q0 q1
      rw [hbb] at q0 q1
      clear hav hg hmx
      clear hb hxb hsb Bb hbb hx
      go_wp2_with fail
      rw [← Hwv4.out, ← Hbbd.out]
      clear q0 q1
      have HC := Lib.hid (av_join (c := c4) (d := d4) HAv4.out HMs.out (HMz.out.grow HG4.out) (by rw [HSq.out]; exact HS.out) (by rw [HSq.out]; have := HL2.out; omega) (by rw [HSq.out]; have := HF4.out; have := HL2.out; omega) _ (Ext.refl _))
      rw [HSq.out] at HC
      unfold MadeV at HC
      refine HC.out.mono ?_
      rintro e v5 ⟨A5, n5, c5, B5, m5, d5, ns5, fs5, t, rfl, hav, hg, hmx, hx⟩
      obtain ⟨v5b, hb⟩ : ∃ wb, wb = v5.alloc (.cells #[.slice A5 n5 c5, .slice B5 m5 d5] 25) := ⟨_, rfl⟩
      obtain ⟨Bb, hxb, hsb⟩ := box_made hb
      have Xv5 := Lib.hid (Xv4.out.step (hx.step hxb))
      have HRow := Lib.hid (HRow.out.to (hx.step hxb))
      have HAv1 := Lib.hid (HAv1.out.to (hx.step hxb))
      have HBa := Lib.hid (HBa.out.to (hx.step hxb))
      have HAv2 := Lib.hid (HAv2.out.to (hx.step hxb))
      have HBb := Lib.hid (HBb.out.to (hx.step hxb))
      have HAv3 := Lib.hid (HAv3.out.to (hx.step hxb))
      have HBc := Lib.hid (HBc.out.to (hx.step hxb))
      have HAv4 := Lib.hid (HAv4.out.to (hx.step hxb))
      have HBd := Lib.hid (HBd.out.to (hx.step hxb))
      have HAv5 := Lib.hid (hav.to hxb)
      have HG5 := Lib.hid (hg)
      have HMt := Lib.hid (hmx)
      have HBq := Lib.hid Bb
      have Hwv5 := Lib.hid hb
      obtain ⟨bq, hbb⟩ : ∃ b, b = v5.heap.size := ⟨_, rfl⟩
      have Hbbq := Lib.hid hbb
      rw [← hbb] at HBq
      clear hav hg hmx
      clear hb hxb hsb Bb hbb hx
      have HMr5 := Lib.hid ((((HMr.out.grow HG2.out).grow HG3.out).grow HG4.out).grow HG5.out)
      have hjr := HRow.out.len
      have hjr16 : jr ≤ 16 := by have := HL2.out; omega
      have HJ2 := Lib.hid hjr
      clear hjr
      go_wp2_with fail
      rw [← Hwv5.out, ← Hbbq.out]
      go_loopw [26, 98, 28] (fun wv j _ wr => Hid (Ext v5b wr) ∧ ∃ k : Nat, k ≤ jr ∧ j = .int .i64 k ∧ Hid (RowX wr v5b.heap.size [] 60 2 wv (lo (ge (row.take k) LO) HI).length (flat itc (lo (ge (row.take k) LO) HI)))) (fun _ j _ _ => jr - (intOf j).toNat)
      case atStart => exact ⟨Lib.hid (Ext.refl _), 0, Nat.zero_le _, rfl, Lib.hid (RowX.nil0 _ _ _ _ _)⟩
      case round =>
        obtain ⟨hy, k, hk, rfl, hO⟩ := hrel
        rename World => u4
        by_cases hlt : k < jr
        · obtain ⟨x1, hxk⟩ : ∃ x, row[k]? = some x := ⟨_, List.getElem?_eq_getElem (by have := HJ2.out; omega)⟩
          obtain ⟨adR, hadR, hit⟩ := RdI.item (HRow.out.to hy.out).rdi hxk
          subst hadR
          obtain ⟨x1, x2⟩ := x1
          obtain ⟨c0, c1⟩ := hit
          have HE0 := Lib.hid (mid_snoc (p := LO) (q := HI) hxk)
          obtain ⟨u5, hu5⟩ : ∃ u5, u5 = u4.alloc (.cells #[.int .i64 x1, .int .i64 x2] 60) := ⟨_, rfl⟩
          obtain ⟨B5', hx5, hs5⟩ := box_made hu5
          have H5 := Lib.hid hu5
          have Y5 := Lib.hid (hy.out.step hx5)
          have HS5 := Lib.hid hs5
          obtain ⟨oo, hoo⟩ : ∃ oo, oo = lo (ge (row.take k) LO) HI := ⟨_, rfl⟩
          rw [← hoo] at HE0 hO
          have hlo1 : oo.length ≤ k := by
            rw [hoo]
            refine Nat.le_trans (List.length_filter_le _ _) (Nat.le_trans (List.length_filter_le _ _) ?_)
            rw [List.length_take]; omega
          obtain ⟨mm, hmm⟩ : ∃ mm, mm = oo.length := ⟨_, rfl⟩
          have HM := Lib.hid hmm
          rw [← hmm] at hO hlo1
          have HO5 := Lib.hid (hO.out.to hx5)
          have hkn' : ¬ jr ≤ k := by omega
          simp only at c0 c1
          clear hxk hu5 B5' hx5 hs5 hO hoo hmm
          by_cases hp : LO ≤ x1 ∧ x1 < HI
          · obtain ⟨hp1, hp2⟩ := hp
            have HE := Lib.hid (show lo (ge (row.take (k + 1)) LO) HI = oo ++ [(x1, x2)] by rw [HE0.out]; simp [hp1, hp2])
            obtain ⟨u6, hu6⟩ : ∃ u6, u6 = u5.alloc (.cells #[.int .i64 x1, .int .i64 x2] 60) := ⟨_, rfl⟩
            obtain ⟨B_, hx_, hs_⟩ := box_made hu6
            have H6 := Lib.hid hu6
            have HRw6 := Lib.hid (show RdI u6 (some ⟨u4.heap.size + 1, 0, none⟩) 1 [(x1, x2)] by rw [hu6, ← HS5.out]; exact Rd.lit u5 #[.int .i64 x1, .int .i64 x2] 60 1 rfl)
            have HOw6 := Lib.hid (HO5.out.to hx_)
            have Yw6 := Lib.hid (Y5.out.step hx_)
            have hbw6 := Lib.hid (show v5b.heap.size ≤ u6.heap.size from Yw6.out.size)
            clear hu6 hs_ B_ hx_
            go_wp2_with (first
              | (at_builtin
                 rw [← H5.out, ← H6.out]
                 refine wpList_append_x _ rfl (.tmp 112) (.tmp 114) _ rfl 60 i0 _ 2 16 Try.underlying31 hi0 hz0 hz1 hz2 rfl (by omega) v5b.heap.size [] _ mm (flat itc oo) rfl HOw6.out (some ⟨u4.heap.size + 1, 0, none⟩) 1 1 (flat itc [(x1, x2)]) rfl HRw6.out (flat_one itc_one _) (by simp only [maxLen]; omega) (by omega) hbw6.out (fun b hb => by cases hb) ?_
                 intro A7 c7 w7 hr7 ap7
                 have HX7 := Lib.hid (ap7.old v5b Yw6.out (Nat.le_refl _))
                 have HR7 := Lib.hid (show RowX w7 v5b.heap.size [] 60 2 (.slice A7 (mm + 1 : Nat) c7) (lo (ge (row.take (k + 1)) LO) HI).length (flat itc (lo (ge (row.take (k + 1)) LO) HI)) by
                   rw [HE.out, List.length_append, ← HM.out, ← flat_append]
                   exact hr7)
                 clear hr7 ap7))
            go_roundw
            case rel => exact ⟨HX7, k + 1, by omega, by go_num, HR7⟩
            case measure => simp [intOf]; omega
          · have HE := Lib.hid (show lo (ge (row.take (k + 1)) LO) HI = oo by rw [HE0.out, if_neg hp]; simp)
            have HR7 := Lib.hid (show RowX u5 v5b.heap.size [] 60 2 _ (lo (ge (row.take (k + 1)) LO) HI).length (flat itc (lo (ge (row.take (k + 1)) LO) HI)) by
              rw [HE.out, ← HM.out]
              exact HO5.out)
            rcases (by omega : x1 < LO ∨ (LO ≤ x1 ∧ HI ≤ x1)) with hp1 | ⟨hp1, hp2⟩
            · have hp1' : ¬ LO ≤ x1 := by omega
              clear hp
              go_wp2_with fail
              try rw [← H5.out]
              go_roundw
              case rel => exact ⟨by first | exact Y5 | (rw [← H5.out]; exact Y5), k + 1, by omega, by go_num, by first | exact HR7 | (rw [← H5.out]; exact HR7)⟩
              case measure => simp [intOf]; omega
            · have hp2' : ¬ x1 < HI := by omega
              clear hp
              go_wp2_with fail
              try rw [← H5.out]
              go_roundw
              case rel => exact ⟨by first | exact Y5 | (rw [← H5.out]; exact Y5), k + 1, by omega, by go_num, by first | exact HR7 | (rw [← H5.out]; exact HR7)⟩
              case measure => simp [intOf]; omega
        · have hkj : k = jr := by omega
          subst hkj
          obtain ⟨AW, cW, hsw, hw1, hw2⟩ := RowX.slice hO.out
          subst hsw
          have HW := Lib.hid (show RdR u4 (.slice AW (lo (ge (row.take k) LO) HI).length cW) (lo (ge row LO) HI) by
            have h3 := RowX.rd hO.out
            have he : row.take k = row := List.take_of_length_le (by have := HJ2.out; omega)
            rw [he] at h3 hw1 ⊢
            exact ⟨AW, cW, rfl, h3, hw1, hw2⟩)
          generalize (lo (ge (row.take k) LO) HI).length = jw at HW ⊢
          have hlt' : ¬ k < k := by omega
          have I1 := Lib.hid (fun W (hW : Ext u4 W) => av_is (c := c3) (d := d3) (HAv3.out.to hy.out) HMm.out HW.out W hW)
          have I2 := Lib.hid (fun W (hW : Ext u4 W) => av_is (c := c5) (d := d5) (HAv5.out.to hy.out) HMt.out (HRow.out.to hy.out) W hW)
          have I3 := Lib.hid (fun W (hW : Ext u4 W) => av_is (c := c5) (d := d5) (HAv5.out.to hy.out) HMr5.out (HRow.out.to hy.out) W hW)
          have HBc4 := Lib.hid (HBc.out.to hy.out)
          have HBq4 := Lib.hid (HBq.out.to hy.out)
          clear hO hw1 hw2
          go_wp2_with fail
          refine (HAl.out _).mono ?_
          rintro e y1 ⟨rfl, hx1⟩
          have Y1 := Lib.hid hx1
          have k0 : y1.cell? ⟨bc, 0, none⟩ = some (.slice A3 n3 c3) := (HBc4.out.to hx1).cell 0
          have k1 : y1.cell? ⟨bc, 1, none⟩ = some (.slice B3 m3 d3) := (HBc4.out.to hx1).cell 1
          clear hx1
          go_wp2_with fail
          refine (I1.out _ Y1.out).mono ?_
          rintro e y2 ⟨rfl, hx2⟩
          have Y2 := Lib.hid (Y1.out.step hx2)
          have k0 : y2.cell? ⟨bq, 0, none⟩ = some (.slice A5 n5 c5) := (HBq4.out.to Y2.out).cell 0
          have k1 : y2.cell? ⟨bq, 1, none⟩ = some (.slice B5 m5 d5) := (HBq4.out.to Y2.out).cell 1
          clear hx2
          go_wp2_with fail
          refine (I2.out _ Y2.out).mono ?_
          rintro e y3 ⟨rfl, hx3⟩
          have Y3 := Lib.hid (Y2.out.step hx3)
          have k0 : y3.cell? ⟨bq, 0, none⟩ = some (.slice A5 n5 c5) := (HBq4.out.to Y3.out).cell 0
          have k1 : y3.cell? ⟨bq, 1, none⟩ = some (.slice B5 m5 d5) := (HBq4.out.to Y3.out).cell 1
          clear hx3
          go_wp2_with fail
          refine (I3.out _ Y3.out).mono ?_
          rintro e y4 ⟨rfl, hx4⟩
          have Y4 := Lib.hid (Xv5.out.step (hy.out.step (Y3.out.step hx4)))
          clear hx4 k0 k1
          go_wp2_with fail
          go_ret
          exact ⟨rfl, Y4.out⟩

theorem TreapJoins_walk (w : World) (A : Option Addr) (n c : Nat) (zs : List Int) (h : Rd w 1 A n (Ks .i64 zs)) (hn : n ≤ c) (hc : c ≤ maxLen) (_ : ∀ z ∈ zs, (Lit.int .i64 z).wf = true) (low : Int) (_ : (Lit.int .i64 low).wf = true) (high : Int) (_ : (Lit.int .i64 high).wf = true) :
    Calls Try.prog 6 #[.slice A n c, .int .i64 low, .int .i64 high] w fun e w' => e = .returned (.bool true) ∧ Ext w w' :=
  joins_m A n c zs low high w h hn hc

end Go.Proofs.Ytjiehlhnocgneaa
