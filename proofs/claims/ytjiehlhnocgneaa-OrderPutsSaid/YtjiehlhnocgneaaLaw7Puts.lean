/-
  The walk of OrderPuts.
-/
import Derived.Test.YtjiehlhnocgneaaOrV
set_option linter.unusedVariables false
set_option linter.unusedSimpArgs false
namespace Go.Proofs.Ytjiehlhnocgneaa
open Go.RowKit

set_option maxHeartbeats 25600000 in
set_option maxRecDepth 100000 in
theorem oputs_m (A : Option Addr) (n c : Nat) (zs : List Int) (key other : Int) (w : World) (h : Rd w 1 A n (Ks .i64 zs)) (hnc : n ≤ c) (hc : c ≤ maxLen) :
    Calls Try.prog 10 #[.slice A n c, .int .i64 key, .int .i64 other] w fun e w' => e = .returned (.bool true) ∧ Ext w w' := by
  have HAl := Lib.hid (fun W => alive7_is W)
  obtain ⟨K, hK⟩ : ∃ K, (wrap64 (key.tmod 60 + 60)).tmod 60 = K := ⟨_, rfl⟩
  have HK := Lib.hid hK
  clear hK
  have HH := Lib.hid h
  have hlen := h.1
  have HL := Lib.hid (show zs.length = n by simpa [Ks] using hlen)
  have hBn : n = 0 ∨ ∃ ad, A = some ad := by
    rcases Nat.eq_zero_or_pos n with h' | h'
    · exact .inl h'
    · exact .inr (HH.out.some_ h' (by omega))
  have hA : A = none → n = 0 := fun e => by
    rcases hBn with h' | ⟨ad, h'⟩
    · exact h'
    · rw [e] at h'; cases h'
  simp only [maxLen] at hc
  clear h hlen
  go_enter Try.func10, Try.ntmps10
  go_wp2_with fail
  go_loopw [7, 25, 8, 9] (fun rv j _ _ wr => Hid (Ext w wr) ∧ ∃ k : Nat, k ≤ n ∧ j = .int .i64 k ∧ Hid (∃ row, RdR wr rv row ∧ Srt row ∧ row.length ≤ k ∧ row.length ≤ 20)) (fun _ j _ _ _ => n - (intOf j).toNat)
  case atStart => exact ⟨Lib.hid (Ext.refl _), 0, Nat.zero_le _, rfl, Lib.hid ⟨[], RdR.nil0 _, by simp [Srt], by simp, by simp⟩⟩
  case round =>
    obtain ⟨hx, k, hk, rfl, hR⟩ := hrel
    rename World => w4
    obtain ⟨row, hr, hs, hl1, hl2⟩ := hR.out
    obtain ⟨AR, jr, cR, hv, hrow, hjr⟩ := hr.sl
    subst hv
    have HS := Lib.hid hs
    have HRow := Lib.hid hrow
    have HL1 := Lib.hid hl1
    have HL2 := Lib.hid hl2
    have HJr := Lib.hid hjr
    clear hr hs hl1 hl2 hR hrow hjr
    by_cases hlt : k < n
    · obtain ⟨ad, rfl⟩ : ∃ ad, A = some ad := by
        rcases hBn with h' | h'
        · omega
        · exact h'
      obtain ⟨z1, hz1⟩ : ∃ z, zs[k]? = some z := ⟨_, List.getElem?_eq_getElem (by have := HL.out; omega)⟩
      have c0 : w4.cell? (ad.add k) = some (.int .i64 z1) := (HH.out.to hx.out).cells k _ (by simp [Ks, hz1])
      have hnk : ¬ n ≤ k := by omega
      clear hz1
      by_cases hk2 : k < 20
      · have HP := Lib.hid (rdr_put HRow.out (by have := HL2.out; omega) HS.out)
        go_wp2_with fail
        refine (HP.out _ _ _ (Ext.refl _)).mono ?_
        rintro e w5 ⟨A5, j5, c5, rfl, hr5, hx5⟩
        have HR5 := Lib.hid (show ∃ row', RdR w5 (.slice A5 j5 c5) row' ∧ Srt row' ∧ row'.length ≤ k + 1 ∧ row'.length ≤ 20 from ⟨_, hr5, HS.out.putR _ _, Nat.le_trans (putR_len1 HS.out) (by have := HL1.out; omega), Nat.le_trans (putR_len1 HS.out) (by have := HL1.out; omega)⟩)
        have X5 := Lib.hid (hx.out.step hx5)
        clear hr5 hx5 c0 HP
        go_wp2_with fail
        go_roundw
        case rel => exact ⟨X5, k + 1, by omega, by go_num, HR5⟩
        case measure => simp [intOf]; omega
      · have HR5 := Lib.hid (show ∃ row', RdR w4 (.slice AR jr cR) row' ∧ Srt row' ∧ row'.length ≤ k + 1 ∧ row'.length ≤ 20 from ⟨row, HRow.out, HS.out, by have := HL1.out; omega, HL2.out⟩)
        go_wp2_with fail
        go_roundw
        case rel => exact ⟨hx, k + 1, by omega, by go_num, HR5⟩
        case measure => simp [intOf]; omega
    · have hge : n ≤ k := by omega
      clear hlt
      have HB := Lib.hid (av_build HRow.out HS.out 300 (by omega) (by omega) (by have := HL2.out; omega) (by have := HL2.out; omega) w4 (Ext.refl _))
      rw [show ((300 : Nat) : Int) = 300 from rfl] at HB
      unfold BuildV at HB
      have HX4 := hx
      have hK := HK.out
      go_wp2_with fail
      clear hK
      refine HB.out.mono ?_
      rintro e v1 ⟨A1, n1, c1, B1, m1, d1, ns1, fs1, r, rfl, hav, hmp, hfr, hx⟩
      obtain ⟨v1b, hb⟩ : ∃ wb, wb = v1.alloc (.cells #[.slice A1 n1 c1, .slice B1 m1 d1] 25) := ⟨_, rfl⟩
      obtain ⟨Bb, hxb, hsb⟩ := box_made hb
      have Xv1 := Lib.hid (HX4.out.step (hx.step hxb))
      have HRow := Lib.hid (HRow.out.to (hx.step hxb))
      have HAv1 := Lib.hid (hav.to hxb)
      have HMr := Lib.hid (hmp)
      have HBa := Lib.hid Bb
      have Hwv1 := Lib.hid hb
      obtain ⟨ba, hbb⟩ : ∃ b, b = v1.heap.size := ⟨_, rfl⟩
      have Hbba := Lib.hid hbb
      rw [← hbb] at HBa
      clear hav hmp hfr
      clear hb hxb hsb Bb hbb hx
      go_wp2_with fail
      rw [← Hwv1.out, ← Hbba.out]
      have HC := Lib.hid (rdr_put HRow.out (by have := HL2.out; omega) HS.out K 1 _ (Ext.refl _))
      unfold RowS at HC
      refine HC.out.mono ?_
      rintro e v2 ⟨AQ, jq, cQ, rfl, hrq, hx⟩
      have Xv2 := Lib.hid (Xv1.out.step hx)
      have HRow := Lib.hid (HRow.out.to hx)
      have HAv1 := Lib.hid (HAv1.out.to hx)
      have HBa := Lib.hid (HBa.out.to hx)
      have HRq := Lib.hid (hrq.to (Ext.refl _))
      clear hrq
      clear hx
      go_wp2_with fail
      have HLq := Lib.hid (show (putR row K 1).length ≤ 21 from Nat.le_trans (putR_len1 HS.out) (by have := HL2.out; omega))
      have HC := Lib.hid (av_build HRq.out (HS.out.putR K 1) 300 (by omega) (by omega) (by have := HLq.out; omega) (by have := HLq.out; omega) _ (Ext.refl _))
      rw [show ((300 : Nat) : Int) = 300 from rfl] at HC
      unfold BuildV at HC
      refine HC.out.mono ?_
      rintro e v3 ⟨A2, n2, c2, B2, m2, d2, ns2, fs2, s, rfl, hav, hmp, hfr, hx⟩
      obtain ⟨v3b, hb⟩ : ∃ wb, wb = v3.alloc (.cells #[.slice A2 n2 c2, .slice B2 m2 d2] 25) := ⟨_, rfl⟩
      obtain ⟨Bb, hxb, hsb⟩ := box_made hb
      have Xv3 := Lib.hid (Xv2.out.step (hx.step hxb))
      have HRow := Lib.hid (HRow.out.to (hx.step hxb))
      have HAv1 := Lib.hid (HAv1.out.to (hx.step hxb))
      have HBa := Lib.hid (HBa.out.to (hx.step hxb))
      have HRq := Lib.hid (HRq.out.to (hx.step hxb))
      have HAv2 := Lib.hid (hav.to hxb)
      have HMs := Lib.hid (hmp)
      have HBb := Lib.hid Bb
      have Hwv3 := Lib.hid hb
      obtain ⟨bb, hbb⟩ : ∃ b, b = v3.heap.size := ⟨_, rfl⟩
      have Hbbb := Lib.hid hbb
      rw [← hbb] at HBb
      have q0 : v3b.cell? ⟨ba, 0, none⟩ = some (.slice A1 n1 c1) := HBa.out.cell 0
      have q1 : v3b.cell? ⟨ba, 1, none⟩ = some (.slice B1 m1 d1) := HBa.out.cell 1
      rw [hb] at q0 q1
      clear hav hmp hfr
      clear hb hxb hsb Bb hbb hx
      go_wp2_with fail
      rw [← Hwv3.out, ← Hbbb.out]
      clear q0 q1
      obtain ⟨R1, hR1⟩ : ∃ q, q = (lo row other).length := ⟨_, rfl⟩
      have HR1 := Lib.hid hR1
      have HC := Lib.hid (av_rank (c := c1) (d := d1) HAv1.out HMr.out other _ (Ext.refl _))
      rw [← hR1] at HC
      unfold IntE at HC
      clear hR1
      refine HC.out.mono ?_
      rintro e v4 ⟨rfl, hx⟩
      have Xv4 := Lib.hid (Xv3.out.step hx)
      have HRow := Lib.hid (HRow.out.to hx)
      have HAv1 := Lib.hid (HAv1.out.to hx)
      have HBa := Lib.hid (HBa.out.to hx)
      have HRq := Lib.hid (HRq.out.to hx)
      have HAv2 := Lib.hid (HAv2.out.to hx)
      have HBb := Lib.hid (HBb.out.to hx)
      have q0 : v4.cell? ⟨bb, 0, none⟩ = some (.slice A2 n2 c2) := HBb.out.cell 0
      have q1 : v4.cell? ⟨bb, 1, none⟩ = some (.slice B2 m2 d2) := HBb.out.cell 1
      clear hx
      go_wp2_with fail
      clear q0 q1
      obtain ⟨R2, hR2⟩ : ∃ q, q = (lo (putR row K 1) other).length := ⟨_, rfl⟩
      have HR2 := Lib.hid hR2
      have HC := Lib.hid (av_rank (c := c2) (d := d2) HAv2.out HMs.out other _ (Ext.refl _))
      rw [← hR2] at HC
      unfold IntE at HC
      clear hR2
      refine HC.out.mono ?_
      rintro e v5 ⟨rfl, hx⟩
      have Xv5 := Lib.hid (Xv4.out.step hx)
      have HRow := Lib.hid (HRow.out.to hx)
      have HAv1 := Lib.hid (HAv1.out.to hx)
      have HBa := Lib.hid (HBa.out.to hx)
      have HRq := Lib.hid (HRq.out.to hx)
      have HAv2 := Lib.hid (HAv2.out.to hx)
      have HBb := Lib.hid (HBb.out.to hx)
      have q0 : v5.cell? ⟨ba, 0, none⟩ = some (.slice A1 n1 c1) := HBa.out.cell 0
      have q1 : v5.cell? ⟨ba, 1, none⟩ = some (.slice B1 m1 d1) := HBa.out.cell 1
      clear hx
      go_wp2_with fail
      clear q0 q1
      obtain ⟨N1, hN1⟩ : ∃ q, q = row.length := ⟨_, rfl⟩
      have HN1 := Lib.hid hN1
      have HC := Lib.hid (av_size (c := c1) (d := d1) HAv1.out HMr.out _ (Ext.refl _))
      rw [← hN1] at HC
      unfold IntE at HC
      clear hN1
      refine HC.out.mono ?_
      rintro e v6 ⟨rfl, hx⟩
      have Xv6 := Lib.hid (Xv5.out.step hx)
      have HRow := Lib.hid (HRow.out.to hx)
      have HAv1 := Lib.hid (HAv1.out.to hx)
      have HBa := Lib.hid (HBa.out.to hx)
      have HRq := Lib.hid (HRq.out.to hx)
      have HAv2 := Lib.hid (HAv2.out.to hx)
      have HBb := Lib.hid (HBb.out.to hx)
      have q0 : v6.cell? ⟨bb, 0, none⟩ = some (.slice A2 n2 c2) := HBb.out.cell 0
      have q1 : v6.cell? ⟨bb, 1, none⟩ = some (.slice B2 m2 d2) := HBb.out.cell 1
      clear hx
      go_wp2_with fail
      clear q0 q1
      obtain ⟨N2, hN2⟩ : ∃ q, q = (putR row K 1).length := ⟨_, rfl⟩
      have HN2 := Lib.hid hN2
      have HC := Lib.hid (av_size (c := c2) (d := d2) HAv2.out HMs.out _ (Ext.refl _))
      rw [← hN2] at HC
      unfold IntE at HC
      clear hN2
      refine HC.out.mono ?_
      rintro e v7 ⟨rfl, hx⟩
      have Xv7 := Lib.hid (Xv6.out.step hx)
      have HRow := Lib.hid (HRow.out.to hx)
      have HAv1 := Lib.hid (HAv1.out.to hx)
      have HBa := Lib.hid (HBa.out.to hx)
      have HRq := Lib.hid (HRq.out.to hx)
      have HAv2 := Lib.hid (HAv2.out.to hx)
      have HBb := Lib.hid (HBb.out.to hx)
      clear hx
      go_wp2_with fail
      have HC := Lib.hid (rdr_at HRow.out (by have := HL2.out; omega) K _ (Ext.refl _))
      have HLP := Lib.hid (lo_put HS.out K 1 other)
      rw [← HR1.out, ← HR2.out, ← HN1.out, ← HN2.out] at HLP
      have hN1 : N1 ≤ 20 := by have := HN1.out; have := HL2.out; omega
      have hR1 : R1 ≤ N1 := by rw [HR1.out, HN1.out]; exact List.length_filter_le _ _
      unfold AtA at HC
      refine HC.out.mono ?_
      rintro e v8 ⟨hat, hx⟩
      have Xva := Lib.hid (Xv7.out.step hx)
      clear hx
      rcases hat with ⟨hno, rfl⟩ | ⟨jj, vv, hjj, rfl⟩
      · rcases HLP.out with ⟨hk, _⟩ | ⟨_, hn, ⟨ho, hr⟩ | ⟨ho, hr⟩⟩
        · exact absurd hk hno
        · subst hn hr
          have ho' : K < other := ho
          have e1 : IntKind.i64.wrap ((R1 : Int) + 1) = ((R1 + 1 : Nat) : Int) := by rw [IntKind.wrap_i64]; omega
          have e2 : IntKind.i64.wrap ((N1 : Int) + 1) = ((N1 + 1 : Nat) : Int) := by rw [IntKind.wrap_i64]; omega
          clear hno
          go_wp2_with fail
          refine (HAl.out _).mono ?_
          rintro e y1 ⟨rfl, hx1⟩
          have Y1 := Lib.hid (Xva.out.step hx1)
          clear hx1
          go_wp2_with fail
          go_ret
          exact ⟨rfl, Y1.out⟩
        · subst hn hr
          have ho' : ¬ K < other := by omega
          have e2 : IntKind.i64.wrap ((N1 : Int) + 1) = ((N1 + 1 : Nat) : Int) := by rw [IntKind.wrap_i64]; omega
          clear hno
          go_wp2_with fail
          refine (HAl.out _).mono ?_
          rintro e y1 ⟨rfl, hx1⟩
          have Y1 := Lib.hid (Xva.out.step hx1)
          clear hx1
          go_wp2_with fail
          go_ret
          exact ⟨rfl, Y1.out⟩
      · rcases HLP.out with ⟨hk, hn, hr⟩ | ⟨hno, _⟩
        · subst hn hr
          have e1 : IntKind.i64.wrap (R2 : Int) = (R2 : Int) := by rw [IntKind.wrap_i64]; omega
          have e2 : IntKind.i64.wrap (N2 : Int) = (N2 : Int) := by rw [IntKind.wrap_i64]; omega
          have hjn : ¬ ((jj : Int) < 0) := by omega
          clear hjj
          by_cases ho : K < other
          · go_wp2_with fail
            refine (HAl.out _).mono ?_
            rintro e y1 ⟨rfl, hx1⟩
            have Y1 := Lib.hid (Xva.out.step hx1)
            clear hx1
            go_wp2_with fail
            go_ret
            exact ⟨rfl, Y1.out⟩
          · go_wp2_with fail
            refine (HAl.out _).mono ?_
            rintro e y1 ⟨rfl, hx1⟩
            have Y1 := Lib.hid (Xva.out.step hx1)
            clear hx1
            go_wp2_with fail
            go_ret
            exact ⟨rfl, Y1.out⟩
        · exact absurd ⟨vv, List.mem_of_getElem? hjj⟩ hno

theorem OrderPuts_walk (w : World) (A : Option Addr) (n c : Nat) (zs : List Int) (h : Rd w 1 A n (Ks .i64 zs)) (hn : n ≤ c) (hc : c ≤ maxLen) (_ : ∀ z ∈ zs, (Lit.int .i64 z).wf = true) (key : Int) (_ : (Lit.int .i64 key).wf = true) (other : Int) (_ : (Lit.int .i64 other).wf = true) :
    Calls Try.prog 10 #[.slice A n c, .int .i64 key, .int .i64 other] w fun e w' => e = .returned (.bool true) ∧ Ext w w' :=
  oputs_m A n c zs key other w h hn hc

end Go.Proofs.Ytjiehlhnocgneaa
