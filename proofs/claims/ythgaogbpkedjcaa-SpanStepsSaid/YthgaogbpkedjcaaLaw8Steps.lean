/-
  The walk of SpanSteps.
-/
import Derived.Test.YthgaogbpkedjcaaSpLaw
set_option linter.unusedVariables false
set_option linter.unusedSimpArgs false
namespace Go.Proofs.Ythgaogbpkedjcaa
open Go.RowKit

theorem it_eql (a b c d : Int) (w : World) : (binOp .eql 40 (.agg #[.int .i64 a, .int .i64 b]) (.agg #[.int .i64 c, .int .i64 d])).run Try.prog w = .ok (.bool (decide (a = c ∧ b = d))) w := by
  have h := it_eq a b c d w
  simp only [binOp]
  simp [Op.equal, Op.maxDepth, h]

set_option maxHeartbeats 25600000 in
set_option maxRecDepth 100000 in
theorem ssteps_m (A : Option Addr) (n c : Nat) (zs : List Int) (low high : Int) (w : World) (h : Rd w 1 A n (Ks .i64 zs)) (hnc : n ≤ c) (hc : c ≤ maxLen) (hlw : -9223372036854775808 ≤ low) (hhg : high ≤ 9223372036854775807) :
    Calls Try.prog 7 #[.slice A n c, .int .i64 low, .int .i64 high] w fun e w' => e = .returned (.bool true) ∧ Ext w w' := by
  have HAl := Lib.hid (fun W => alive8_is W)
  have HLow := Lib.hid hlw
  have HHigh := Lib.hid hhg
  clear hlw hhg
  have HH := Lib.hid h
  have hlen := h.1
  have HL := Lib.hid (show zs.length = n by simpa [Ks] using hlen)
  have hBn : n = 0 ∨ ∃ ad, A = some ad := by
    rcases Nat.eq_zero_or_pos n with h' | h'
    · exact .inl h'
    · exact .inr (HH.out.some_ h' (by omega))
  have hA : A = none → n = 0 := fun e => by
    rcases hBn with h' | ⟨ad, h'⟩
    · exact h'
    · rw [e] at h'; cases h'
  simp only [maxLen] at hc
  clear h hlen
  go_enter Try.func7, Try.ntmps7
  go_wp2_with fail
  go_loopw [7, 21, 8, 9] (fun rv j _ _ wr => Hid (Ext w wr) ∧ ∃ k : Nat, k ≤ n ∧ j = .int .i64 k ∧ Hid (∃ row, RdR wr rv row ∧ Srt row ∧ row.length ≤ k ∧ row.length ≤ 20)) (fun _ j _ _ _ => n - (intOf j).toNat)
  case atStart => exact ⟨Lib.hid (Ext.refl _), 0, Nat.zero_le _, rfl, Lib.hid ⟨[], RdR.nil0 _, by simp [Srt], by simp, by simp⟩⟩
  case round =>
    obtain ⟨hx, k, hk, rfl, hR⟩ := hrel
    rename World => w4
    obtain ⟨row, hr, hs, hl1, hl2⟩ := hR.out
    obtain ⟨AR, jr, cR, hv, hrow, hjr⟩ := hr.sl
    subst hv
    have HS := Lib.hid hs
    have HRow := Lib.hid hrow
    have HL1 := Lib.hid hl1
    have HL2 := Lib.hid hl2
    have HJr := Lib.hid hjr
    clear hr hs hl1 hl2 hR hrow hjr
    by_cases hlt : k < n
    · obtain ⟨ad, rfl⟩ : ∃ ad, A = some ad := by
        rcases hBn with h' | h'
        · omega
        · exact h'
      obtain ⟨z1, hz1⟩ : ∃ z, zs[k]? = some z := ⟨_, List.getElem?_eq_getElem (by have := HL.out; omega)⟩
      have c0 : w4.cell? (ad.add k) = some (.int .i64 z1) := (HH.out.to hx.out).cells k _ (by simp [Ks, hz1])
      have hnk : ¬ n ≤ k := by omega
      clear hz1
      by_cases hk2 : k < 20
      · have HP := Lib.hid (rdr_put HRow.out (by have := HL2.out; omega) HS.out)
        go_wp2_with fail
        refine (HP.out _ _ _ (Ext.refl _)).mono ?_
        rintro e w5 ⟨A5, j5, c5, rfl, hr5, hx5⟩
        have HR5 := Lib.hid (show ∃ row', RdR w5 (.slice A5 j5 c5) row' ∧ Srt row' ∧ row'.length ≤ k + 1 ∧ row'.length ≤ 20 from ⟨_, hr5, HS.out.putR _ _, Nat.le_trans (putR_len1 HS.out) (by have := HL1.out; omega), Nat.le_trans (putR_len1 HS.out) (by have := HL1.out; omega)⟩)
        have X5 := Lib.hid (hx.out.step hx5)
        clear hr5 hx5 c0 HP
        go_wp2_with fail
        go_roundw
        case rel => exact ⟨X5, k + 1, by omega, by go_num, HR5⟩
        case measure => simp [intOf]; omega
      · have HR5 := Lib.hid (show ∃ row', RdR w4 (.slice AR jr cR) row' ∧ Srt row' ∧ row'.length ≤ k + 1 ∧ row'.length ≤ 20 from ⟨row, HRow.out, HS.out, by have := HL1.out; omega, HL2.out⟩)
        go_wp2_with fail
        go_roundw
        case rel => exact ⟨hx, k + 1, by omega, by go_num, HR5⟩
        case measure => simp [intOf]; omega
    · have hge : n ≤ k := by omega
      clear hlt
      have HJ2 := Lib.hid HRow.out.len
      have hj30 : jr ≤ 20 := by have := HJ2.out; have := HL2.out; omega
      obtain ⟨j1, hj1⟩ : ∃ j1, j1 = jr + 1 := ⟨_, rfl⟩
      have e1 : IntKind.i64.wrap ((jr : Int) + 1) = (j1 : Int) := by rw [IntKind.wrap_i64]; omega
      have HB := Lib.hid (av_build HRow.out HS.out j1 (by omega) (by omega) (by have := HJ2.out; omega) (by have := HL2.out; omega) w4 (Ext.refl _))
      unfold BuildV at HB
      have HX4 := hx
      clear hj1
      go_wp2_with fail
      clear e1
      refine HB.out.mono ?_
      rintro e v1 ⟨A1, n1, c1, B1, m1, d1, ns1, fs1, r, rfl, hav, hmp, hfr, hx⟩
      obtain ⟨v1b, hb⟩ : ∃ wb, wb = v1.alloc (.cells #[.slice A1 n1 c1, .slice B1 m1 d1] 25) := ⟨_, rfl⟩
      obtain ⟨Bb, hxb, hsb⟩ := box_made hb
      have Xv1 := Lib.hid (HX4.out.step (hx.step hxb))
      have HRow := Lib.hid (HRow.out.to (hx.step hxb))
      have HAv1 := Lib.hid (hav.to hxb)
      have HMr := Lib.hid (hmp)
      have HBx := Lib.hid Bb
      have Hwv1 := Lib.hid hb
      obtain ⟨bx, hbb⟩ : ∃ b, b = v1.heap.size := ⟨_, rfl⟩
      have Hbbx := Lib.hid hbb
      rw [← hbb] at HBx
      have q0 : v1b.cell? ⟨bx, 0, none⟩ = some (.slice A1 n1 c1) := HBx.out.cell 0
      have q1 : v1b.cell? ⟨bx, 1, none⟩ = some (.slice B1 m1 d1) := HBx.out.cell 1
      rw [hb] at q0 q1
      rw [hbb] at q0 q1
      clear hav hmp hfr
      clear hb hxb hsb Bb hbb hx
      go_wp2_with fail
      rw [← Hwv1.out, ← Hbbx.out]
      clear q0 q1
      have HC := Lib.hid (av_open (c := c1) (d := d1) HAv1.out HMr.out low high _ (Ext.refl _))
      unfold OpenA at HC
      refine HC.out.mono ?_
      rintro e v2 ⟨rfl, hx⟩
      obtain ⟨v2b, hb⟩ : ∃ wb, wb = v2.alloc (.cells #[.int .u64 r, .int .i64 low, .int .i64 high, .bool false] 29) := ⟨_, rfl⟩
      obtain ⟨Bb, hxb, hsb⟩ := box_made hb
      have Xv2 := Lib.hid (Xv1.out.step (hx.step hxb))
      have HRow := Lib.hid (HRow.out.to (hx.step hxb))
      have HAv1 := Lib.hid (HAv1.out.to (hx.step hxb))
      have HBx := Lib.hid (HBx.out.to (hx.step hxb))
      have HBo := Lib.hid Bb
      have Hwv2 := Lib.hid hb
      obtain ⟨bo, hbb⟩ : ∃ b, b = v2.heap.size := ⟨_, rfl⟩
      have Hbbo := Lib.hid hbb
      rw [← hbb] at HBo
      have q0 : v2b.cell? ⟨bx, 0, none⟩ = some (.slice A1 n1 c1) := HBx.out.cell 0
      have q1 : v2b.cell? ⟨bx, 1, none⟩ = some (.slice B1 m1 d1) := HBx.out.cell 1
      have q2 : v2b.cell? ⟨bo, 0, none⟩ = some (.int .u64 r) := HBo.out.cell 0
      have q3 : v2b.cell? ⟨bo, 1, none⟩ = some (.int .i64 low) := HBo.out.cell 1
      have q4 : v2b.cell? ⟨bo, 2, none⟩ = some (.int .i64 high) := HBo.out.cell 2
      have q5 : v2b.cell? ⟨bo, 3, none⟩ = some (.bool false) := HBo.out.cell 3
      rw [hb] at q0 q1 q2 q3 q4 q5
      rw [hbb] at q2 q3 q4 q5
      clear hb hxb hsb Bb hbb hx
      go_wp2_with fail
      rw [← Hwv2.out, ← Hbbo.out]
      clear q0 q1 q2 q3 q4 q5
      have HC := Lib.hid (av_step (c := c1) (d := d1) HAv1.out HMr.out low high HLow.out HHigh.out _ (Ext.refl _))
      refine HC.out.mono ?_
      rintro e v3 hstep
      obtain ⟨a2, q2, x, y, ⟨rfl, hx⟩, hN⟩ := step_any HS.out hstep
      have HNx := Lib.hid hN
      obtain ⟨v3a, ha⟩ : ∃ v, v = v3.alloc (.cells #[.int .u64 r, .int .i64 a2, .int .i64 high, .bool q2] 29) := ⟨_, rfl⟩
      obtain ⟨v3b, hb⟩ : ∃ v, v = v3a.alloc (.cells #[.int .i64 x, .int .i64 y] 40) := ⟨_, rfl⟩
      obtain ⟨Ba, hxa, hsa⟩ := box_made ha
      obtain ⟨Bb, hxb, hsb⟩ := box_made hb
      have hx3 := hx.step (hxa.step hxb)
      have Xv3 := Lib.hid (Xv2.out.step hx3)
      have HRow3 := Lib.hid (HRow.out.to hx3)
      have HBx3 := Lib.hid (HBx.out.to hx3)
      have HAv3 := Lib.hid (HAv1.out.to hx3)
      obtain ⟨bd, hbd⟩ : ∃ b, b = v3.heap.size := ⟨_, rfl⟩
      obtain ⟨bi, hbi⟩ : ∃ b, b = v3.heap.size + 1 := ⟨_, rfl⟩
      have HBd := Lib.hid (show Bx v3b bd #[.int .u64 r, .int .i64 a2, .int .i64 high, .bool q2] by rw [hbd]; exact Ba.to hxb)
      have HBi := Lib.hid (show Bx v3b bi #[.int .i64 x, .int .i64 y] by rw [hbi, ← hsa]; exact Bb)
      have q0 : v3b.cell? ⟨bx, 0, none⟩ = some (.slice A1 n1 c1) := HBx3.out.cell 0
      have q1 : v3b.cell? ⟨bx, 1, none⟩ = some (.slice B1 m1 d1) := HBx3.out.cell 1
      rw [hb, ha] at q0 q1
      have Ha := Lib.hid ha
      have Hb := Lib.hid hb
      have Hbd := Lib.hid hbd
      have Hbi := Lib.hid hbi
      clear ha hb hxa hxb hsa hsb Ba Bb hx hx3 hbd hbi hstep hN
      go_wp2_with fail
      rw [← Ha.out, ← Hb.out, ← Hbi.out, ← Hbd.out]
      clear q0 q1
      have HC := Lib.hid (av_all (c := c1) (d := d1) HAv3.out HMr.out low high _ (Ext.refl _))
      unfold AllA at HC
      refine HC.out.mono ?_
      rintro e v4 ⟨AA, ja, ca, rfl, hrr, hx⟩
      have Xv4 := Lib.hid (Xv3.out.step hx)
      have HBd4 := Lib.hid (HBd.out.to hx)
      have HBi4 := Lib.hid (HBi.out.to hx)
      have HRA := Lib.hid hrr
      clear hx hrr HC
      go_wp2_with fail
      refine (HAl.out _).mono ?_
      rintro e v5 ⟨rfl, hx⟩
      have Xv5 := Lib.hid (Xv4.out.step hx)
      have HBd5 := Lib.hid (HBd4.out.to hx)
      have HBi5 := Lib.hid (HBi4.out.to hx)
      have HRA5 := Lib.hid (HRA.out.to hx)
      clear hx
      have u0 : v5.cell? ⟨bd, 3, none⟩ = some (.bool q2) := HBd5.out.cell 3
      have u1 : v5.cell? ⟨bd, 1, none⟩ = some (.int .i64 a2) := HBd5.out.cell 1
      have u2 : v5.cell? ⟨bi, 0, none⟩ = some (.int .i64 x) := HBi5.out.cell 0
      have u3 : v5.cell? ⟨bi, 1, none⟩ = some (.int .i64 y) := HBi5.out.cell 1
      have heq := it_eql
      have HJa := Lib.hid HRA5.out.len
      rcases HNx.out with ⟨hin, rfl, rfl, rfl⟩ | ⟨rest, hin, hq⟩
      · have hja : ja = 0 := by rw [HJa.out, hin]; rfl
        subst hja
        clear hin HNx
        go_wp2_with fail
        go_ret
        exact ⟨rfl, Xv5.out⟩
      · have hja : ja = rest.length + 1 := by rw [HJa.out, hin]; rfl
        obtain ⟨ad, rfl, hit⟩ := HRA5.out.rdi.item (show (inn row low high)[0]? = some (x, y) by rw [hin]; rfl)
        obtain ⟨c0, c1'⟩ := hit
        simp only [Nat.zero_mul, addr_zero] at c0 c1'
        have k5 : v5.cell? ad = some (.int .i64 x) := c0
        have k6 : v5.cell? { block := ad.block, off := ad.off + 1 } = some (.int .i64 y) := c1'
        have hjn : ¬ ja = 0 := by omega
        have hjp : 0 < ja := by omega
        clear hin HNx hja c0 c1'
        rcases hq with rfl | ⟨rfl, rfl, hw1, hw2⟩
        · go_wp2_with fail
          go_quiet (fail)
          go_wp2_with fail
          go_ret
          exact ⟨rfl, Xv5.out.drewN _⟩
        · have hw : wrap64 (x + 1) = x + 1 := w64r _ (by have := HLow.out; omega) (by have := HHigh.out; omega)
          clear hw1 hw2
          go_wp2_with fail
          go_quiet (fail)
          go_wp2_with fail
          go_ret
          exact ⟨rfl, Xv5.out.drewN _⟩

theorem SpanSteps_walk (w : World) (A : Option Addr) (n c : Nat) (zs : List Int) (h : Rd w 1 A n (Ks .i64 zs)) (hn : n ≤ c) (hc : c ≤ maxLen) (_ : ∀ z ∈ zs, (Lit.int .i64 z).wf = true) (low : Int) (hl : (Lit.int .i64 low).wf = true) (high : Int) (hh : (Lit.int .i64 high).wf = true) :
    Calls Try.prog 7 #[.slice A n c, .int .i64 low, .int .i64 high] w fun e w' => e = .returned (.bool true) ∧ Ext w w' :=
  ssteps_m A n c zs low high w h hn hc (wfi hl).1 (wfi hh).2

end Go.Proofs.Ythgaogbpkedjcaa
