/-
  The walk of SpanStops.
-/
import Derived.Test.YthgaogbpkedjcaaSpWalk
import Derived.Test.YthgaogbpkedjcaaSpLaw
import Derived.Test.YthgaogbpkedjcaaRfBuildF
import Derived.Test.YthgaogbpkedjcaaMinMax
set_option linter.unusedVariables false
set_option linter.unusedSimpArgs false
namespace Go.Proofs.Ythgaogbpkedjcaa
open Go.RowKit

theorem enough_of (z : Int) : ∃ K, wrap64 (1 + (wrap64 (z.tmod 40 + 40)).tmod 40) = K ∧ 1 ≤ K ∧ K ≤ 40 := by
  refine ⟨_, rfl, ?_⟩
  have h1 := Int.tmod_lt_of_pos z (show (0 : Int) < 40 by omega)
  have h2 := Int.lt_tmod_of_pos z (show (0 : Int) < 40 by omega)
  have e : wrap64 (z.tmod 40 + 40) = z.tmod 40 + 40 := w64q _ (by omega) (by omega)
  rw [e]
  have h3 := Int.tmod_nonneg (a := z.tmod 40 + 40) 40 (by omega)
  have h4 := Int.tmod_lt_of_pos (z.tmod 40 + 40) (show (0 : Int) < 40 by omega)
  rw [w64q _ (by omega) (by omega)]
  omega
theorem ext_of_kx {w W0 W : World} {G : Nat} (hx : Ext w W0) (hK : Kx (fun b _ => b = G) W0 W) (hG : w.heap.size ≤ G) : Ext w W :=
  ⟨hK.os.trans hx.os, hK.tape.trans hx.tape, hK.output.trans hx.output, Nat.le_trans hx.size hK.size, fun k hk => by
    have e1 := hx.block k hk
    have e2 : w.heap[k]? = some w.heap[k] := Array.getElem?_eq_getElem hk
    rw [e2] at e1 ⊢
    exact hK.block k _ e1 (fun e => by omega)⟩
theorem inn_none (l : Row) (a b : Int) (h : b < a) : inn l a b = [] := by
  unfold inn
  rw [List.filter_eq_nil_iff]
  intro x _
  simp only [Bool.and_eq_true, decide_eq_true_eq, not_and]
  omega
theorem mem_range {l : Row} {k v : Int} (h : ∀ x ∈ l, -9223372036854775808 ≤ x.1 ∧ x.1 ≤ 9223372036854775807) (hk : -9223372036854775808 ≤ k ∧ k ≤ 9223372036854775807) : ∀ x ∈ putR l k v, -9223372036854775808 ≤ x.1 ∧ x.1 ≤ 9223372036854775807 := fun x hx => by
  rcases mem_putR hx with h1 | rfl
  · exact h x h1
  · exact hk

set_option maxHeartbeats 25600000 in
set_option maxRecDepth 100000 in
theorem sstops_m (A : Option Addr) (n c : Nat) (zs : List Int) (enough low : Int) (w : World) (h : Rd w 1 A n (Ks .i64 zs)) (hnc : n ≤ c) (hc : c ≤ maxLen) (hzs : ∀ z ∈ zs, -9223372036854775808 ≤ z ∧ z ≤ 9223372036854775807) (hlw : low ≤ 9223372036854775807) :
    Calls Try.prog 6 #[.slice A n c, .int .i64 enough, .int .i64 low] w fun e w' => e = .returned (.bool true) ∧ Ext w w' := by
  have HAl := Lib.hid (fun W => alive8_is W)
  have HLow := Lib.hid hlw
  have HZS := Lib.hid hzs
  obtain ⟨w1, hw1⟩ : ∃ w1, w1 = w.alloc (.cells #[.int .i64 enough] 3) := ⟨_, rfl⟩
  obtain ⟨B1, hx1, hs1⟩ := box_made hw1
  have HLk := Lib.hid (show Lk 3 w1 w.heap.size #[.int .i64 enough] by rw [hw1]; exact Lk.new _ _ _)
  have X1 := Lib.hid hx1
  have H1 := Lib.hid hw1
  obtain ⟨be, hbe⟩ : ∃ b, b = w.heap.size := ⟨_, rfl⟩
  rw [← hbe] at HLk
  have Hbe := Lib.hid hbe
  have HS1 := Lib.hid (show w1.heap.size = be + 1 by rw [hs1, hbe])
  clear hlw hzs hw1 B1 hx1 hs1 hbe
  have HH := Lib.hid h
  have hlen := h.1
  have HL := Lib.hid (show zs.length = n by simpa [Ks] using hlen)
  have hBn : n = 0 ∨ ∃ ad, A = some ad := by
    rcases Nat.eq_zero_or_pos n with h' | h'
    · exact .inl h'
    · exact .inr (HH.out.some_ h' (by omega))
  have hA : A = none → n = 0 := fun e => by
    rcases hBn with h' | ⟨ad, h'⟩
    · exact h'
    · rw [e] at h'; cases h'
  simp only [maxLen] at hc
  clear h hlen
  go_enter Try.func6, Try.ntmps6
  go_upto_region 1 with fail
  rw [← H1.out, ← Hbe.out]
  go_wp2_with fail
  go_loopw [7, 20, 8, 9] (fun rv j _ _ wr => Hid (Ext w1 wr) ∧ ∃ k : Nat, k ≤ n ∧ j = .int .i64 k ∧ Hid (∃ row, RdR wr rv row ∧ Srt row ∧ row.length ≤ k ∧ row.length ≤ 30 ∧ ∀ x ∈ row, -9223372036854775808 ≤ x.1 ∧ x.1 ≤ 9223372036854775807)) (fun _ j _ _ _ => n - (intOf j).toNat)
  case atStart => exact ⟨Lib.hid (Ext.refl _), 0, Nat.zero_le _, rfl, Lib.hid ⟨[], RdR.nil0 _, by simp [Srt], by simp, by simp, by simp⟩⟩
  case round =>
    obtain ⟨hx, k, hk, rfl, hR⟩ := hrel
    rename World => w4
    obtain ⟨row, hr, hs, hl1, hl2, hrg⟩ := hR.out
    have HRG := Lib.hid hrg
    obtain ⟨AR, jr, cR, hv, hrow, hjr⟩ := hr.sl
    subst hv
    have HS := Lib.hid hs
    have HRow := Lib.hid hrow
    have HL1 := Lib.hid hl1
    have HL2 := Lib.hid hl2
    have HJr := Lib.hid hjr
    clear hr hs hl1 hl2 hR hrow hjr hrg
    by_cases hlt : k < n
    · obtain ⟨ad, rfl⟩ : ∃ ad, A = some ad := by
        rcases hBn with h' | h'
        · omega
        · exact h'
      obtain ⟨z1, hz1⟩ : ∃ z, zs[k]? = some z := ⟨_, List.getElem?_eq_getElem (by have := HL.out; omega)⟩
      have c0 : w4.cell? (ad.add k) = some (.int .i64 z1) := (HH.out.to (X1.out.step hx.out)).cells k _ (by simp [Ks, hz1])
      have hnk : ¬ n ≤ k := by omega
      have HZ1 := Lib.hid (HZS.out z1 (List.mem_of_getElem? hz1))
      clear hz1
      by_cases hk2 : k < 30
      · have HP := Lib.hid (rdr_put HRow.out (by have := HL2.out; omega) HS.out)
        go_wp2_with fail
        refine (HP.out _ _ _ (Ext.refl _)).mono ?_
        rintro e w5 ⟨A5, j5, c5, rfl, hr5, hx5⟩
        have HR5 := Lib.hid (show ∃ row', RdR w5 (.slice A5 j5 c5) row' ∧ Srt row' ∧ row'.length ≤ k + 1 ∧ row'.length ≤ 30 ∧ ∀ x ∈ row', -9223372036854775808 ≤ x.1 ∧ x.1 ≤ 9223372036854775807 from ⟨_, hr5, HS.out.putR _ _, Nat.le_trans (putR_len1 HS.out) (by have := HL1.out; omega), Nat.le_trans (putR_len1 HS.out) (by have := HL1.out; omega), mem_range HRG.out HZ1.out⟩)
        have X5 := Lib.hid (hx.out.step hx5)
        clear hr5 hx5 c0 HP
        go_wp2_with fail
        go_roundw
        case rel => exact ⟨X5, k + 1, by omega, by go_num, HR5⟩
        case measure => simp [intOf]; omega
      · have HR5 := Lib.hid (show ∃ row', RdR w4 (.slice AR jr cR) row' ∧ Srt row' ∧ row'.length ≤ k + 1 ∧ row'.length ≤ 30 ∧ ∀ x ∈ row', -9223372036854775808 ≤ x.1 ∧ x.1 ≤ 9223372036854775807 from ⟨row, HRow.out, HS.out, by have := HL1.out; omega, HL2.out, HRG.out⟩)
        go_wp2_with fail
        go_roundw
        case rel => exact ⟨hx, k + 1, by omega, by go_num, HR5⟩
        case measure => simp [intOf]; omega
    · have hge : n ≤ k := by omega
      clear hlt
      have HJ2 := Lib.hid HRow.out.len
      have hj30 : jr ≤ 30 := by have := HJ2.out; have := HL2.out; omega
      obtain ⟨j1, hj1⟩ : ∃ j1, j1 = jr + 1 := ⟨_, rfl⟩
      have e1 : IntKind.i64.wrap ((jr : Int) + 1) = (j1 : Int) := by rw [IntKind.wrap_i64]; omega
      have HB := Lib.hid (av_buildN HRow.out HS.out j1 (by omega) (by omega) (by have := HJ2.out; omega) (by have := HL2.out; omega) w4 (Ext.refl _))
      unfold BuildN at HB
      clear hj1
      go_wp2_with fail
      clear e1
      refine HB.out.mono ?_
      rintro e v1 ⟨A1, n1, c1, B1, m1, d1, ns1, fs1, r, rfl, hav, hmp, hfr, hx1, hfa, hfb⟩
      obtain ⟨v1b, hb⟩ : ∃ v, v = v1.alloc (.cells #[.slice A1 n1 c1, .slice B1 m1 d1] 25) := ⟨_, rfl⟩
      obtain ⟨Bb, hxb, hsb⟩ := box_made hb
      have Xv1 := Lib.hid (hx.out.step (hx1.step hxb))
      obtain ⟨K, hK, hK1, hK40⟩ := enough_of enough
      obtain ⟨bx, hbx⟩ : ∃ b, b = v1.heap.size := ⟨_, rfl⟩
      rw [← hbx] at Bb
      have HS4 := Lib.hid (show be < w4.heap.size ∧ w4.heap.size ≤ bx by have h1 := HLk.out.lt; have h2 := hx.out.size; have h3 := hx1.size; omega)
      -- the store of what is enough
      obtain ⟨v2, hv2⟩ : ∃ v, v = v1b.setCell ⟨be, 0, none⟩ (.int .i64 K) := ⟨_, rfl⟩
      have o2 : Only be v1b v2 := by rw [hv2]; exact (Only.refl _ _).set 0 _
      have LE1 : Lk 3 v1b be #[.int .i64 enough] := HLk.out.to Xv1.out
      have LE2 : Lk 3 v2 be #[.int .i64 K] := by rw [hv2]; exact Boxed.set (t := 3) _ LE1
      have BE1 : Bx v1b be #[.int .i64 enough] := ⟨LE1.lt, fun j => LE1.cell j, fun j => by have h : v1b.heap[be]? = _ := LE1; simp [World.frozen?, h]⟩
      have HAv := Lib.hid ((hav.to hxb).only o2 (fun q hq => by have := hfa q hq; have := HS4.out; omega) (fun hm q hq => by have := hfb hm q hq; have := HS4.out; omega))
      have HRow2 := Lib.hid ((HRow.out.to (hx1.step hxb)).only1 o2 BE1)
      have HBx2 := Lib.hid (o2.bx Bb (by have := HS4.out; omega))
      have X2 := Lib.hid (show Ext w v2 from o2.new (X1.out.step Xv1.out) (by rw [Hbe.out]; exact Nat.le_refl _))
      have HMr := Lib.hid hmp
      have HLE2 := Lib.hid LE2
      -- the box of what comes
      obtain ⟨v3, hv3⟩ : ∃ v, v = v2.alloc (.cells #[.slice none 0 0] 31) := ⟨_, rfl⟩
      obtain ⟨_, hx3, hs3⟩ := box_made hv3
      obtain ⟨bg, hbg⟩ : ∃ b, b = v2.heap.size := ⟨_, rfl⟩
      have HG3 := Lib.hid (show Boxed v3 bg 31 (.slice none 0 0) by rw [hv3, hbg]; exact Boxed.new _ _ _)
      have HW := Lib.hid (walk_is 22 bg be K (fun args w => by kernel_rfl) (fun n0 pre x W h1 h2 h3 h4 h5 => take22_is bg be n0 K pre x W h1 h2 h3 h4 h5) A1 B1 (n := n1) (c := c1) (m := m1) (d := d1) ns1 fs1 r row v3 (HAv.out.to hx3) HMr.out HRG.out HG3.out (HLE2.out.to hx3))
      have HBx3 := Lib.hid (HBx2.out.to hx3)
      have q0 : v1b.cell? ⟨be, 0, none⟩ = some (.int .i64 enough) := LE1.cell 0
      have q1 : v1b.frozen? ⟨be, 0, none⟩ = false := BE1.free 0
      have q2 : v3.cell? ⟨bx, 0, none⟩ = some (.slice A1 n1 c1) := HBx3.out.cell 0
      have q3 : v3.cell? ⟨bx, 1, none⟩ = some (.slice B1 m1 d1) := HBx3.out.cell 1
      have X3 := Lib.hid hx3
      have Hv2 := Lib.hid hv2
      have Hv3 := Lib.hid hv3
      have Hb := Lib.hid hb
      have Hbx := Lib.hid hbx
      have Hbg := Lib.hid hbg
      have HK := Lib.hid hK
      have HK1 := Lib.hid (show 1 ≤ K ∧ K ≤ 40 from ⟨hK1, hK40⟩)
      clear hb hxb hsb Bb hbx hv2 o2 LE1 LE2 BE1 hav hmp hfr hx1 hfa hfb hv3 hx3 hs3 hbg hK hK1 hK40 HB
      go_upto_region 9 with fail
      rw [← Hb.out, ← Hbx.out]
      go_upto_region 10 with fail
      rw [HK.out, ← Hv2.out]
      go_upto_region 11 with fail
      rw [← Hv3.out, ← Hbg.out]
      have hmf : ∀ (fn : Fn) (first cap : Array Value) (w : World), (Instr.makeFunc fn first cap).run Try.prog w = .ok (.func fn first cap) w := fun fn first cap w => rfl
      go_wp2_with fail
      obtain ⟨P, hP⟩ : ∃ P, P = (row.take (stopAt K)).length := ⟨_, rfl⟩
      have HP := Lib.hid (show P = min (stopAt K) jr ∧ P ≤ jr by rw [hP, List.length_take, ← HJ2.out]; omega)
      have HPK := Lib.hid (show min K (jr : Int) = (P : Int) by
        have h1 := HK1.out
        have h2 := HP.out.1
        unfold stopAt at h2
        omega)
      unfold WalkA at HW
      rw [← hP] at HW
      refine HW.out.mono ?_
      rintro e v4 ⟨rfl, gv, hgb, hgr, hgk⟩
      have hx4 := ext_of_kx X3.out hgk (by rw [Hbg.out]; exact Nat.le_refl _)
      have HBx4 := Lib.hid (HBx2.out.to hx4)
      have HAv4 := Lib.hid (HAv.out.to hx4)
      have HRow4 := Lib.hid (HRow2.out.to hx4)
      have HE4 := Lib.hid (HLE2.out.to hx4)
      have X4 := Lib.hid (X2.out.step hx4)
      obtain ⟨AG, jg, cg, rfl, hgr2, hjg⟩ := hgr.sl
      have HGR := Lib.hid hgr2
      have HGB := Lib.hid hgb
      obtain ⟨M, hM⟩ : ∃ M, max low (-4611686018427387904) = M := ⟨_, rfl⟩
      have hM1 : -4611686018427387904 ≤ M ∧ M ≤ 9223372036854775807 := by have := HLow.out; omega
      have hM2 : wrap64 (M - 1) = M - 1 := w64r _ (by omega) (by omega)
      have HM2 := Lib.hid hM2
      have HM := Lib.hid hM
      have HJG := Lib.hid hjg
      have q0 : v4.cell? ⟨bx, 0, none⟩ = some (.slice A1 n1 c1) := HBx4.out.cell 0
      have q1 : v4.cell? ⟨bx, 1, none⟩ = some (.slice B1 m1 d1) := HBx4.out.cell 1
      have HPe := Lib.hid hP
      clear hgb hgr hgk hx4 hgr2 hM hM1 hM2 hjg HW q2 q3 hP
      go_wp2_with (first
        | (refine wpList_max2 rfl (.tmp 55) (.const (.int .i64 (-4611686018427387904))) _ rfl low (-4611686018427387904) M rfl rfl HM.out ?_)
        | (refine wpList_max2 rfl (.tmp 57) (.const (.int .i64 (-4611686018427387904))) _ rfl low (-4611686018427387904) M rfl rfl HM.out ?_))
      rw [HM2.out]
      have HC := Lib.hid (av_all (c := c1) (d := d1) HAv4.out HMr.out M (M - 1) _ (Ext.refl _))
      rw [show inn row M (M - 1) = [] from inn_none row M (M - 1) (by omega)] at HC
      unfold AllA at HC
      refine HC.out.mono ?_
      rintro e v5 ⟨AA, ja, ca, rfl, hrr, hx⟩
      have X5 := Lib.hid (X4.out.step hx)
      obtain rfl : ja = 0 := hrr.len
      have HG5 := Lib.hid (show Lk 31 v5 bg #[.slice AG jg cg] from Lk.to (t := 31) HGB.out hx)
      have HE5 := Lib.hid (HE4.out.to hx)
      have HRow5 := Lib.hid (HRow4.out.to hx)
      have HGR5 := Lib.hid (HGR.out.to hx)
      have q4 : v5.cell? ⟨be, 0, none⟩ = some (.int .i64 K) := HE5.out.cell 0
      clear hx hrr HC q0 q1
      go_upto_region 14 with (refine wpList_min2 rfl (.tmp 63) (.tmp 65) _ rfl K jr P rfl rfl HPK.out ?_)
      have hPj : P ≤ jr := HP.out.2
      have hjc : jr ≤ cR := HRow5.out.cap.1
      have hPc : P ≤ cR := Nat.le_trans hPj hjc
      have HPR := Lib.hid (show RdI v5 AR P (row.take P) by
        have h1 := (HRow5.out.rdi).take hPj
        rwa [flat_take itc_length] at h1)
      have HPP := Lib.hid (show row.take (stopAt K) = row.take P by
        have h1 := HP.out.1
        have h2 := HJ2.out
        rw [h1]
        rcases Nat.le_total (stopAt K) jr with h3 | h3
        · rw [Nat.min_eq_left h3]
        · rw [Nat.min_eq_right h3, List.take_of_length_le (by omega), List.take_of_length_le (by omega)])
      have HSm := Lib.hid (fun W (hW : Ext v5 W) => by
        have h1 := spSame_is AG AR jg P cg cR (row.take (stopAt K)) (row.take P) W (HGR5.out.to hW).rdi (HPR.out.to hW) (by have h1 := HJG.out; have h2 := HPe.out; omega)
        rw [decide_eq_true HPP.out] at h1
        exact h1)
      have HAL := Lib.hid (fun W (hW : Ext v5 W) => HAl.out W)
      have s0 := fun q : Later v5 => (HG5.out.to q.ext).cell 0
      simp only [List.getElem?_toArray, List.getElem?_cons_zero] at s0
      refine wp_region_later v5 (Ext.refl _) (by kernel_rfl) (by kernel_rfl) ?_
      repeat (go_big_quiet_step (first | (go_at_call 15; with_reducible exact later_call HAL.out) | (go_at_call 17; with_reducible exact later_call HSm.out)))
      refine wpQuiet_nil ?_
      rintro _ ⟨p, rfl⟩
      have XP := Lib.hid (X5.out.step p.ext)
      clear s0 q4
      go_wp2_with fail
      go_ret
      exact ⟨rfl, XP.out⟩

theorem SpanStops_walk (w : World) (A : Option Addr) (n c : Nat) (zs : List Int) (h : Rd w 1 A n (Ks .i64 zs)) (hn : n ≤ c) (hc : c ≤ maxLen) (hz : ∀ z ∈ zs, (Lit.int .i64 z).wf = true) (enough : Int) (_ : (Lit.int .i64 enough).wf = true) (low : Int) (hl : (Lit.int .i64 low).wf = true) :
    Calls Try.prog 6 #[.slice A n c, .int .i64 enough, .int .i64 low] w fun e w' => e = .returned (.bool true) ∧ Ext w w' :=
  sstops_m A n c zs enough low w h hn hc (fun z hq => wfi (hz z hq)) (wfi hl).2

end Go.Proofs.Ythgaogbpkedjcaa
