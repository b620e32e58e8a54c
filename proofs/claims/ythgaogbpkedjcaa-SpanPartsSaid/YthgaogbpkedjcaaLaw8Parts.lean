/-
  The walk of SpanParts.
-/
import Derived.Test.YthgaogbpkedjcaaSpMin3
set_option linter.unusedVariables false
set_option linter.unusedSimpArgs false
namespace Go.Proofs.Ythgaogbpkedjcaa
open Go.RowKit

theorem tm200 (z : Int) : -200 < z.tmod 200 ∧ z.tmod 200 < 200 := ⟨Int.lt_tmod_of_pos z (by omega), Int.tmod_lt_of_pos z (by omega)⟩

set_option maxHeartbeats 25600000 in
set_option maxRecDepth 100000 in
theorem sparts_m (A : Option Addr) (n c : Nat) (zs : List Int) (low mid high : Int) (w : World) (h : Rd w 1 A n (Ks .i64 zs)) (hnc : n ≤ c) (hc : c ≤ maxLen) :
    Calls Try.prog 5 #[.slice A n c, .int .i64 low, .int .i64 mid, .int .i64 high] w fun e w' => e = .returned (.bool true) ∧ Ext w w' := by
  have HAl := Lib.hid (fun W => alive8_is W)
  obtain ⟨L, hL⟩ : ∃ L, low.tmod 200 = L := ⟨_, rfl⟩
  obtain ⟨M, hM⟩ : ∃ M, mid.tmod 200 = M := ⟨_, rfl⟩
  obtain ⟨H, hH⟩ : ∃ H, high.tmod 200 = H := ⟨_, rfl⟩
  have HBD := Lib.hid (show (-200 < L ∧ L < 200) ∧ (-200 < M ∧ M < 200) ∧ -200 < H ∧ H < 200 by rw [← hL, ← hM, ← hH]; exact ⟨tm200 _, tm200 _, tm200 _⟩)
  have HLMH := Lib.hid (show low.tmod 200 = L ∧ mid.tmod 200 = M ∧ high.tmod 200 = H from ⟨hL, hM, hH⟩)
  clear hL hM hH
  obtain ⟨i0, hi0, hz0, hz1, hz2⟩ := info_parts item_info
  have HH := Lib.hid h
  have hlen := h.1
  have HL := Lib.hid (show zs.length = n by simpa [Ks] using hlen)
  have hBn : n = 0 ∨ ∃ ad, A = some ad := by
    rcases Nat.eq_zero_or_pos n with h' | h'
    · exact .inl h'
    · exact .inr (HH.out.some_ h' (by omega))
  have hA : A = none → n = 0 := fun e => by
    rcases hBn with h' | ⟨ad, h'⟩
    · exact h'
    · rw [e] at h'; cases h'
  simp only [maxLen] at hc
  clear h hlen
  go_enter Try.func5, Try.ntmps5
  go_wp2_with fail
  go_loopw [9, 22, 10, 11] (fun rv j _ _ wr => Hid (Ext w wr) ∧ ∃ k : Nat, k ≤ n ∧ j = .int .i64 k ∧ Hid (∃ row, RdR wr rv row ∧ Srt row ∧ row.length ≤ k ∧ row.length ≤ 30)) (fun _ j _ _ _ => n - (intOf j).toNat)
  case atStart => exact ⟨Lib.hid (Ext.refl _), 0, Nat.zero_le _, rfl, Lib.hid ⟨[], RdR.nil0 _, by simp [Srt], by simp, by simp⟩⟩
  case round =>
    obtain ⟨hx, k, hk, rfl, hR⟩ := hrel
    rename World => w4
    obtain ⟨row, hr, hs, hl1, hl2⟩ := hR.out
    obtain ⟨AR, jr, cR, hv, hrow, hjr⟩ := hr.sl
    subst hv
    have HS := Lib.hid hs
    have HRow := Lib.hid hrow
    have HL1 := Lib.hid hl1
    have HL2 := Lib.hid hl2
    have HJr := Lib.hid hjr
    clear hr hs hl1 hl2 hR hrow hjr
    by_cases hlt : k < n
    · obtain ⟨ad, rfl⟩ : ∃ ad, A = some ad := by
        rcases hBn with h' | h'
        · omega
        · exact h'
      obtain ⟨z1, hz1⟩ : ∃ z, zs[k]? = some z := ⟨_, List.getElem?_eq_getElem (by have := HL.out; omega)⟩
      have c0 : w4.cell? (ad.add k) = some (.int .i64 z1) := (HH.out.to hx.out).cells k _ (by simp [Ks, hz1])
      have hnk : ¬ n ≤ k := by omega
      clear hz1
      by_cases hk2 : k < 30
      · have HP := Lib.hid (rdr_put HRow.out (by have := HL2.out; omega) HS.out)
        go_wp2_with fail
        refine (HP.out _ _ _ (Ext.refl _)).mono ?_
        rintro e w5 ⟨A5, j5, c5, rfl, hr5, hx5⟩
        have HR5 := Lib.hid (show ∃ row', RdR w5 (.slice A5 j5 c5) row' ∧ Srt row' ∧ row'.length ≤ k + 1 ∧ row'.length ≤ 30 from ⟨_, hr5, HS.out.putR _ _, Nat.le_trans (putR_len1 HS.out) (by have := HL1.out; omega), Nat.le_trans (putR_len1 HS.out) (by have := HL1.out; omega)⟩)
        have X5 := Lib.hid (hx.out.step hx5)
        clear hr5 hx5 c0 HP
        go_wp2_with fail
        go_roundw
        case rel => exact ⟨X5, k + 1, by omega, by go_num, HR5⟩
        case measure => simp [intOf]; omega
      · have HR5 := Lib.hid (show ∃ row', RdR w4 (.slice AR jr cR) row' ∧ Srt row' ∧ row'.length ≤ k + 1 ∧ row'.length ≤ 30 from ⟨row, HRow.out, HS.out, by have := HL1.out; omega, HL2.out⟩)
        go_wp2_with fail
        go_roundw
        case rel => exact ⟨hx, k + 1, by omega, by go_num, HR5⟩
        case measure => simp [intOf]; omega
    · have hge : n ≤ k := by omega
      clear hlt
      have HJ2 := Lib.hid HRow.out.len
      have hj30 : jr ≤ 30 := by have := HJ2.out; have := HL2.out; omega
      obtain ⟨j1, hj1⟩ : ∃ j1, j1 = jr + 1 := ⟨_, rfl⟩
      have e1 : IntKind.i64.wrap ((jr : Int) + 1) = (j1 : Int) := by rw [IntKind.wrap_i64]; omega
      have HB := Lib.hid (av_build HRow.out HS.out j1 (by omega) (by omega) (by have := HJ2.out; omega) (by have := HL2.out; omega) w4 (Ext.refl _))
      unfold BuildV at HB
      have HX4 := hx
      clear hj1
      go_upto_region 9 with fail
      rw [HLMH.out.1, HLMH.out.2.1, HLMH.out.2.2]
      go_wp2_with fail
      clear e1
      refine HB.out.mono ?_
      rintro e v1 ⟨A1, n1, c1, B1, m1, d1, ns1, fs1, r, rfl, hav, hmp, hfr, hx1⟩
      obtain ⟨v1b, hb⟩ : ∃ v, v = v1.alloc (.cells #[.slice A1 n1 c1, .slice B1 m1 d1] 25) := ⟨_, rfl⟩
      obtain ⟨Bb, hxb, hsb⟩ := box_made hb
      have Xv1 := Lib.hid (HX4.out.step (hx1.step hxb))
      have HAv := Lib.hid (hav.to hxb)
      have HMr := Lib.hid hmp
      obtain ⟨bx, hbx⟩ : ∃ b, b = v1.heap.size := ⟨_, rfl⟩
      rw [← hbx] at Bb
      have HBx := Lib.hid Bb
      have Hb := Lib.hid hb
      have Hbx := Lib.hid hbx
      have q0 : v1b.cell? ⟨bx, 0, none⟩ = some (.slice A1 n1 c1) := HBx.out.cell 0
      have q1 : v1b.cell? ⟨bx, 1, none⟩ = some (.slice B1 m1 d1) := HBx.out.cell 1
      clear hav hmp hfr hx1 hb hxb hsb Bb hbx HB
      go_upto_region 10 with fail
      rw [← Hb.out, ← Hbx.out]
      have hbd := HBD.out
      by_cases h1 : M < L
      · clear hbd
        have hbd0 := HBD.out
        obtain ⟨a, ha⟩ : ∃ a, min (min L M) H = a := ⟨_, rfl⟩
        obtain ⟨p, hp⟩ : ∃ p, min L M = p := ⟨_, rfl⟩
        obtain ⟨q, hq⟩ : ∃ q, max L M = q := ⟨_, rfl⟩
        obtain ⟨s, hs⟩ : ∃ s, min q H = s := ⟨_, rfl⟩
        obtain ⟨b, hb⟩ : ∃ b, max p s = b := ⟨_, rfl⟩
        obtain ⟨cc, hcc⟩ : ∃ cc, max (max L M) H = cc := ⟨_, rfl⟩
        have hbd : (-200 < a ∧ a ≤ b ∧ b ≤ cc ∧ cc < 200) := by omega
        have Ha := Lib.hid ha
        have Hp := Lib.hid hp
        have Hq := Lib.hid hq
        have Hs := Lib.hid hs
        have Hbb := Lib.hid hb
        have Hcc := Lib.hid hcc
        clear ha hp hq hs hb hcc
        go_wp2_with (first
          | (refine wpList_min3 rfl (.tmp 57) (.tmp 58) (.tmp 59) _ rfl L M H a rfl rfl rfl Ha.out ?_)
          | (refine wpList_min2 rfl (.tmp 61) (.tmp 62) _ rfl L M p rfl rfl Hp.out ?_)
          | (refine wpList_max2 rfl (.tmp 64) (.tmp 65) _ rfl L M q rfl rfl Hq.out ?_)
          | (refine wpList_min2 rfl (.tmp 66) (.tmp 67) _ rfl q H s rfl rfl Hs.out ?_)
          | (refine wpList_max2 rfl (.tmp 63) (.tmp 68) _ rfl p s b rfl rfl Hbb.out ?_)
          | (refine wpList_max3 rfl (.tmp 70) (.tmp 71) (.tmp 72) _ rfl L M H cc rfl rfl rfl Hcc.out ?_))
        clear q0 q1
        have hw1 : wrap64 (b + 1) = b + 1 := w64r _ (by omega) (by omega)
        have HW1 := Lib.hid hw1
        clear hw1
        have HPt := Lib.hid (inn_parts HS.out (a := a) (m := b) (b := cc) (by omega) (by omega))
        clear hbd
        have HC := Lib.hid (av_all (c := c1) (d := d1) HAv.out HMr.out a b _ (Ext.refl _))
        unfold AllA at HC
        refine HC.out.mono ?_
        rintro e v2 ⟨AX, jx, cx, rfl, hrx, hx2⟩
        have HRX2 := Lib.hid hrx
        have HBx2 := Lib.hid (HBx.out.to hx2)
        have HAv2 := Lib.hid (HAv.out.to hx2)
        have Xv2 := Lib.hid (Xv1.out.step hx2)
        have q0 : v2.cell? ⟨bx, 0, none⟩ = some (.slice A1 n1 c1) := HBx2.out.cell 0
        have q1 : v2.cell? ⟨bx, 1, none⟩ = some (.slice B1 m1 d1) := HBx2.out.cell 1
        clear hrx hx2 HC
        go_wp2_with fail
        rw [HW1.out]
        have HC := Lib.hid (av_all (c := c1) (d := d1) HAv2.out HMr.out (b + 1) cc _ (Ext.refl _))
        unfold AllA at HC
        refine HC.out.mono ?_
        rintro e v3 ⟨AY, jy, cy, rfl, hry, hx3⟩
        have HRX3 := Lib.hid (HRX2.out.to hx3)
        have HRY3 := Lib.hid hry
        have HBx3 := Lib.hid (HBx2.out.to hx3)
        have HAv3 := Lib.hid (HAv2.out.to hx3)
        have Xv3 := Lib.hid (Xv2.out.step hx3)
        have q0 : v3.cell? ⟨bx, 0, none⟩ = some (.slice A1 n1 c1) := HBx3.out.cell 0
        have q1 : v3.cell? ⟨bx, 1, none⟩ = some (.slice B1 m1 d1) := HBx3.out.cell 1
        clear hry hx3 HC
        go_wp2_with fail
        have HC := Lib.hid (av_all (c := c1) (d := d1) HAv3.out HMr.out a cc _ (Ext.refl _))
        unfold AllA at HC
        refine HC.out.mono ?_
        rintro e v4 ⟨AZ, jz, cz, rfl, hrz, hx4⟩
        have HRX4 := Lib.hid (HRX3.out.to hx4)
        have HRY4 := Lib.hid (HRY3.out.to hx4)
        have HRZ4 := Lib.hid hrz
        have Xv4 := Lib.hid (Xv3.out.step hx4)
        clear hrz hx4 HC q0 q1
        go_wp2_with fail
        refine (HAl.out _).mono ?_
        rintro e v5 ⟨rfl, hx5⟩
        have Xv5 := Lib.hid (Xv4.out.step hx5)
        have HRX5 := Lib.hid (HRX4.out.to hx5)
        have HRY5 := Lib.hid (HRY4.out.to hx5)
        have HRZ5 := Lib.hid (HRZ4.out.to hx5)
        clear hx5
        have HJx := Lib.hid (show jx = (inn row a b).length ∧ jx ≤ 30 from ⟨HRX5.out.len, by have h1 := HRX5.out.len; have h2 := inn_len row a b; have := HL2.out; omega⟩)
        have HJy := Lib.hid (show jy = (inn row (b + 1) cc).length ∧ jy ≤ 30 from ⟨HRY5.out.len, by have h1 := HRY5.out.len; have h2 := inn_len row (b + 1) cc; have := HL2.out; omega⟩)
        have HJz := Lib.hid (show jz ≤ 30 by have h1 := HRZ5.out.len; have h2 := inn_len row a cc; have := HL2.out; omega)
        obtain ⟨v6, hv6⟩ : ∃ v, v = v5.alloc (.cells #[] 40) := ⟨_, rfl⟩
        obtain ⟨_, hx6, hs6⟩ := box_made hv6
        have Xv6 := Lib.hid (Xv5.out.step hx6)
        have HRX6 := Lib.hid (HRX5.out.to hx6)
        have HRY6 := Lib.hid (HRY5.out.to hx6)
        have HRZ6 := Lib.hid (HRZ5.out.to hx6)
        have Hv6 := Lib.hid hv6
        clear hv6 hx6 hs6
        have HRd6 := Lib.hid HRX6.out.rdi
        have hx30 := HJx.out.2
        have hy30 := HJy.out.2
        have hz30 := HJz.out
        have HB0 := Lib.hid (show (0 + jx : Nat) ≤ maxLen ∧ (0 + jx) * 16 ≤ 140737488355328 ∧ (jx + jy : Nat) ≤ maxLen ∧ (jx + jy) * 16 ≤ 140737488355328 by unfold maxLen; omega)
        clear hx30 hy30 hz30
        go_wp2_with (first
          | (at_builtin
             first
               | (rw [← Hv6.out]
                  refine wpList_append_xg v6 (by rfl) (.tmp 113) (.tmp 114) 31 rfl 40 i0 _ 2 16 Try.underlying31 hi0 hz0 hz1 hz2 rfl (by omega) v6.heap.size [] (.slice (some ⟨v5.heap.size, 0, none⟩) 0 0) 0 [] rfl (RowX.nil _ _ _ _ _ _) AX jx cx (flat itc (inn row a b)) rfl HRd6.out (flat_one itc_one _) HB0.out.1 HB0.out.2.1 (Nat.le_refl _) (fun b hb => by cases hb) ?_
                  intro A7 c7 v7 hr7 ap7
                  have Xv7 := Lib.hid (ap7.old v6 (Ext.refl _) (Nat.le_refl _))
                  have HR7 := Lib.hid (show RowX v7 v6.heap.size [] 40 2 (.slice A7 jx c7) jx (flat itc (inn row a b)) by simpa using hr7)
                  clear hr7 ap7)
               | (refine wpList_append_xg v7 (by rfl) (.tmp 115) (.tmp 116) 31 rfl 40 i0 _ 2 16 Try.underlying31 hi0 hz0 hz1 hz2 rfl (by omega) v6.heap.size [] (.slice A7 jx c7) jx _ rfl HR7.out AY jy cy (flat itc (inn row (b + 1) cc)) rfl (HRY6.out.to Xv7.out).rdi (flat_one itc_one _) HB0.out.2.2.1 HB0.out.2.2.2 Xv7.out.size (fun b hb => by cases hb) ?_
                  intro A8 c8 v8 hr8 ap8
                  have Xv8 := Lib.hid (ap8.old v6 Xv7.out (Nat.le_refl _))
                  have HR8 := Lib.hid hr8
                  clear hr8 ap8)))
        have HFin := Lib.hid (show RdI v8 A8 (jx + jy) (inn row a cc) by
          have h1 := HR8.out.rd
          rwa [flat_append, HPt.out] at h1)
        have HSm := Lib.hid (spSame_is A8 AZ (jx + jy) jz c8 cz (inn row a cc) (inn row a cc) v8 HFin.out (HRZ6.out.to Xv8.out).rdi (by have h1 := HJx.out.2; have h2 := HJy.out.2; omega))
        rw [decide_eq_true rfl] at HSm
        refine HSm.out.mono ?_
        rintro e v9 ⟨rfl, hx9⟩
        have Xv9 := Lib.hid (Xv6.out.step (Xv8.out.step hx9))
        clear hx9
        go_wp2_with fail
        go_ret
        exact ⟨rfl, Xv9.out⟩
      · by_cases h2 : H < M
        · clear hbd
          have hbd0 := HBD.out
          obtain ⟨a, ha⟩ : ∃ a, min (min L M) H = a := ⟨_, rfl⟩
          obtain ⟨p, hp⟩ : ∃ p, min L M = p := ⟨_, rfl⟩
          obtain ⟨q, hq⟩ : ∃ q, max L M = q := ⟨_, rfl⟩
          obtain ⟨s, hs⟩ : ∃ s, min q H = s := ⟨_, rfl⟩
          obtain ⟨b, hb⟩ : ∃ b, max p s = b := ⟨_, rfl⟩
          obtain ⟨cc, hcc⟩ : ∃ cc, max (max L M) H = cc := ⟨_, rfl⟩
          have hbd : (-200 < a ∧ a ≤ b ∧ b ≤ cc ∧ cc < 200) := by omega
          have Ha := Lib.hid ha
          have Hp := Lib.hid hp
          have Hq := Lib.hid hq
          have Hs := Lib.hid hs
          have Hbb := Lib.hid hb
          have Hcc := Lib.hid hcc
          clear ha hp hq hs hb hcc
          go_wp2_with (first
            | (refine wpList_min3 rfl (.tmp 57) (.tmp 58) (.tmp 59) _ rfl L M H a rfl rfl rfl Ha.out ?_)
            | (refine wpList_min2 rfl (.tmp 61) (.tmp 62) _ rfl L M p rfl rfl Hp.out ?_)
            | (refine wpList_max2 rfl (.tmp 64) (.tmp 65) _ rfl L M q rfl rfl Hq.out ?_)
            | (refine wpList_min2 rfl (.tmp 66) (.tmp 67) _ rfl q H s rfl rfl Hs.out ?_)
            | (refine wpList_max2 rfl (.tmp 63) (.tmp 68) _ rfl p s b rfl rfl Hbb.out ?_)
            | (refine wpList_max3 rfl (.tmp 70) (.tmp 71) (.tmp 72) _ rfl L M H cc rfl rfl rfl Hcc.out ?_))
          clear q0 q1
          have hw1 : wrap64 (b + 1) = b + 1 := w64r _ (by omega) (by omega)
          have HW1 := Lib.hid hw1
          clear hw1
          have HPt := Lib.hid (inn_parts HS.out (a := a) (m := b) (b := cc) (by omega) (by omega))
          clear hbd
          have HC := Lib.hid (av_all (c := c1) (d := d1) HAv.out HMr.out a b _ (Ext.refl _))
          unfold AllA at HC
          refine HC.out.mono ?_
          rintro e v2 ⟨AX, jx, cx, rfl, hrx, hx2⟩
          have HRX2 := Lib.hid hrx
          have HBx2 := Lib.hid (HBx.out.to hx2)
          have HAv2 := Lib.hid (HAv.out.to hx2)
          have Xv2 := Lib.hid (Xv1.out.step hx2)
          have q0 : v2.cell? ⟨bx, 0, none⟩ = some (.slice A1 n1 c1) := HBx2.out.cell 0
          have q1 : v2.cell? ⟨bx, 1, none⟩ = some (.slice B1 m1 d1) := HBx2.out.cell 1
          clear hrx hx2 HC
          go_wp2_with fail
          rw [HW1.out]
          have HC := Lib.hid (av_all (c := c1) (d := d1) HAv2.out HMr.out (b + 1) cc _ (Ext.refl _))
          unfold AllA at HC
          refine HC.out.mono ?_
          rintro e v3 ⟨AY, jy, cy, rfl, hry, hx3⟩
          have HRX3 := Lib.hid (HRX2.out.to hx3)
          have HRY3 := Lib.hid hry
          have HBx3 := Lib.hid (HBx2.out.to hx3)
          have HAv3 := Lib.hid (HAv2.out.to hx3)
          have Xv3 := Lib.hid (Xv2.out.step hx3)
          have q0 : v3.cell? ⟨bx, 0, none⟩ = some (.slice A1 n1 c1) := HBx3.out.cell 0
          have q1 : v3.cell? ⟨bx, 1, none⟩ = some (.slice B1 m1 d1) := HBx3.out.cell 1
          clear hry hx3 HC
          go_wp2_with fail
          have HC := Lib.hid (av_all (c := c1) (d := d1) HAv3.out HMr.out a cc _ (Ext.refl _))
          unfold AllA at HC
          refine HC.out.mono ?_
          rintro e v4 ⟨AZ, jz, cz, rfl, hrz, hx4⟩
          have HRX4 := Lib.hid (HRX3.out.to hx4)
          have HRY4 := Lib.hid (HRY3.out.to hx4)
          have HRZ4 := Lib.hid hrz
          have Xv4 := Lib.hid (Xv3.out.step hx4)
          clear hrz hx4 HC q0 q1
          go_wp2_with fail
          refine (HAl.out _).mono ?_
          rintro e v5 ⟨rfl, hx5⟩
          have Xv5 := Lib.hid (Xv4.out.step hx5)
          have HRX5 := Lib.hid (HRX4.out.to hx5)
          have HRY5 := Lib.hid (HRY4.out.to hx5)
          have HRZ5 := Lib.hid (HRZ4.out.to hx5)
          clear hx5
          have HJx := Lib.hid (show jx = (inn row a b).length ∧ jx ≤ 30 from ⟨HRX5.out.len, by have h1 := HRX5.out.len; have h2 := inn_len row a b; have := HL2.out; omega⟩)
          have HJy := Lib.hid (show jy = (inn row (b + 1) cc).length ∧ jy ≤ 30 from ⟨HRY5.out.len, by have h1 := HRY5.out.len; have h2 := inn_len row (b + 1) cc; have := HL2.out; omega⟩)
          have HJz := Lib.hid (show jz ≤ 30 by have h1 := HRZ5.out.len; have h2 := inn_len row a cc; have := HL2.out; omega)
          obtain ⟨v6, hv6⟩ : ∃ v, v = v5.alloc (.cells #[] 40) := ⟨_, rfl⟩
          obtain ⟨_, hx6, hs6⟩ := box_made hv6
          have Xv6 := Lib.hid (Xv5.out.step hx6)
          have HRX6 := Lib.hid (HRX5.out.to hx6)
          have HRY6 := Lib.hid (HRY5.out.to hx6)
          have HRZ6 := Lib.hid (HRZ5.out.to hx6)
          have Hv6 := Lib.hid hv6
          clear hv6 hx6 hs6
          have HRd6 := Lib.hid HRX6.out.rdi
          have hx30 := HJx.out.2
          have hy30 := HJy.out.2
          have hz30 := HJz.out
          have HB0 := Lib.hid (show (0 + jx : Nat) ≤ maxLen ∧ (0 + jx) * 16 ≤ 140737488355328 ∧ (jx + jy : Nat) ≤ maxLen ∧ (jx + jy) * 16 ≤ 140737488355328 by unfold maxLen; omega)
          clear hx30 hy30 hz30
          go_wp2_with (first
            | (at_builtin
               first
                 | (rw [← Hv6.out]
                    refine wpList_append_xg v6 (by rfl) (.tmp 113) (.tmp 114) 31 rfl 40 i0 _ 2 16 Try.underlying31 hi0 hz0 hz1 hz2 rfl (by omega) v6.heap.size [] (.slice (some ⟨v5.heap.size, 0, none⟩) 0 0) 0 [] rfl (RowX.nil _ _ _ _ _ _) AX jx cx (flat itc (inn row a b)) rfl HRd6.out (flat_one itc_one _) HB0.out.1 HB0.out.2.1 (Nat.le_refl _) (fun b hb => by cases hb) ?_
                    intro A7 c7 v7 hr7 ap7
                    have Xv7 := Lib.hid (ap7.old v6 (Ext.refl _) (Nat.le_refl _))
                    have HR7 := Lib.hid (show RowX v7 v6.heap.size [] 40 2 (.slice A7 jx c7) jx (flat itc (inn row a b)) by simpa using hr7)
                    clear hr7 ap7)
                 | (refine wpList_append_xg v7 (by rfl) (.tmp 115) (.tmp 116) 31 rfl 40 i0 _ 2 16 Try.underlying31 hi0 hz0 hz1 hz2 rfl (by omega) v6.heap.size [] (.slice A7 jx c7) jx _ rfl HR7.out AY jy cy (flat itc (inn row (b + 1) cc)) rfl (HRY6.out.to Xv7.out).rdi (flat_one itc_one _) HB0.out.2.2.1 HB0.out.2.2.2 Xv7.out.size (fun b hb => by cases hb) ?_
                    intro A8 c8 v8 hr8 ap8
                    have Xv8 := Lib.hid (ap8.old v6 Xv7.out (Nat.le_refl _))
                    have HR8 := Lib.hid hr8
                    clear hr8 ap8)))
          have HFin := Lib.hid (show RdI v8 A8 (jx + jy) (inn row a cc) by
            have h1 := HR8.out.rd
            rwa [flat_append, HPt.out] at h1)
          have HSm := Lib.hid (spSame_is A8 AZ (jx + jy) jz c8 cz (inn row a cc) (inn row a cc) v8 HFin.out (HRZ6.out.to Xv8.out).rdi (by have h1 := HJx.out.2; have h2 := HJy.out.2; omega))
          rw [decide_eq_true rfl] at HSm
          refine HSm.out.mono ?_
          rintro e v9 ⟨rfl, hx9⟩
          have Xv9 := Lib.hid (Xv6.out.step (Xv8.out.step hx9))
          clear hx9
          go_wp2_with fail
          go_ret
          exact ⟨rfl, Xv9.out⟩
        · go_wp2_with fail
          clear q0 q1
          have hw1 : wrap64 (M + 1) = M + 1 := w64r _ (by omega) (by omega)
          have HW1 := Lib.hid hw1
          clear hw1
          have HPt := Lib.hid (inn_parts HS.out (a := L) (m := M) (b := H) (by omega) (by omega))
          clear hbd
          have HC := Lib.hid (av_all (c := c1) (d := d1) HAv.out HMr.out L M _ (Ext.refl _))
          unfold AllA at HC
          refine HC.out.mono ?_
          rintro e v2 ⟨AX, jx, cx, rfl, hrx, hx2⟩
          have HRX2 := Lib.hid hrx
          have HBx2 := Lib.hid (HBx.out.to hx2)
          have HAv2 := Lib.hid (HAv.out.to hx2)
          have Xv2 := Lib.hid (Xv1.out.step hx2)
          have q0 : v2.cell? ⟨bx, 0, none⟩ = some (.slice A1 n1 c1) := HBx2.out.cell 0
          have q1 : v2.cell? ⟨bx, 1, none⟩ = some (.slice B1 m1 d1) := HBx2.out.cell 1
          clear hrx hx2 HC
          go_wp2_with fail
          rw [HW1.out]
          have HC := Lib.hid (av_all (c := c1) (d := d1) HAv2.out HMr.out (M + 1) H _ (Ext.refl _))
          unfold AllA at HC
          refine HC.out.mono ?_
          rintro e v3 ⟨AY, jy, cy, rfl, hry, hx3⟩
          have HRX3 := Lib.hid (HRX2.out.to hx3)
          have HRY3 := Lib.hid hry
          have HBx3 := Lib.hid (HBx2.out.to hx3)
          have HAv3 := Lib.hid (HAv2.out.to hx3)
          have Xv3 := Lib.hid (Xv2.out.step hx3)
          have q0 : v3.cell? ⟨bx, 0, none⟩ = some (.slice A1 n1 c1) := HBx3.out.cell 0
          have q1 : v3.cell? ⟨bx, 1, none⟩ = some (.slice B1 m1 d1) := HBx3.out.cell 1
          clear hry hx3 HC
          go_wp2_with fail
          have HC := Lib.hid (av_all (c := c1) (d := d1) HAv3.out HMr.out L H _ (Ext.refl _))
          unfold AllA at HC
          refine HC.out.mono ?_
          rintro e v4 ⟨AZ, jz, cz, rfl, hrz, hx4⟩
          have HRX4 := Lib.hid (HRX3.out.to hx4)
          have HRY4 := Lib.hid (HRY3.out.to hx4)
          have HRZ4 := Lib.hid hrz
          have Xv4 := Lib.hid (Xv3.out.step hx4)
          clear hrz hx4 HC q0 q1
          go_wp2_with fail
          refine (HAl.out _).mono ?_
          rintro e v5 ⟨rfl, hx5⟩
          have Xv5 := Lib.hid (Xv4.out.step hx5)
          have HRX5 := Lib.hid (HRX4.out.to hx5)
          have HRY5 := Lib.hid (HRY4.out.to hx5)
          have HRZ5 := Lib.hid (HRZ4.out.to hx5)
          clear hx5
          have HJx := Lib.hid (show jx = (inn row L M).length ∧ jx ≤ 30 from ⟨HRX5.out.len, by have h1 := HRX5.out.len; have h2 := inn_len row L M; have := HL2.out; omega⟩)
          have HJy := Lib.hid (show jy = (inn row (M + 1) H).length ∧ jy ≤ 30 from ⟨HRY5.out.len, by have h1 := HRY5.out.len; have h2 := inn_len row (M + 1) H; have := HL2.out; omega⟩)
          have HJz := Lib.hid (show jz ≤ 30 by have h1 := HRZ5.out.len; have h2 := inn_len row L H; have := HL2.out; omega)
          obtain ⟨v6, hv6⟩ : ∃ v, v = v5.alloc (.cells #[] 40) := ⟨_, rfl⟩
          obtain ⟨_, hx6, hs6⟩ := box_made hv6
          have Xv6 := Lib.hid (Xv5.out.step hx6)
          have HRX6 := Lib.hid (HRX5.out.to hx6)
          have HRY6 := Lib.hid (HRY5.out.to hx6)
          have HRZ6 := Lib.hid (HRZ5.out.to hx6)
          have Hv6 := Lib.hid hv6
          clear hv6 hx6 hs6
          have HRd6 := Lib.hid HRX6.out.rdi
          have hx30 := HJx.out.2
          have hy30 := HJy.out.2
          have hz30 := HJz.out
          have HB0 := Lib.hid (show (0 + jx : Nat) ≤ maxLen ∧ (0 + jx) * 16 ≤ 140737488355328 ∧ (jx + jy : Nat) ≤ maxLen ∧ (jx + jy) * 16 ≤ 140737488355328 by unfold maxLen; omega)
          clear hx30 hy30 hz30
          go_wp2_with (first
            | (at_builtin
               first
                 | (rw [← Hv6.out]
                    refine wpList_append_xg v6 (by rfl) (.tmp 113) (.tmp 114) 31 rfl 40 i0 _ 2 16 Try.underlying31 hi0 hz0 hz1 hz2 rfl (by omega) v6.heap.size [] (.slice (some ⟨v5.heap.size, 0, none⟩) 0 0) 0 [] rfl (RowX.nil _ _ _ _ _ _) AX jx cx (flat itc (inn row L M)) rfl HRd6.out (flat_one itc_one _) HB0.out.1 HB0.out.2.1 (Nat.le_refl _) (fun b hb => by cases hb) ?_
                    intro A7 c7 v7 hr7 ap7
                    have Xv7 := Lib.hid (ap7.old v6 (Ext.refl _) (Nat.le_refl _))
                    have HR7 := Lib.hid (show RowX v7 v6.heap.size [] 40 2 (.slice A7 jx c7) jx (flat itc (inn row L M)) by simpa using hr7)
                    clear hr7 ap7)
                 | (refine wpList_append_xg v7 (by rfl) (.tmp 115) (.tmp 116) 31 rfl 40 i0 _ 2 16 Try.underlying31 hi0 hz0 hz1 hz2 rfl (by omega) v6.heap.size [] (.slice A7 jx c7) jx _ rfl HR7.out AY jy cy (flat itc (inn row (M + 1) H)) rfl (HRY6.out.to Xv7.out).rdi (flat_one itc_one _) HB0.out.2.2.1 HB0.out.2.2.2 Xv7.out.size (fun b hb => by cases hb) ?_
                    intro A8 c8 v8 hr8 ap8
                    have Xv8 := Lib.hid (ap8.old v6 Xv7.out (Nat.le_refl _))
                    have HR8 := Lib.hid hr8
                    clear hr8 ap8)))
          have HFin := Lib.hid (show RdI v8 A8 (jx + jy) (inn row L H) by
            have h1 := HR8.out.rd
            rwa [flat_append, HPt.out] at h1)
          have HSm := Lib.hid (spSame_is A8 AZ (jx + jy) jz c8 cz (inn row L H) (inn row L H) v8 HFin.out (HRZ6.out.to Xv8.out).rdi (by have h1 := HJx.out.2; have h2 := HJy.out.2; omega))
          rw [decide_eq_true rfl] at HSm
          refine HSm.out.mono ?_
          rintro e v9 ⟨rfl, hx9⟩
          have Xv9 := Lib.hid (Xv6.out.step (Xv8.out.step hx9))
          clear hx9
          go_wp2_with fail
          go_ret
          exact ⟨rfl, Xv9.out⟩

theorem SpanParts_walk (w : World) (A : Option Addr) (n c : Nat) (zs : List Int) (h : Rd w 1 A n (Ks .i64 zs)) (hn : n ≤ c) (hc : c ≤ maxLen) (_ : ∀ z ∈ zs, (Lit.int .i64 z).wf = true) (low : Int) (_ : (Lit.int .i64 low).wf = true) (mid : Int) (_ : (Lit.int .i64 mid).wf = true) (high : Int) (_ : (Lit.int .i64 high).wf = true) :
    Calls Try.prog 5 #[.slice A n c, .int .i64 low, .int .i64 mid, .int .i64 high] w fun e w' => e = .returned (.bool true) ∧ Ext w w' :=
  sparts_m A n c zs low mid high w h hn hc

end Go.Proofs.Ythgaogbpkedjcaa
