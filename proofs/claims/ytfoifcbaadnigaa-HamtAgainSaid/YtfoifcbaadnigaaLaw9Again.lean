/-
  The walk of HamtAgain.
-/
import Derived.Test.YtfoifcbaadnigaaHtLaw
import Derived.Test.YtfoifcbaadnigaaGF
set_option linter.unusedVariables false
set_option linter.unusedSimpArgs false
namespace Go.Proofs.Ytfoifcbaadnigaa
open Go.RowKit

set_option maxHeartbeats 25600000 in
set_option maxRecDepth 100000 in
theorem again9_m (A : Option Addr) (n c : Nat) (zs : List Int) (key v : Int) (w : World) (h : Rd w 1 A n (Ks .i64 zs)) (hnc : n ≤ c) (hc : c ≤ maxLen) :
    Calls Try.prog 5 #[.slice A n c, .int .i64 key, .int .i64 v] w fun e w' => e = .returned (.bool true) ∧ Ext w w' := by
  have HAl := Lib.hid (fun W => alive9_is W)
  obtain ⟨K, hK, hKI⟩ := key60' key
  have HK := Lib.hid hK
  have HKI := Lib.hid hKI
  clear hK hKI
  have HH := Lib.hid h
  have hlen := h.1
  have HL := Lib.hid (show zs.length = n by simpa [Ks] using hlen)
  have hBn : n = 0 ∨ ∃ ad, A = some ad := by
    rcases Nat.eq_zero_or_pos n with h' | h'
    · exact .inl h'
    · exact .inr (HH.out.some_ h' (by omega))
  have hA : A = none → n = 0 := fun e => by
    rcases hBn with h' | ⟨ad, h'⟩
    · exact h'
    · rw [e] at h'; cases h'
  simp only [maxLen] at hc
  clear h hlen
  go_enter Try.func5, Try.ntmps5
  go_wp2_with fail
  go_loopw [7, 26, 8, 9] (fun rv j _ _ wr => Hid (Ext w wr) ∧ ∃ k : Nat, k ≤ n ∧ j = .int .i64 k ∧ Hid (∃ row, RdR wr rv row ∧ Sm row ∧ row.length ≤ k ∧ row.length ≤ 12)) (fun _ j _ _ _ => n - (intOf j).toNat)
  case atStart => exact ⟨Lib.hid ((Ext.refl _).new _), 0, Nat.zero_le _, rfl, Lib.hid ⟨[], RdR.nilq _ _, Sm.nil, by simp, by simp⟩⟩
  case round =>
    obtain ⟨hx, k, hk, rfl, hR⟩ := hrel
    rename World => w4
    obtain ⟨row, hr, hs, hl1, hl2⟩ := hR.out
    obtain ⟨AR, jr, cR, hv, hrow, hjr⟩ := hr.sl
    subst hv
    have HS := Lib.hid hs
    have HRow := Lib.hid hrow
    have HL1 := Lib.hid hl1
    have HL2 := Lib.hid hl2
    have HJr := Lib.hid hjr
    clear hr hs hl1 hl2 hR hrow hjr
    by_cases hlt : k < n
    · obtain ⟨ad, rfl⟩ : ∃ ad, A = some ad := by
        rcases hBn with h' | h'
        · omega
        · exact h'
      obtain ⟨z1, hz1⟩ : ∃ z, zs[k]? = some z := ⟨_, List.getElem?_eq_getElem (by have := HL.out; omega)⟩
      have c0 : w4.cell? (ad.add k) = some (.int .i64 z1) := (HH.out.to hx.out).cells k _ (by simp [Ks, hz1])
      have hnk : ¬ n ≤ k := by omega
      clear hz1
      by_cases hk2 : k < 12
      · obtain ⟨KZ, hKZ, hKZI⟩ := key60' z1
        have HKZ := Lib.hid hKZI
        clear hKZI
        have HP := Lib.hid (rdr_put HRow.out (by have := HL2.out; omega) HS.out.1 KZ)
        go_wp2_with fail
        refine (HP.out _ _ (Ext.refl _)).mono ?_
        rintro e w5 ⟨A5, j5, c5, rfl, hr5, hx5⟩
        have HR5 := Lib.hid (show ∃ row', RdR w5 (.slice A5 j5 c5) row' ∧ Sm row' ∧ row'.length ≤ k + 1 ∧ row'.length ≤ 12 from ⟨_, hr5, HS.out.put HKZ.out _, Nat.le_trans (putR_len1 HS.out.1) (by have := HL1.out; omega), Nat.le_trans (putR_len1 HS.out.1) (by have := HL1.out; omega)⟩)
        have X5 := Lib.hid (hx.out.step hx5)
        clear hr5 hx5 c0 HP
        go_wp2_with fail
        go_roundw
        case rel => exact ⟨X5, k + 1, by omega, by go_num, HR5⟩
        case measure => simp [intOf]; omega
      · have HR5 := Lib.hid (show ∃ row', RdR w4 (.slice AR jr cR) row' ∧ Sm row' ∧ row'.length ≤ k + 1 ∧ row'.length ≤ 12 from ⟨row, HRow.out, HS.out, by have := HL1.out; omega, HL2.out⟩)
        go_wp2_with fail
        go_roundw
        case rel => exact ⟨hx, k + 1, by omega, by go_num, HR5⟩
        case measure => simp [intOf]; omega
    · have hge : n ≤ k := by omega
      clear hlt
      have HB := Lib.hid (tv_build HRow.out HS.out 400 (by omega) (by omega) (by have h1 := need_le HL2.out; omega) w4 (Ext.refl _))
      rw [show ((400 : Nat) : Int) = 400 from rfl] at HB
      unfold BuildT at HB
      have HX4 := hx
      have hK := HK.out
      have HLp := Lib.hid (show (putR row K v).length ≤ 21 from Nat.le_trans (putR_len1 HS.out.1) (by have := HL2.out; omega))
      go_wp2_with fail
      clear hK
      refine HB.out.mono ?_
      rintro e v1 ⟨A1, n1, c1, B1, m1, d1, ns1, fs1, r, rfl, hav, hmp, hfr, hx⟩
      obtain ⟨v1b, hb⟩ : ∃ wb, wb = v1.alloc (.cells #[.slice A1 n1 c1, .slice B1 m1 d1] 26) := ⟨_, rfl⟩
      obtain ⟨Bb, hxb, hsb⟩ := box_made hb
      have Xv1 := Lib.hid (HX4.out.step (hx.step hxb))
      have HRow := Lib.hid (HRow.out.to (hx.step hxb))
      have HAv1 := Lib.hid (hav.to hxb)
      have HMr := Lib.hid (hmp)
      have HF1 := Lib.hid (show 270 ≤ fs1.length from by have h1 := need_le HL2.out; omega)
      have HBa := Lib.hid Bb
      have Hwv1 := Lib.hid hb
      obtain ⟨ba, hbb⟩ : ∃ b, b = v1.heap.size := ⟨_, rfl⟩
      have Hbba := Lib.hid hbb
      rw [← hbb] at HBa
      have q0 : v1b.cell? ⟨ba, 0, none⟩ = some (.slice A1 n1 c1) := HBa.out.cell 0
      have q1 : v1b.cell? ⟨ba, 1, none⟩ = some (.slice B1 m1 d1) := HBa.out.cell 1
      rw [hb] at q0 q1
      rw [hbb] at q0 q1
      clear hav hmp hfr
      clear hb hxb hsb Bb hbb hx
      go_wp2_with fail
      rw [← Hwv1.out, ← Hbba.out]
      clear q0 q1
      have HC := Lib.hid (tv_put (c := c1) (d := d1) HAv1.out HMr.out HS.out K v HKI.out (by have := HF1.out; omega) _ (Ext.refl _))
      unfold MadeT at HC
      refine HC.out.mono ?_
      rintro e v2 ⟨A2, n2, c2, B2, m2, d2, ns2, fs2, s, rfl, hav, hg, hmx, hx⟩
      obtain ⟨v2b, hb⟩ : ∃ wb, wb = v2.alloc (.cells #[.slice A2 n2 c2, .slice B2 m2 d2] 26) := ⟨_, rfl⟩
      obtain ⟨Bb, hxb, hsb⟩ := box_made hb
      have Xv2 := Lib.hid (Xv1.out.step (hx.step hxb))
      have HRow := Lib.hid (HRow.out.to (hx.step hxb))
      have HAv1 := Lib.hid (HAv1.out.to (hx.step hxb))
      have HBa := Lib.hid (HBa.out.to (hx.step hxb))
      have HAv2 := Lib.hid (hav.to hxb)
      have HMs := Lib.hid (hmx)
      have HF2 := Lib.hid (show 250 ≤ fs2.length from by have := HF1.out; have := hg.few; omega)
      have HBb := Lib.hid Bb
      have Hwv2 := Lib.hid hb
      obtain ⟨bb, hbb⟩ : ∃ b, b = v2.heap.size := ⟨_, rfl⟩
      have Hbbb := Lib.hid hbb
      rw [← hbb] at HBb
      have q0 : v2b.cell? ⟨bb, 0, none⟩ = some (.slice A2 n2 c2) := HBb.out.cell 0
      have q1 : v2b.cell? ⟨bb, 1, none⟩ = some (.slice B2 m2 d2) := HBb.out.cell 1
      rw [hb] at q0 q1
      rw [hbb] at q0 q1
      clear hav hg hmx
      clear hb hxb hsb Bb hbb hx
      go_wp2_with fail
      rw [← Hwv2.out, ← Hbbb.out]
      clear q0 q1
      have HC := Lib.hid (tv_del (c := c2) (d := d2) HAv2.out HMs.out (HS.out.put HKI.out v) K HKI.out (has_put' _ _ _) (by have := HF2.out; omega) _ (Ext.refl _))
      rw [del_put' HS.out.1] at HC
      unfold MadeT at HC
      refine HC.out.mono ?_
      rintro e v3 ⟨A3, n3, c3, B3, m3, d3, ns3, fs3, t, rfl, hav, hg, hmx, hx⟩
      obtain ⟨v3b, hb⟩ : ∃ wb, wb = v3.alloc (.cells #[.slice A3 n3 c3, .slice B3 m3 d3] 26) := ⟨_, rfl⟩
      obtain ⟨Bb, hxb, hsb⟩ := box_made hb
      have Xv3 := Lib.hid (Xv2.out.step (hx.step hxb))
      have HRow := Lib.hid (HRow.out.to (hx.step hxb))
      have HAv1 := Lib.hid (HAv1.out.to (hx.step hxb))
      have HBa := Lib.hid (HBa.out.to (hx.step hxb))
      have HAv2 := Lib.hid (HAv2.out.to (hx.step hxb))
      have HBb := Lib.hid (HBb.out.to (hx.step hxb))
      have HAv3 := Lib.hid (hav.to hxb)
      have HMt := Lib.hid (hmx)
      have HBc := Lib.hid Bb
      have Hwv3 := Lib.hid hb
      obtain ⟨bc, hbb⟩ : ∃ b, b = v3.heap.size := ⟨_, rfl⟩
      have Hbbc := Lib.hid hbb
      rw [← hbb] at HBc
      have q0 : v3b.cell? ⟨bb, 0, none⟩ = some (.slice A2 n2 c2) := HBb.out.cell 0
      have q1 : v3b.cell? ⟨bb, 1, none⟩ = some (.slice B2 m2 d2) := HBb.out.cell 1
      rw [hb] at q0 q1
      clear hav hg hmx
      clear hb hxb hsb Bb hbb hx
      go_wp2_with fail
      rw [← Hwv3.out, ← Hbbc.out]
      clear q0 q1
      have HC := Lib.hid (tv_put (c := c2) (d := d2) HAv2.out HMs.out (HS.out.put HKI.out v) K v HKI.out (by have := HF2.out; omega) _ (Ext.refl _))
      rw [put_put' HS.out.1] at HC
      unfold MadeT at HC
      refine HC.out.mono ?_
      rintro e v4 ⟨A4, n4, c4, B4, m4, d4, ns4, fs4, u, rfl, hav, hg, hmx, hx⟩
      obtain ⟨v4b, hb⟩ : ∃ wb, wb = v4.alloc (.cells #[.slice A4 n4 c4, .slice B4 m4 d4] 26) := ⟨_, rfl⟩
      obtain ⟨Bb, hxb, hsb⟩ := box_made hb
      have Xv4 := Lib.hid (Xv3.out.step (hx.step hxb))
      have HRow := Lib.hid (HRow.out.to (hx.step hxb))
      have HAv1 := Lib.hid (HAv1.out.to (hx.step hxb))
      have HBa := Lib.hid (HBa.out.to (hx.step hxb))
      have HAv2 := Lib.hid (HAv2.out.to (hx.step hxb))
      have HBb := Lib.hid (HBb.out.to (hx.step hxb))
      have HAv3 := Lib.hid (HAv3.out.to (hx.step hxb))
      have HBc := Lib.hid (HBc.out.to (hx.step hxb))
      have HAv4 := Lib.hid (hav.to hxb)
      have HMu := Lib.hid (hmx)
      have HBd := Lib.hid Bb
      have Hwv4 := Lib.hid hb
      obtain ⟨bd, hbb⟩ : ∃ b, b = v4.heap.size := ⟨_, rfl⟩
      have Hbbd := Lib.hid hbb
      rw [← hbb] at HBd
      have q0 : v4b.cell? ⟨bb, 0, none⟩ = some (.slice A2 n2 c2) := HBb.out.cell 0
      have q1 : v4b.cell? ⟨bb, 1, none⟩ = some (.slice B2 m2 d2) := HBb.out.cell 1
      rw [hb] at q0 q1
      clear hav hg hmx
      clear hb hxb hsb Bb hbb hx
      go_wp2_with fail
      rw [← Hwv4.out, ← Hbbd.out]
      clear q0 q1
      obtain ⟨jn, hjn⟩ : ∃ q, q = (putR row K v).length := ⟨_, rfl⟩
      have HC := Lib.hid (tv_size (c := c2) (d := d2) HAv2.out HMs.out (by have := HLp.out; omega) _ (Ext.refl _))
      rw [← hjn] at HC
      have HJn := Lib.hid hjn
      clear hjn
      refine HC.out.mono ?_
      rintro e v5 ⟨rfl, hx⟩
      have Xv5 := Lib.hid (Xv4.out.step hx)
      have HRow := Lib.hid (HRow.out.to hx)
      have HAv1 := Lib.hid (HAv1.out.to hx)
      have HBa := Lib.hid (HBa.out.to hx)
      have HAv2 := Lib.hid (HAv2.out.to hx)
      have HBb := Lib.hid (HBb.out.to hx)
      have HAv3 := Lib.hid (HAv3.out.to hx)
      have HBc := Lib.hid (HBc.out.to hx)
      have HAv4 := Lib.hid (HAv4.out.to hx)
      have HBd := Lib.hid (HBd.out.to hx)
      clear hx
      go_wp2_with fail
      have HSS := Lib.hid (fun W (hW : Ext v5 W) => show ((W.cell? ⟨bc, 0, none⟩ = some (.slice A3 n3 c3) ∧ W.cell? ⟨bc, 1, none⟩ = some (.slice B3 m3 d3)) ∧ W.cell? ⟨bd, 0, none⟩ = some (.slice A4 n4 c4) ∧ W.cell? ⟨bd, 1, none⟩ = some (.slice B4 m4 d4)) from ⟨⟨(HBc.out.to hW).cell 0, (HBc.out.to hW).cell 1⟩, (HBd.out.to hW).cell 0, (HBd.out.to hW).cell 1⟩)
      have HDel := Lib.hid (rdr_del HRow.out (by have := HL2.out; omega) K)
      have HPut := Lib.hid (rdr_put HRow.out (by have := HL2.out; omega) HS.out.1 K v)
      unfold RowS at HDel HPut
      have hS0 : Ext v5 (v5).drew := (Ext.refl _).drew
      refine wp_region_held (S := fun W => Ext v5 W) (by kernel_rfl) ?_
      refine held_one2 (i := 0) (by kernel_rfl) rfl (by rfl) ?_
      go_simp
      refine (HAl.out _).mono ?_
      rintro e z1 ⟨rfl, hx⟩
      have hS1 : Ext v5 z1 := Ext.step hS0 hx
      clear hx hS0
      refine ⟨hS1, ?_⟩
      try simp only [Act.put, List.getElem_toArray, List.getElem_cons_succ, List.getElem_cons_zero, List.setIfInBounds_toArray, List.set_cons_zero, List.set_cons_succ]
      refine wpAnyH_take (i := 1) (v := .bool true) rfl (by kernel_rfl) (by kernel_rfl) (by kernel_rfl) (fun _ _ _ h => h) (Or.inl ⟨by rfl, by intro W hW; obtain ⟨⟨g0, g1⟩, g2, g3⟩ := HSS.out W hW; go_simp⟩) hS1 ?_
      try simp only [Act.put, List.getElem_toArray, List.getElem_cons_succ, List.getElem_cons_zero, List.setIfInBounds_toArray, List.set_cons_zero, List.set_cons_succ]
      refine wpAnyH_take (i := 2) (v := .int .i64 0) rfl (by kernel_rfl) (by kernel_rfl) (by kernel_rfl) (fun _ _ _ h => h) (Or.inl ⟨by rfl, by intro W hW; obtain ⟨⟨g0, g1⟩, g2, g3⟩ := HSS.out W hW; go_simp⟩) hS1 ?_
      try simp only [Act.put, List.getElem_toArray, List.getElem_cons_succ, List.getElem_cons_zero, List.setIfInBounds_toArray, List.set_cons_zero, List.set_cons_succ]
      refine wpAnyH_take (i := 3) (v := .bool true) rfl (by kernel_rfl) (by kernel_rfl) (by kernel_rfl) (fun _ _ _ h => h) (Or.inl ⟨by rfl, by intro W hW; obtain ⟨⟨g0, g1⟩, g2, g3⟩ := HSS.out W hW; go_simp⟩) hS1 ?_
      try simp only [Act.put, List.getElem_toArray, List.getElem_cons_succ, List.getElem_cons_zero, List.setIfInBounds_toArray, List.set_cons_zero, List.set_cons_succ]
      refine wpAnyH_take (i := 4) (v := .bool true) rfl (by kernel_rfl) (by kernel_rfl) (by kernel_rfl) (fun _ _ _ h => h) (Or.inl ⟨by rfl, by intro W hW; obtain ⟨⟨g0, g1⟩, g2, g3⟩ := HSS.out W hW; go_simp⟩) hS1 ?_
      try simp only [Act.put, List.getElem_toArray, List.getElem_cons_succ, List.getElem_cons_zero, List.setIfInBounds_toArray, List.set_cons_zero, List.set_cons_succ]
      refine wpAnyH_take (i := 5) (v := .bool true) rfl (by kernel_rfl) (by kernel_rfl) (by kernel_rfl) (fun _ _ _ h => h) (Or.inl ⟨by rfl, by intro W hW; obtain ⟨⟨g0, g1⟩, g2, g3⟩ := HSS.out W hW; go_simp⟩) hS1 ?_
      try simp only [Act.put, List.getElem_toArray, List.getElem_cons_succ, List.getElem_cons_zero, List.setIfInBounds_toArray, List.set_cons_zero, List.set_cons_succ]
      refine wpAnyH_take (i := 6) (v := .int .i64 0) rfl (by kernel_rfl) (by kernel_rfl) (by kernel_rfl) (fun _ _ _ h => h) (Or.inl ⟨by rfl, by intro W hW; obtain ⟨⟨g0, g1⟩, g2, g3⟩ := HSS.out W hW; go_simp⟩) hS1 ?_
      try simp only [Act.put, List.getElem_toArray, List.getElem_cons_succ, List.getElem_cons_zero, List.setIfInBounds_toArray, List.set_cons_zero, List.set_cons_succ]
      refine wpAnyH_take (i := 7) (v := .bool true) rfl (by kernel_rfl) (by kernel_rfl) (by kernel_rfl) (fun _ _ _ h => h) (Or.inl ⟨by rfl, by intro W hW; obtain ⟨⟨g0, g1⟩, g2, g3⟩ := HSS.out W hW; go_simp⟩) hS1 ?_
      try simp only [Act.put, List.getElem_toArray, List.getElem_cons_succ, List.getElem_cons_zero, List.setIfInBounds_toArray, List.set_cons_zero, List.set_cons_succ]
      refine wpAnyH_take (i := 8) (v := .bool true) rfl (by kernel_rfl) (by kernel_rfl) (by kernel_rfl) (fun _ _ _ h => h) (Or.inl ⟨by rfl, by intro W hW; obtain ⟨⟨g0, g1⟩, g2, g3⟩ := HSS.out W hW; go_simp⟩) hS1 ?_
      try simp only [Act.put, List.getElem_toArray, List.getElem_cons_succ, List.getElem_cons_zero, List.setIfInBounds_toArray, List.set_cons_zero, List.set_cons_succ]
      refine wpAnyH_take (i := 9) (v := .bool true) rfl (by kernel_rfl) (by kernel_rfl) (by kernel_rfl) (fun _ _ _ h => h) (Or.inl ⟨by rfl, by intro W hW; obtain ⟨⟨g0, g1⟩, g2, g3⟩ := HSS.out W hW; go_simp⟩) hS1 ?_
      try simp only [Act.put, List.getElem_toArray, List.getElem_cons_succ, List.getElem_cons_zero, List.setIfInBounds_toArray, List.set_cons_zero, List.set_cons_succ]
      refine wpAnyH_take (i := 10) (v := .int .i64 0) rfl (by kernel_rfl) (by kernel_rfl) (by kernel_rfl) (fun _ _ _ h => h) (Or.inl ⟨by rfl, by intro W hW; obtain ⟨⟨g0, g1⟩, g2, g3⟩ := HSS.out W hW; go_simp⟩) hS1 ?_
      try simp only [Act.put, List.getElem_toArray, List.getElem_cons_succ, List.getElem_cons_zero, List.setIfInBounds_toArray, List.set_cons_zero, List.set_cons_succ]
      refine wpAnyH_take (i := 11) (v := .bool true) rfl (by kernel_rfl) (by kernel_rfl) (by kernel_rfl) (fun _ _ _ h => h) (Or.inl ⟨by rfl, by intro W hW; obtain ⟨⟨g0, g1⟩, g2, g3⟩ := HSS.out W hW; go_simp⟩) hS1 ?_
      try simp only [Act.put, List.getElem_toArray, List.getElem_cons_succ, List.getElem_cons_zero, List.setIfInBounds_toArray, List.set_cons_zero, List.set_cons_succ]
      refine wpAnyH_take (i := 12) (v := .bool true) rfl (by kernel_rfl) (by kernel_rfl) (by kernel_rfl) (fun _ _ _ h => h) (Or.inl ⟨by rfl, by intro W hW; obtain ⟨⟨g0, g1⟩, g2, g3⟩ := HSS.out W hW; go_simp⟩) hS1 ?_
      try simp only [Act.put, List.getElem_toArray, List.getElem_cons_succ, List.getElem_cons_zero, List.setIfInBounds_toArray, List.set_cons_zero, List.set_cons_succ]
      refine wpAnyH_take (i := 13) (v := .bool true) rfl (by kernel_rfl) (by kernel_rfl) (by kernel_rfl) (fun _ _ _ h => h) (Or.inl ⟨by rfl, by intro W hW; obtain ⟨⟨g0, g1⟩, g2, g3⟩ := HSS.out W hW; go_simp⟩) hS1 ?_
      try simp only [Act.put, List.getElem_toArray, List.getElem_cons_succ, List.getElem_cons_zero, List.setIfInBounds_toArray, List.set_cons_zero, List.set_cons_succ]
      refine wpAnyH_take (i := 14) (v := .int .i64 0) rfl (by kernel_rfl) (by kernel_rfl) (by kernel_rfl) (fun _ _ _ h => h) (Or.inl ⟨by rfl, by intro W hW; obtain ⟨⟨g0, g1⟩, g2, g3⟩ := HSS.out W hW; go_simp⟩) hS1 ?_
      try simp only [Act.put, List.getElem_toArray, List.getElem_cons_succ, List.getElem_cons_zero, List.setIfInBounds_toArray, List.set_cons_zero, List.set_cons_succ]
      refine wpAnyH_take (i := 15) (v := .bool true) rfl (by kernel_rfl) (by kernel_rfl) (by kernel_rfl) (fun _ _ _ h => h) (Or.inl ⟨by rfl, by intro W hW; obtain ⟨⟨g0, g1⟩, g2, g3⟩ := HSS.out W hW; go_simp⟩) hS1 ?_
      try simp only [Act.put, List.getElem_toArray, List.getElem_cons_succ, List.getElem_cons_zero, List.setIfInBounds_toArray, List.set_cons_zero, List.set_cons_succ]
      refine wpAnyH_take (i := 16) (v := .bool true) rfl (by kernel_rfl) (by kernel_rfl) (by kernel_rfl) (fun _ _ _ h => h) (Or.inl ⟨by rfl, by intro W hW; obtain ⟨⟨g0, g1⟩, g2, g3⟩ := HSS.out W hW; go_simp⟩) hS1 ?_
      try simp only [Act.put, List.getElem_toArray, List.getElem_cons_succ, List.getElem_cons_zero, List.setIfInBounds_toArray, List.set_cons_zero, List.set_cons_succ]
      refine wpAnyH_take (i := 17) (v := .bool true) rfl (by kernel_rfl) (by kernel_rfl) (by kernel_rfl) (fun _ _ _ h => h) (Or.inl ⟨by rfl, by intro W hW; obtain ⟨⟨g0, g1⟩, g2, g3⟩ := HSS.out W hW; go_simp⟩) hS1 ?_
      try simp only [Act.put, List.getElem_toArray, List.getElem_cons_succ, List.getElem_cons_zero, List.setIfInBounds_toArray, List.set_cons_zero, List.set_cons_succ]
      refine wpAnyH_take (i := 18) (v := .int .i64 jn) rfl (by kernel_rfl) (by kernel_rfl) (by kernel_rfl) (fun _ _ _ h => h) (Or.inl ⟨by rfl, by intro W hW; obtain ⟨⟨g0, g1⟩, g2, g3⟩ := HSS.out W hW; go_simp⟩) hS1 ?_
      try simp only [Act.put, List.getElem_toArray, List.getElem_cons_succ, List.getElem_cons_zero, List.setIfInBounds_toArray, List.set_cons_zero, List.set_cons_succ]
      refine wpAnyH_take (i := 19) (v := .slice AR jr cR) rfl (by kernel_rfl) (by kernel_rfl) (by kernel_rfl) (fun _ _ _ h => h) (Or.inl ⟨by rfl, by intro W hW; obtain ⟨⟨g0, g1⟩, g2, g3⟩ := HSS.out W hW; go_simp⟩) hS1 ?_
      try simp only [Act.put, List.getElem_toArray, List.getElem_cons_succ, List.getElem_cons_zero, List.setIfInBounds_toArray, List.set_cons_zero, List.set_cons_succ]
      refine wpAnyH_take (i := 20) (v := .int .i64 K) rfl (by kernel_rfl) (by kernel_rfl) (by kernel_rfl) (fun _ _ _ h => h) (Or.inl ⟨by rfl, by intro W hW; obtain ⟨⟨g0, g1⟩, g2, g3⟩ := HSS.out W hW; go_simp⟩) hS1 ?_
      try simp only [Act.put, List.getElem_toArray, List.getElem_cons_succ, List.getElem_cons_zero, List.setIfInBounds_toArray, List.set_cons_zero, List.set_cons_succ]
      refine wpAnyH_take (i := 21) (v := .int .i64 v) rfl (by kernel_rfl) (by kernel_rfl) (by kernel_rfl) (fun _ _ _ h => h) (Or.inl ⟨by rfl, by intro W hW; obtain ⟨⟨g0, g1⟩, g2, g3⟩ := HSS.out W hW; go_simp⟩) hS1 ?_
      try simp only [Act.put, List.getElem_toArray, List.getElem_cons_succ, List.getElem_cons_zero, List.setIfInBounds_toArray, List.set_cons_zero, List.set_cons_succ]
      refine held_one2 (i := 22) (by kernel_rfl) rfl (by rfl) ?_
      go_simp
      refine (HPut.out _ hS1).mono ?_
      rintro e z2 ⟨AP, jp, cjp, rfl, hr, hx⟩
      have hS2 : Ext v5 z2 := Ext.step hS1 hx
      have HR2 := Lib.hid hr
      obtain rfl : jn = jp := by rw [hr.len]; exact HJn.out
      clear hx hr hS1
      refine ⟨hS2, ?_⟩
      try simp only [Act.put, List.getElem_toArray, List.getElem_cons_succ, List.getElem_cons_zero, List.setIfInBounds_toArray, List.set_cons_zero, List.set_cons_succ]
      refine wpAnyH_take (i := 23) (v := .int .i64 jn) rfl (by kernel_rfl) (by kernel_rfl) (by kernel_rfl) (fun _ _ _ h => h) (Or.inl ⟨by rfl, by intro W hW; obtain ⟨⟨g0, g1⟩, g2, g3⟩ := HSS.out W hW; go_simp⟩) hS2 ?_
      try simp only [Act.put, List.getElem_toArray, List.getElem_cons_succ, List.getElem_cons_zero, List.setIfInBounds_toArray, List.set_cons_zero, List.set_cons_succ]
      refine wpAnyH_take (i := 24) (v := .bool true) rfl (by kernel_rfl) (by kernel_rfl) (by kernel_rfl) (fun _ _ _ h => h) (Or.inl ⟨by rfl, by intro W hW; obtain ⟨⟨g0, g1⟩, g2, g3⟩ := HSS.out W hW; go_simp⟩) hS2 ?_
      try simp only [Act.put, List.getElem_toArray, List.getElem_cons_succ, List.getElem_cons_zero, List.setIfInBounds_toArray, List.set_cons_zero, List.set_cons_succ]
      refine wpAnyH_take (i := 25) (v := .bool true) rfl (by kernel_rfl) (by kernel_rfl) (by kernel_rfl) (fun _ _ _ h => h) (Or.inl ⟨by rfl, by intro W hW; obtain ⟨⟨g0, g1⟩, g2, g3⟩ := HSS.out W hW; go_simp⟩) hS2 ?_
      try simp only [Act.put, List.getElem_toArray, List.getElem_cons_succ, List.getElem_cons_zero, List.setIfInBounds_toArray, List.set_cons_zero, List.set_cons_succ]
      refine wpAnyH_take (i := 26) (v := .bool true) rfl (by kernel_rfl) (by kernel_rfl) (by kernel_rfl) (fun _ _ _ h => h) (Or.inl ⟨by rfl, by intro W hW; obtain ⟨⟨g0, g1⟩, g2, g3⟩ := HSS.out W hW; go_simp⟩) hS2 ?_
      try simp only [Act.put, List.getElem_toArray, List.getElem_cons_succ, List.getElem_cons_zero, List.setIfInBounds_toArray, List.set_cons_zero, List.set_cons_succ]
      refine wpAnyH_take (i := 27) (v := .agg #[.slice A3 n3 c3, .slice B3 m3 d3]) rfl (by kernel_rfl) (by kernel_rfl) (by kernel_rfl) (fun _ _ _ h => h) (Or.inl ⟨by rfl, by intro W hW; obtain ⟨⟨g0, g1⟩, g2, g3⟩ := HSS.out W hW; go_simp⟩) hS2 ?_
      try simp only [Act.put, List.getElem_toArray, List.getElem_cons_succ, List.getElem_cons_zero, List.setIfInBounds_toArray, List.set_cons_zero, List.set_cons_succ]
      refine wpAnyH_take (i := 28) (v := .int .u64 t) rfl (by kernel_rfl) (by kernel_rfl) (by kernel_rfl) (fun _ _ _ h => h) (Or.inl ⟨by rfl, by intro W hW; obtain ⟨⟨g0, g1⟩, g2, g3⟩ := HSS.out W hW; go_simp⟩) hS2 ?_
      try simp only [Act.put, List.getElem_toArray, List.getElem_cons_succ, List.getElem_cons_zero, List.setIfInBounds_toArray, List.set_cons_zero, List.set_cons_succ]
      refine wpAnyH_take (i := 29) (v := .slice AR jr cR) rfl (by kernel_rfl) (by kernel_rfl) (by kernel_rfl) (fun _ _ _ h => h) (Or.inl ⟨by rfl, by intro W hW; obtain ⟨⟨g0, g1⟩, g2, g3⟩ := HSS.out W hW; go_simp⟩) hS2 ?_
      try simp only [Act.put, List.getElem_toArray, List.getElem_cons_succ, List.getElem_cons_zero, List.setIfInBounds_toArray, List.set_cons_zero, List.set_cons_succ]
      refine wpAnyH_take (i := 30) (v := .int .i64 K) rfl (by kernel_rfl) (by kernel_rfl) (by kernel_rfl) (fun _ _ _ h => h) (Or.inl ⟨by rfl, by intro W hW; obtain ⟨⟨g0, g1⟩, g2, g3⟩ := HSS.out W hW; go_simp⟩) hS2 ?_
      try simp only [Act.put, List.getElem_toArray, List.getElem_cons_succ, List.getElem_cons_zero, List.setIfInBounds_toArray, List.set_cons_zero, List.set_cons_succ]
      refine held_one2 (i := 31) (by kernel_rfl) rfl (by rfl) ?_
      go_simp
      refine (HDel.out _ hS2).mono ?_
      rintro e z3 ⟨AD, jd, cjd, rfl, hr, hx⟩
      have hS3 : Ext v5 z3 := Ext.step hS2 hx
      have HR3 := Lib.hid hr
      clear hx hr hS2
      refine ⟨hS3, ?_⟩
      try simp only [Act.put, List.getElem_toArray, List.getElem_cons_succ, List.getElem_cons_zero, List.setIfInBounds_toArray, List.set_cons_zero, List.set_cons_succ]
      refine held_one2 (i := 32) (by kernel_rfl) rfl (by rfl) ?_
      go_simp
      refine (tv_is (c := c3) (d := d3) (HAv3.out.to hS3) HMt.out (HS.out.del K) HR3.out _ (Ext.refl _)).mono ?_
      rintro e z4 ⟨rfl, hx⟩
      have hS4 : Ext v5 z4 := Ext.step hS3 hx
      clear hx hS3
      refine ⟨hS4, ?_⟩
      try simp only [Act.put, List.getElem_toArray, List.getElem_cons_succ, List.getElem_cons_zero, List.setIfInBounds_toArray, List.set_cons_zero, List.set_cons_succ]
      refine wpAnyH_take (i := 33) (v := .bool true) rfl (by kernel_rfl) (by kernel_rfl) (by kernel_rfl) (fun _ _ _ h => h) (Or.inl ⟨by rfl, by intro W hW; obtain ⟨⟨g0, g1⟩, g2, g3⟩ := HSS.out W hW; go_simp⟩) hS4 ?_
      try simp only [Act.put, List.getElem_toArray, List.getElem_cons_succ, List.getElem_cons_zero, List.setIfInBounds_toArray, List.set_cons_zero, List.set_cons_succ]
      refine wpAnyH_take (i := 34) (v := .bool true) rfl (by kernel_rfl) (by kernel_rfl) (by kernel_rfl) (fun _ _ _ h => h) (Or.inl ⟨by rfl, by intro W hW; obtain ⟨⟨g0, g1⟩, g2, g3⟩ := HSS.out W hW; go_simp⟩) hS4 ?_
      try simp only [Act.put, List.getElem_toArray, List.getElem_cons_succ, List.getElem_cons_zero, List.setIfInBounds_toArray, List.set_cons_zero, List.set_cons_succ]
      refine wpAnyH_take (i := 35) (v := .agg #[.slice A4 n4 c4, .slice B4 m4 d4]) rfl (by kernel_rfl) (by kernel_rfl) (by kernel_rfl) (fun _ _ _ h => h) (Or.inl ⟨by rfl, by intro W hW; obtain ⟨⟨g0, g1⟩, g2, g3⟩ := HSS.out W hW; go_simp⟩) hS4 ?_
      try simp only [Act.put, List.getElem_toArray, List.getElem_cons_succ, List.getElem_cons_zero, List.setIfInBounds_toArray, List.set_cons_zero, List.set_cons_succ]
      refine wpAnyH_take (i := 36) (v := .int .u64 u) rfl (by kernel_rfl) (by kernel_rfl) (by kernel_rfl) (fun _ _ _ h => h) (Or.inl ⟨by rfl, by intro W hW; obtain ⟨⟨g0, g1⟩, g2, g3⟩ := HSS.out W hW; go_simp⟩) hS4 ?_
      try simp only [Act.put, List.getElem_toArray, List.getElem_cons_succ, List.getElem_cons_zero, List.setIfInBounds_toArray, List.set_cons_zero, List.set_cons_succ]
      refine wpAnyH_take (i := 37) (v := .slice AR jr cR) rfl (by kernel_rfl) (by kernel_rfl) (by kernel_rfl) (fun _ _ _ h => h) (Or.inl ⟨by rfl, by intro W hW; obtain ⟨⟨g0, g1⟩, g2, g3⟩ := HSS.out W hW; go_simp⟩) hS4 ?_
      try simp only [Act.put, List.getElem_toArray, List.getElem_cons_succ, List.getElem_cons_zero, List.setIfInBounds_toArray, List.set_cons_zero, List.set_cons_succ]
      refine wpAnyH_take (i := 38) (v := .int .i64 K) rfl (by kernel_rfl) (by kernel_rfl) (by kernel_rfl) (fun _ _ _ h => h) (Or.inl ⟨by rfl, by intro W hW; obtain ⟨⟨g0, g1⟩, g2, g3⟩ := HSS.out W hW; go_simp⟩) hS4 ?_
      try simp only [Act.put, List.getElem_toArray, List.getElem_cons_succ, List.getElem_cons_zero, List.setIfInBounds_toArray, List.set_cons_zero, List.set_cons_succ]
      refine wpAnyH_take (i := 39) (v := .int .i64 v) rfl (by kernel_rfl) (by kernel_rfl) (by kernel_rfl) (fun _ _ _ h => h) (Or.inl ⟨by rfl, by intro W hW; obtain ⟨⟨g0, g1⟩, g2, g3⟩ := HSS.out W hW; go_simp⟩) hS4 ?_
      try simp only [Act.put, List.getElem_toArray, List.getElem_cons_succ, List.getElem_cons_zero, List.setIfInBounds_toArray, List.set_cons_zero, List.set_cons_succ]
      refine held_one2 (i := 40) (by kernel_rfl) rfl (by rfl) ?_
      go_simp
      refine (HPut.out _ hS4).mono ?_
      rintro e z5 ⟨AQ, jq, cjq, rfl, hr, hx⟩
      have hS5 : Ext v5 z5 := Ext.step hS4 hx
      have HR5 := Lib.hid hr
      clear hx hr hS4
      refine ⟨hS5, ?_⟩
      try simp only [Act.put, List.getElem_toArray, List.getElem_cons_succ, List.getElem_cons_zero, List.setIfInBounds_toArray, List.set_cons_zero, List.set_cons_succ]
      refine held_one2 (i := 41) (by kernel_rfl) rfl (by rfl) ?_
      go_simp
      refine (tv_is (c := c4) (d := d4) (HAv4.out.to hS5) HMu.out (HS.out.put HKI.out v) HR5.out _ (Ext.refl _)).mono ?_
      rintro e z6 ⟨rfl, hx⟩
      have hS6 : Ext v5 z6 := Ext.step hS5 hx
      clear hx hS5
      refine ⟨hS6, ?_⟩
      try simp only [Act.put, List.getElem_toArray, List.getElem_cons_succ, List.getElem_cons_zero, List.setIfInBounds_toArray, List.set_cons_zero, List.set_cons_succ]
      refine wpAnyH_take (i := 42) (v := .bool true) rfl (by kernel_rfl) (by kernel_rfl) (by kernel_rfl) (fun _ _ _ h => h) (Or.inl ⟨by rfl, by intro W hW; obtain ⟨⟨g0, g1⟩, g2, g3⟩ := HSS.out W hW; go_simp⟩) hS6 ?_
      try simp only [Act.put, List.getElem_toArray, List.getElem_cons_succ, List.getElem_cons_zero, List.setIfInBounds_toArray, List.set_cons_zero, List.set_cons_succ]
      refine wpAnyH_take (i := 43) (v := .bool true) rfl (by kernel_rfl) (by kernel_rfl) (by kernel_rfl) (fun _ _ _ h => h) (Or.inl ⟨by rfl, by intro W hW; obtain ⟨⟨g0, g1⟩, g2, g3⟩ := HSS.out W hW; go_simp⟩) hS6 ?_
      try simp only [Act.put, List.getElem_toArray, List.getElem_cons_succ, List.getElem_cons_zero, List.setIfInBounds_toArray, List.set_cons_zero, List.set_cons_succ]
      refine ⟨by kernel_rfl, ?_⟩
      have HFin := Lib.hid (Xv5.out.step hS6)
      go_wp2_with fail
      go_ret
      exact ⟨rfl, HFin.out⟩

theorem HamtAgain_walk (w : World) (A : Option Addr) (n c : Nat) (zs : List Int) (h : Rd w 1 A n (Ks .i64 zs)) (hn : n ≤ c) (hc : c ≤ maxLen) (_ : ∀ z ∈ zs, (Lit.int .i64 z).wf = true) (key : Int) (_ : (Lit.int .i64 key).wf = true) (v : Int) (_ : (Lit.int .i64 v).wf = true) :
    Calls Try.prog 5 #[.slice A n c, .int .i64 key, .int .i64 v] w fun e w' => e = .returned (.bool true) ∧ Ext w w' :=
  again9_m A n c zs key v w h hn hc

end Go.Proofs.Ytfoifcbaadnigaa
