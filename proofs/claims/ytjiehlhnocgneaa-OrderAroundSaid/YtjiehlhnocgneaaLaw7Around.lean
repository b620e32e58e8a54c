/-
  The walk of OrderAround.
-/
import Derived.Test.YtjiehlhnocgneaaOrAt
set_option linter.unusedVariables false
set_option linter.unusedSimpArgs false
namespace Go.Proofs.Ytjiehlhnocgneaa
open Go.RowKit

/-- The keys around one, case by case. -/
def Near (row : Row) (key : Int) : Prop :=
  (row.length = 0 ∧ (upto row key).length = 0 ∧ row[(lo row key).length]? = none) ∨
  (∃ zk zv, 0 < row.length ∧ (upto row key).length = 0 ∧ row[(lo row key).length]? = some (zk, zv) ∧ key < zk) ∨
  (∃ xk xv q, row[q]? = some (xk, xv) ∧ (upto row key).length = q + 1 ∧ row[(lo row key).length]? = none ∧ xk < key) ∨
  (∃ v q, row[q]? = some (key, v) ∧ (lo row key).length = q ∧ (upto row key).length = q + 1) ∨
  (∃ xk xv zk zv q, row[q]? = some (xk, xv) ∧ row[q + 1]? = some (zk, zv) ∧ (lo row key).length = q + 1 ∧ (upto row key).length = q + 1 ∧ xk < key ∧ key < zk)
theorem near_is {row : Row} (hs : Srt row) (key : Int) : Near row key := by
  obtain ⟨q, hq, e, h1, h2⟩ := lo_take hs key
  have hlen : (lo row key).length = q := by rw [e, List.length_take]; omega
  have hup := upto_len hs key
  rw [hlen] at hup
  unfold Near
  rw [hlen]
  rcases hup with ⟨v, hv, hu⟩ | ⟨hno, hu⟩
  · exact .inr (.inr (.inr (.inl ⟨v, q, hv, rfl, hu⟩)))
  · by_cases hql : q < row.length
    · obtain ⟨z, hz⟩ : ∃ z, row[q]? = some z := ⟨_, List.getElem?_eq_getElem hql⟩
      obtain ⟨zk, zv⟩ := z
      have hk1 : key ≤ zk := h2 q _ (Nat.le_refl _) hz
      have hk2 : zk ≠ key := fun e => hno zv (by rw [← e]; exact hz)
      rcases Nat.eq_zero_or_pos q with h0 | h0
      · exact .inr (.inl ⟨zk, zv, by omega, by omega, hz, by omega⟩)
      · obtain ⟨p, rfl⟩ : ∃ p, q = p + 1 := ⟨q - 1, by omega⟩
        obtain ⟨x, hx⟩ : ∃ x, row[p]? = some x := ⟨_, List.getElem?_eq_getElem (by omega)⟩
        obtain ⟨xk, xv⟩ := x
        have := h1 p _ (by omega) hx
        exact .inr (.inr (.inr (.inr ⟨xk, xv, zk, zv, p, hx, hz, rfl, hu, this, by omega⟩)))
    · have hn : row[q]? = none := List.getElem?_eq_none (by omega)
      rcases Nat.eq_zero_or_pos q with h0 | h0
      · exact .inl ⟨by omega, by omega, hn⟩
      · obtain ⟨p, rfl⟩ : ∃ p, q = p + 1 := ⟨q - 1, by omega⟩
        obtain ⟨x, hx⟩ : ∃ x, row[p]? = some x := ⟨_, List.getElem?_eq_getElem (by omega)⟩
        obtain ⟨xk, xv⟩ := x
        have := h1 p _ (by omega) hx
        exact .inr (.inr (.inl ⟨xk, xv, p, hx, hu, hn, this⟩))

set_option maxHeartbeats 25600000 in
set_option maxRecDepth 100000 in
theorem oaround_m (A : Option Addr) (n c : Nat) (zs : List Int) (key : Int) (w : World) (h : Rd w 1 A n (Ks .i64 zs)) (hnc : n ≤ c) (hc : c ≤ maxLen) :
    Calls Try.prog 9 #[.slice A n c, .int .i64 key] w fun e w' => e = .returned (.bool true) ∧ Ext w w' := by
  have HAl := Lib.hid (fun W => alive7_is W)
  have HH := Lib.hid h
  have hlen := h.1
  have HL := Lib.hid (show zs.length = n by simpa [Ks] using hlen)
  have hBn : n = 0 ∨ ∃ ad, A = some ad := by
    rcases Nat.eq_zero_or_pos n with h' | h'
    · exact .inl h'
    · exact .inr (HH.out.some_ h' (by omega))
  have hA : A = none → n = 0 := fun e => by
    rcases hBn with h' | ⟨ad, h'⟩
    · exact h'
    · rw [e] at h'; cases h'
  simp only [maxLen] at hc
  clear h hlen
  go_enter Try.func9, Try.ntmps9
  go_wp2_with fail
  go_loopw [5, 22, 6, 7] (fun rv j _ _ wr => Hid (Ext w wr) ∧ ∃ k : Nat, k ≤ n ∧ j = .int .i64 k ∧ Hid (∃ row, RdR wr rv row ∧ Srt row ∧ row.length ≤ k ∧ row.length ≤ 30)) (fun _ j _ _ _ => n - (intOf j).toNat)
  case atStart => exact ⟨Lib.hid (Ext.refl _), 0, Nat.zero_le _, rfl, Lib.hid ⟨[], RdR.nil0 _, by simp [Srt], by simp, by simp⟩⟩
  case round =>
    obtain ⟨hx, k, hk, rfl, hR⟩ := hrel
    rename World => w4
    obtain ⟨row, hr, hs, hl1, hl2⟩ := hR.out
    obtain ⟨AR, jr, cR, hv, hrow, hjr⟩ := hr.sl
    subst hv
    have HS := Lib.hid hs
    have HRow := Lib.hid hrow
    have HL1 := Lib.hid hl1
    have HL2 := Lib.hid hl2
    have HJr := Lib.hid hjr
    clear hr hs hl1 hl2 hR hrow hjr
    by_cases hlt : k < n
    · obtain ⟨ad, rfl⟩ : ∃ ad, A = some ad := by
        rcases hBn with h' | h'
        · omega
        · exact h'
      obtain ⟨z1, hz1⟩ : ∃ z, zs[k]? = some z := ⟨_, List.getElem?_eq_getElem (by have := HL.out; omega)⟩
      have c0 : w4.cell? (ad.add k) = some (.int .i64 z1) := (HH.out.to hx.out).cells k _ (by simp [Ks, hz1])
      have hnk : ¬ n ≤ k := by omega
      clear hz1
      by_cases hk2 : k < 30
      · have HP := Lib.hid (rdr_put HRow.out (by have := HL2.out; omega) HS.out)
        go_wp2_with fail
        refine (HP.out _ _ _ (Ext.refl _)).mono ?_
        rintro e w5 ⟨A5, j5, c5, rfl, hr5, hx5⟩
        have HR5 := Lib.hid (show ∃ row', RdR w5 (.slice A5 j5 c5) row' ∧ Srt row' ∧ row'.length ≤ k + 1 ∧ row'.length ≤ 30 from ⟨_, hr5, HS.out.putR _ _, Nat.le_trans (putR_len1 HS.out) (by have := HL1.out; omega), Nat.le_trans (putR_len1 HS.out) (by have := HL1.out; omega)⟩)
        have X5 := Lib.hid (hx.out.step hx5)
        clear hr5 hx5 c0 HP
        go_wp2_with fail
        go_roundw
        case rel => exact ⟨X5, k + 1, by omega, by go_num, HR5⟩
        case measure => simp [intOf]; omega
      · have HR5 := Lib.hid (show ∃ row', RdR w4 (.slice AR jr cR) row' ∧ Srt row' ∧ row'.length ≤ k + 1 ∧ row'.length ≤ 30 from ⟨row, HRow.out, HS.out, by have := HL1.out; omega, HL2.out⟩)
        go_wp2_with fail
        go_roundw
        case rel => exact ⟨hx, k + 1, by omega, by go_num, HR5⟩
        case measure => simp [intOf]; omega
    · have hge : n ≤ k := by omega
      clear hlt
      have HJ2 := Lib.hid HRow.out.len
      have hj30 : jr ≤ 30 := by have := HJ2.out; have := HL2.out; omega
      obtain ⟨j1, hj1⟩ : ∃ j1, j1 = jr + 1 := ⟨_, rfl⟩
      have e1 : IntKind.i64.wrap ((jr : Int) + 1) = (j1 : Int) := by rw [IntKind.wrap_i64]; omega
      have HB := Lib.hid (av_build HRow.out HS.out j1 (by omega) (by omega) (by have := HJ2.out; omega) (by have := HL2.out; omega) w4 (Ext.refl _))
      unfold BuildV at HB
      have HX4 := hx
      have hnear := near_is HS.out key
      unfold Near at hnear
      rw [← HJ2.out] at hnear
      clear hj1
      go_wp2_with fail
      clear e1
      refine HB.out.mono ?_
      rintro e v1 ⟨A1, n1, c1, B1, m1, d1, ns1, fs1, r, rfl, hav, hmp, hfr, hx⟩
      obtain ⟨v1b, hb⟩ : ∃ wb, wb = v1.alloc (.cells #[.slice A1 n1 c1, .slice B1 m1 d1] 25) := ⟨_, rfl⟩
      obtain ⟨Bb, hxb, hsb⟩ := box_made hb
      have Xv1 := Lib.hid (HX4.out.step (hx.step hxb))
      have HRow := Lib.hid (HRow.out.to (hx.step hxb))
      have HAv1 := Lib.hid (hav.to hxb)
      have HMr := Lib.hid (hmp)
      have HBa := Lib.hid Bb
      have Hwv1 := Lib.hid hb
      obtain ⟨ba, hbb⟩ : ∃ b, b = v1.heap.size := ⟨_, rfl⟩
      have Hbba := Lib.hid hbb
      rw [← hbb] at HBa
      have q0 : v1b.cell? ⟨ba, 0, none⟩ = some (.slice A1 n1 c1) := HBa.out.cell 0
      have q1 : v1b.cell? ⟨ba, 1, none⟩ = some (.slice B1 m1 d1) := HBa.out.cell 1
      rw [hb] at q0 q1
      rw [hbb] at q0 q1
      clear hav hmp hfr
      clear hb hxb hsb Bb hbb hx
      go_wp2_with fail
      rw [← Hwv1.out, ← Hbba.out]
      clear q0 q1
      rcases hnear with ⟨h0, hu, hz⟩ | ⟨zk, zv, h0, hu, hz, hkz⟩ | ⟨xk, xv, q, hq, hu, hz, hxk⟩ | ⟨v, q, hq, hl, hu⟩ | ⟨xk, xv, zk, zv, q, hq, hz, hl, hu, hxk, hkz⟩
      · have Hhu := Lib.hid hu
        have Hhz := Lib.hid hz
        clear hu hz
        have HC := Lib.hid ((av_floor (c := c1) (d := d1) HAv1.out HMr.out key _ (Ext.refl _)).mono fun e w' g => g.no (by rw [if_pos Hhu.out]))
        unfold ItemE at HC
        refine HC.out.mono ?_
        rintro e v2 ⟨rfl, hx⟩
        obtain ⟨v2b, hb⟩ : ∃ wb, wb = v2.alloc (.cells #[.int .i64 0, .int .i64 0] 60) := ⟨_, rfl⟩
        obtain ⟨Bb, hxb, hsb⟩ := box_made hb
        have Xv2 := Lib.hid (Xv1.out.step (hx.step hxb))
        have HRow := Lib.hid (HRow.out.to (hx.step hxb))
        have HAv1 := Lib.hid (HAv1.out.to (hx.step hxb))
        have HBa := Lib.hid (HBa.out.to (hx.step hxb))
        have HBx := Lib.hid Bb
        have Hwv2 := Lib.hid hb
        obtain ⟨bx, hbb⟩ : ∃ b, b = v2.heap.size := ⟨_, rfl⟩
        have Hbbx := Lib.hid hbb
        rw [← hbb] at HBx
        have q0 : v2b.cell? ⟨ba, 0, none⟩ = some (.slice A1 n1 c1) := HBa.out.cell 0
        have q1 : v2b.cell? ⟨ba, 1, none⟩ = some (.slice B1 m1 d1) := HBa.out.cell 1
        rw [hb] at q0 q1
        clear hb hxb hsb Bb hbb hx
        go_wp2_with fail
        rw [← Hwv2.out, ← Hbbx.out]
        clear q0 q1
        have HC := Lib.hid ((av_ceil (c := c1) (d := d1) HAv1.out HMr.out key _ (Ext.refl _)).mono fun e w' g => g.no (by exact Hhz.out))
        unfold ItemE at HC
        refine HC.out.mono ?_
        rintro e v3 ⟨rfl, hx⟩
        obtain ⟨v3b, hb⟩ : ∃ wb, wb = v3.alloc (.cells #[.int .i64 0, .int .i64 0] 60) := ⟨_, rfl⟩
        obtain ⟨Bb, hxb, hsb⟩ := box_made hb
        have Xv3 := Lib.hid (Xv2.out.step (hx.step hxb))
        have HRow := Lib.hid (HRow.out.to (hx.step hxb))
        have HAv1 := Lib.hid (HAv1.out.to (hx.step hxb))
        have HBa := Lib.hid (HBa.out.to (hx.step hxb))
        have HBx := Lib.hid (HBx.out.to (hx.step hxb))
        have HBz := Lib.hid Bb
        have Hwv3 := Lib.hid hb
        obtain ⟨bz, hbb⟩ : ∃ b, b = v3.heap.size := ⟨_, rfl⟩
        have Hbbz := Lib.hid hbb
        rw [← hbb] at HBz
        have q0 : v3b.cell? ⟨ba, 0, none⟩ = some (.slice A1 n1 c1) := HBa.out.cell 0
        have q1 : v3b.cell? ⟨ba, 1, none⟩ = some (.slice B1 m1 d1) := HBa.out.cell 1
        rw [hb] at q0 q1
        clear hb hxb hsb Bb hbb hx
        go_wp2_with fail
        rw [← Hwv3.out, ← Hbbz.out]
        clear q0 q1
        have HC := Lib.hid (av_size (c := c1) (d := d1) HAv1.out HMr.out _ (Ext.refl _))
        rw [← HJ2.out] at HC
        unfold IntE at HC
        refine HC.out.mono ?_
        rintro e v4 ⟨rfl, hx⟩
        have Xv4 := Lib.hid (Xv3.out.step hx)
        have HRow := Lib.hid (HRow.out.to hx)
        have HAv1 := Lib.hid (HAv1.out.to hx)
        have HBa := Lib.hid (HBa.out.to hx)
        have HBx := Lib.hid (HBx.out.to hx)
        have HBz := Lib.hid (HBz.out.to hx)
        clear hx
        go_wp2_with fail
        refine (HAl.out _).mono ?_
        rintro e u1 ⟨rfl, hx⟩
        have Xu1 := Lib.hid (Xv4.out.step hx)
        have HRow := Lib.hid (HRow.out.to hx)
        have HAv1 := Lib.hid (HAv1.out.to hx)
        have HBa := Lib.hid (HBa.out.to hx)
        have HBx := Lib.hid (HBx.out.to hx)
        have HBz := Lib.hid (HBz.out.to hx)
        clear hx
        subst h0
        have mm0 : u1.cell? ⟨bx, 0, none⟩ = some (.int .i64 0) := HBx.out.cell 0
        have mm1 : u1.cell? ⟨bz, 0, none⟩ = some (.int .i64 0) := HBz.out.cell 0
        go_wp2_with fail
        go_ret
        exact ⟨rfl, Xu1.out⟩
      · have Hhu := Lib.hid hu
        have Hhz := Lib.hid hz
        clear hu hz
        have HC := Lib.hid ((av_floor (c := c1) (d := d1) HAv1.out HMr.out key _ (Ext.refl _)).mono fun e w' g => g.no (by rw [if_pos Hhu.out]))
        unfold ItemE at HC
        refine HC.out.mono ?_
        rintro e v2 ⟨rfl, hx⟩
        obtain ⟨v2b, hb⟩ : ∃ wb, wb = v2.alloc (.cells #[.int .i64 0, .int .i64 0] 60) := ⟨_, rfl⟩
        obtain ⟨Bb, hxb, hsb⟩ := box_made hb
        have Xv2 := Lib.hid (Xv1.out.step (hx.step hxb))
        have HRow := Lib.hid (HRow.out.to (hx.step hxb))
        have HAv1 := Lib.hid (HAv1.out.to (hx.step hxb))
        have HBa := Lib.hid (HBa.out.to (hx.step hxb))
        have HBx := Lib.hid Bb
        have Hwv2 := Lib.hid hb
        obtain ⟨bx, hbb⟩ : ∃ b, b = v2.heap.size := ⟨_, rfl⟩
        have Hbbx := Lib.hid hbb
        rw [← hbb] at HBx
        have q0 : v2b.cell? ⟨ba, 0, none⟩ = some (.slice A1 n1 c1) := HBa.out.cell 0
        have q1 : v2b.cell? ⟨ba, 1, none⟩ = some (.slice B1 m1 d1) := HBa.out.cell 1
        rw [hb] at q0 q1
        clear hb hxb hsb Bb hbb hx
        go_wp2_with fail
        rw [← Hwv2.out, ← Hbbx.out]
        clear q0 q1
        have HC := Lib.hid ((av_ceil (c := c1) (d := d1) HAv1.out HMr.out key _ (Ext.refl _)).mono fun e w' g => g.ok (a := zk) (b := zv) (by exact Hhz.out))
        unfold ItemOk at HC
        refine HC.out.mono ?_
        rintro e v3 ⟨rfl, hx⟩
        obtain ⟨v3b, hb⟩ : ∃ wb, wb = v3.alloc (.cells #[.int .i64 zk, .int .i64 zv] 60) := ⟨_, rfl⟩
        obtain ⟨Bb, hxb, hsb⟩ := box_made hb
        have Xv3 := Lib.hid (Xv2.out.step (hx.step hxb))
        have HRow := Lib.hid (HRow.out.to (hx.step hxb))
        have HAv1 := Lib.hid (HAv1.out.to (hx.step hxb))
        have HBa := Lib.hid (HBa.out.to (hx.step hxb))
        have HBx := Lib.hid (HBx.out.to (hx.step hxb))
        have HBz := Lib.hid Bb
        have Hwv3 := Lib.hid hb
        obtain ⟨bz, hbb⟩ : ∃ b, b = v3.heap.size := ⟨_, rfl⟩
        have Hbbz := Lib.hid hbb
        rw [← hbb] at HBz
        have q0 : v3b.cell? ⟨ba, 0, none⟩ = some (.slice A1 n1 c1) := HBa.out.cell 0
        have q1 : v3b.cell? ⟨ba, 1, none⟩ = some (.slice B1 m1 d1) := HBa.out.cell 1
        rw [hb] at q0 q1
        clear hb hxb hsb Bb hbb hx
        go_wp2_with fail
        rw [← Hwv3.out, ← Hbbz.out]
        clear q0 q1
        have HC := Lib.hid (av_size (c := c1) (d := d1) HAv1.out HMr.out _ (Ext.refl _))
        rw [← HJ2.out] at HC
        unfold IntE at HC
        refine HC.out.mono ?_
        rintro e v4 ⟨rfl, hx⟩
        have Xv4 := Lib.hid (Xv3.out.step hx)
        have HRow := Lib.hid (HRow.out.to hx)
        have HAv1 := Lib.hid (HAv1.out.to hx)
        have HBa := Lib.hid (HBa.out.to hx)
        have HBx := Lib.hid (HBx.out.to hx)
        have HBz := Lib.hid (HBz.out.to hx)
        clear hx
        go_wp2_with fail
        refine (HAl.out _).mono ?_
        rintro e u1 ⟨rfl, hx⟩
        have Xu1 := Lib.hid (Xv4.out.step hx)
        have HRow := Lib.hid (HRow.out.to hx)
        have HAv1 := Lib.hid (HAv1.out.to hx)
        have HBa := Lib.hid (HBa.out.to hx)
        have HBx := Lib.hid (HBx.out.to hx)
        have HBz := Lib.hid (HBz.out.to hx)
        clear hx
        have g1 : ¬ zk < key := by omega
        have mm0 : u1.cell? ⟨bx, 0, none⟩ = some (.int .i64 0) := HBx.out.cell 0
        have mm1 : u1.cell? ⟨bz, 0, none⟩ = some (.int .i64 zk) := HBz.out.cell 0
        go_wp2_with fail
        go_ret
        exact ⟨rfl, Xu1.out⟩
      · have Hhu := Lib.hid hu
        have Hhz := Lib.hid hz
        have Hhq := Lib.hid hq
        clear hu hz hq
        have HC := Lib.hid ((av_floor (c := c1) (d := d1) HAv1.out HMr.out key _ (Ext.refl _)).mono fun e w' g => g.ok (a := xk) (b := xv) (by rw [Hhu.out, if_neg (by omega), Nat.add_sub_cancel]; exact Hhq.out))
        unfold ItemOk at HC
        refine HC.out.mono ?_
        rintro e v2 ⟨rfl, hx⟩
        obtain ⟨v2b, hb⟩ : ∃ wb, wb = v2.alloc (.cells #[.int .i64 xk, .int .i64 xv] 60) := ⟨_, rfl⟩
        obtain ⟨Bb, hxb, hsb⟩ := box_made hb
        have Xv2 := Lib.hid (Xv1.out.step (hx.step hxb))
        have HRow := Lib.hid (HRow.out.to (hx.step hxb))
        have HAv1 := Lib.hid (HAv1.out.to (hx.step hxb))
        have HBa := Lib.hid (HBa.out.to (hx.step hxb))
        have HBx := Lib.hid Bb
        have Hwv2 := Lib.hid hb
        obtain ⟨bx, hbb⟩ : ∃ b, b = v2.heap.size := ⟨_, rfl⟩
        have Hbbx := Lib.hid hbb
        rw [← hbb] at HBx
        have q0 : v2b.cell? ⟨ba, 0, none⟩ = some (.slice A1 n1 c1) := HBa.out.cell 0
        have q1 : v2b.cell? ⟨ba, 1, none⟩ = some (.slice B1 m1 d1) := HBa.out.cell 1
        rw [hb] at q0 q1
        clear hb hxb hsb Bb hbb hx
        go_wp2_with fail
        rw [← Hwv2.out, ← Hbbx.out]
        clear q0 q1
        have HC := Lib.hid ((av_ceil (c := c1) (d := d1) HAv1.out HMr.out key _ (Ext.refl _)).mono fun e w' g => g.no (by exact Hhz.out))
        unfold ItemE at HC
        refine HC.out.mono ?_
        rintro e v3 ⟨rfl, hx⟩
        obtain ⟨v3b, hb⟩ : ∃ wb, wb = v3.alloc (.cells #[.int .i64 0, .int .i64 0] 60) := ⟨_, rfl⟩
        obtain ⟨Bb, hxb, hsb⟩ := box_made hb
        have Xv3 := Lib.hid (Xv2.out.step (hx.step hxb))
        have HRow := Lib.hid (HRow.out.to (hx.step hxb))
        have HAv1 := Lib.hid (HAv1.out.to (hx.step hxb))
        have HBa := Lib.hid (HBa.out.to (hx.step hxb))
        have HBx := Lib.hid (HBx.out.to (hx.step hxb))
        have HBz := Lib.hid Bb
        have Hwv3 := Lib.hid hb
        obtain ⟨bz, hbb⟩ : ∃ b, b = v3.heap.size := ⟨_, rfl⟩
        have Hbbz := Lib.hid hbb
        rw [← hbb] at HBz
        have q0 : v3b.cell? ⟨ba, 0, none⟩ = some (.slice A1 n1 c1) := HBa.out.cell 0
        have q1 : v3b.cell? ⟨ba, 1, none⟩ = some (.slice B1 m1 d1) := HBa.out.cell 1
        rw [hb] at q0 q1
        clear hb hxb hsb Bb hbb hx
        go_wp2_with fail
        rw [← Hwv3.out, ← Hbbz.out]
        clear q0 q1
        have HC := Lib.hid (av_size (c := c1) (d := d1) HAv1.out HMr.out _ (Ext.refl _))
        rw [← HJ2.out] at HC
        unfold IntE at HC
        refine HC.out.mono ?_
        rintro e v4 ⟨rfl, hx⟩
        have Xv4 := Lib.hid (Xv3.out.step hx)
        have HRow := Lib.hid (HRow.out.to hx)
        have HAv1 := Lib.hid (HAv1.out.to hx)
        have HBa := Lib.hid (HBa.out.to hx)
        have HBx := Lib.hid (HBx.out.to hx)
        have HBz := Lib.hid (HBz.out.to hx)
        clear hx
        go_wp2_with fail
        refine (HAl.out _).mono ?_
        rintro e u1 ⟨rfl, hx⟩
        have Xu1 := Lib.hid (Xv4.out.step hx)
        have HRow := Lib.hid (HRow.out.to hx)
        have HAv1 := Lib.hid (HAv1.out.to hx)
        have HBa := Lib.hid (HBa.out.to hx)
        have HBx := Lib.hid (HBx.out.to hx)
        have HBz := Lib.hid (HBz.out.to hx)
        clear hx
        have h0j : 0 < jr := by have := (List.getElem?_eq_some_iff.1 Hhq.out).1; have := HJ2.out; omega
        have g1 : ¬ key < xk := by omega
        have mm0 : u1.cell? ⟨bx, 0, none⟩ = some (.int .i64 xk) := HBx.out.cell 0
        have mm1 : u1.cell? ⟨bz, 0, none⟩ = some (.int .i64 0) := HBz.out.cell 0
        go_wp2_with fail
        go_ret
        exact ⟨rfl, Xu1.out⟩
      · have Hhu := Lib.hid hu
        have Hhq := Lib.hid hq
        have Hhl := Lib.hid hl
        clear hu hq hl
        have HC := Lib.hid ((av_floor (c := c1) (d := d1) HAv1.out HMr.out key _ (Ext.refl _)).mono fun e w' g => g.ok (a := key) (b := v) (by rw [Hhu.out, if_neg (by omega), Nat.add_sub_cancel]; exact Hhq.out))
        unfold ItemOk at HC
        refine HC.out.mono ?_
        rintro e v2 ⟨rfl, hx⟩
        obtain ⟨v2b, hb⟩ : ∃ wb, wb = v2.alloc (.cells #[.int .i64 key, .int .i64 v] 60) := ⟨_, rfl⟩
        obtain ⟨Bb, hxb, hsb⟩ := box_made hb
        have Xv2 := Lib.hid (Xv1.out.step (hx.step hxb))
        have HRow := Lib.hid (HRow.out.to (hx.step hxb))
        have HAv1 := Lib.hid (HAv1.out.to (hx.step hxb))
        have HBa := Lib.hid (HBa.out.to (hx.step hxb))
        have HBx := Lib.hid Bb
        have Hwv2 := Lib.hid hb
        obtain ⟨bx, hbb⟩ : ∃ b, b = v2.heap.size := ⟨_, rfl⟩
        have Hbbx := Lib.hid hbb
        rw [← hbb] at HBx
        have q0 : v2b.cell? ⟨ba, 0, none⟩ = some (.slice A1 n1 c1) := HBa.out.cell 0
        have q1 : v2b.cell? ⟨ba, 1, none⟩ = some (.slice B1 m1 d1) := HBa.out.cell 1
        rw [hb] at q0 q1
        clear hb hxb hsb Bb hbb hx
        go_wp2_with fail
        rw [← Hwv2.out, ← Hbbx.out]
        clear q0 q1
        have HC := Lib.hid ((av_ceil (c := c1) (d := d1) HAv1.out HMr.out key _ (Ext.refl _)).mono fun e w' g => g.ok (a := key) (b := v) (by rw [Hhl.out]; exact Hhq.out))
        unfold ItemOk at HC
        refine HC.out.mono ?_
        rintro e v3 ⟨rfl, hx⟩
        obtain ⟨v3b, hb⟩ : ∃ wb, wb = v3.alloc (.cells #[.int .i64 key, .int .i64 v] 60) := ⟨_, rfl⟩
        obtain ⟨Bb, hxb, hsb⟩ := box_made hb
        have Xv3 := Lib.hid (Xv2.out.step (hx.step hxb))
        have HRow := Lib.hid (HRow.out.to (hx.step hxb))
        have HAv1 := Lib.hid (HAv1.out.to (hx.step hxb))
        have HBa := Lib.hid (HBa.out.to (hx.step hxb))
        have HBx := Lib.hid (HBx.out.to (hx.step hxb))
        have HBz := Lib.hid Bb
        have Hwv3 := Lib.hid hb
        obtain ⟨bz, hbb⟩ : ∃ b, b = v3.heap.size := ⟨_, rfl⟩
        have Hbbz := Lib.hid hbb
        rw [← hbb] at HBz
        have q0 : v3b.cell? ⟨ba, 0, none⟩ = some (.slice A1 n1 c1) := HBa.out.cell 0
        have q1 : v3b.cell? ⟨ba, 1, none⟩ = some (.slice B1 m1 d1) := HBa.out.cell 1
        rw [hb] at q0 q1
        clear hb hxb hsb Bb hbb hx
        go_wp2_with fail
        rw [← Hwv3.out, ← Hbbz.out]
        clear q0 q1
        have HC := Lib.hid (av_size (c := c1) (d := d1) HAv1.out HMr.out _ (Ext.refl _))
        rw [← HJ2.out] at HC
        unfold IntE at HC
        refine HC.out.mono ?_
        rintro e v4 ⟨rfl, hx⟩
        have Xv4 := Lib.hid (Xv3.out.step hx)
        have HRow := Lib.hid (HRow.out.to hx)
        have HAv1 := Lib.hid (HAv1.out.to hx)
        have HBa := Lib.hid (HBa.out.to hx)
        have HBx := Lib.hid (HBx.out.to hx)
        have HBz := Lib.hid (HBz.out.to hx)
        clear hx
        go_wp2_with fail
        refine (HAl.out _).mono ?_
        rintro e u1 ⟨rfl, hx⟩
        have Xu1 := Lib.hid (Xv4.out.step hx)
        have HRow := Lib.hid (HRow.out.to hx)
        have HAv1 := Lib.hid (HAv1.out.to hx)
        have HBa := Lib.hid (HBa.out.to hx)
        have HBx := Lib.hid (HBx.out.to hx)
        have HBz := Lib.hid (HBz.out.to hx)
        clear hx
        have h0j : 0 < jr := by have := (List.getElem?_eq_some_iff.1 Hhq.out).1; have := HJ2.out; omega
        have mm0 : u1.cell? ⟨bx, 0, none⟩ = some (.int .i64 key) := HBx.out.cell 0
        have mm1 : u1.cell? ⟨bz, 0, none⟩ = some (.int .i64 key) := HBz.out.cell 0
        have q0 : u1.cell? ⟨ba, 0, none⟩ = some (.slice A1 n1 c1) := HBa.out.cell 0
        have q1 : u1.cell? ⟨ba, 1, none⟩ = some (.slice B1 m1 d1) := HBa.out.cell 1
        have HC := Lib.hid (av_rank_ok (c := c1) (d := d1) HAv1.out HMr.out Hhq.out _ (Ext.refl _))
        unfold IntE at HC
        go_wp2_with fail
        clear q0 q1 mm0 mm1
        refine HC.out.mono ?_
        rintro e v5 ⟨rfl, hx⟩
        have Xv5 := Lib.hid (Xu1.out.step hx)
        have HRow := Lib.hid (HRow.out.to hx)
        have HAv1 := Lib.hid (HAv1.out.to hx)
        have HBa := Lib.hid (HBa.out.to hx)
        have HBx := Lib.hid (HBx.out.to hx)
        have HBz := Lib.hid (HBz.out.to hx)
        have q0 : v5.cell? ⟨ba, 0, none⟩ = some (.slice A1 n1 c1) := HBa.out.cell 0
        have q1 : v5.cell? ⟨ba, 1, none⟩ = some (.slice B1 m1 d1) := HBa.out.cell 1
        have q2 : v5.cell? ⟨bz, 0, none⟩ = some (.int .i64 key) := HBz.out.cell 0
        clear hx
        go_wp2_with fail
        clear q0 q1 q2
        have HC := Lib.hid (av_rank_ok (c := c1) (d := d1) HAv1.out HMr.out Hhq.out _ (Ext.refl _))
        unfold IntE at HC
        refine HC.out.mono ?_
        rintro e v6 ⟨rfl, hx⟩
        have Xv6 := Lib.hid (Xv5.out.step hx)
        have HRow := Lib.hid (HRow.out.to hx)
        have HAv1 := Lib.hid (HAv1.out.to hx)
        have HBa := Lib.hid (HBa.out.to hx)
        have HBx := Lib.hid (HBx.out.to hx)
        have HBz := Lib.hid (HBz.out.to hx)
        have q0 : v6.cell? ⟨bx, 0, none⟩ = some (.int .i64 key) := HBx.out.cell 0
        have q1 : v6.cell? ⟨bz, 0, none⟩ = some (.int .i64 key) := HBz.out.cell 0
        clear hx
        go_wp2_with fail
        go_ret
        exact ⟨rfl, Xv6.out⟩
      · have Hhu := Lib.hid hu
        have Hhz := Lib.hid hz
        have Hhq := Lib.hid hq
        have Hhl := Lib.hid hl
        clear hu hz hq hl
        have HC := Lib.hid ((av_floor (c := c1) (d := d1) HAv1.out HMr.out key _ (Ext.refl _)).mono fun e w' g => g.ok (a := xk) (b := xv) (by rw [Hhu.out, if_neg (by omega), Nat.add_sub_cancel]; exact Hhq.out))
        unfold ItemOk at HC
        refine HC.out.mono ?_
        rintro e v2 ⟨rfl, hx⟩
        obtain ⟨v2b, hb⟩ : ∃ wb, wb = v2.alloc (.cells #[.int .i64 xk, .int .i64 xv] 60) := ⟨_, rfl⟩
        obtain ⟨Bb, hxb, hsb⟩ := box_made hb
        have Xv2 := Lib.hid (Xv1.out.step (hx.step hxb))
        have HRow := Lib.hid (HRow.out.to (hx.step hxb))
        have HAv1 := Lib.hid (HAv1.out.to (hx.step hxb))
        have HBa := Lib.hid (HBa.out.to (hx.step hxb))
        have HBx := Lib.hid Bb
        have Hwv2 := Lib.hid hb
        obtain ⟨bx, hbb⟩ : ∃ b, b = v2.heap.size := ⟨_, rfl⟩
        have Hbbx := Lib.hid hbb
        rw [← hbb] at HBx
        have q0 : v2b.cell? ⟨ba, 0, none⟩ = some (.slice A1 n1 c1) := HBa.out.cell 0
        have q1 : v2b.cell? ⟨ba, 1, none⟩ = some (.slice B1 m1 d1) := HBa.out.cell 1
        rw [hb] at q0 q1
        clear hb hxb hsb Bb hbb hx
        go_wp2_with fail
        rw [← Hwv2.out, ← Hbbx.out]
        clear q0 q1
        have HC := Lib.hid ((av_ceil (c := c1) (d := d1) HAv1.out HMr.out key _ (Ext.refl _)).mono fun e w' g => g.ok (a := zk) (b := zv) (by rw [Hhl.out]; exact Hhz.out))
        unfold ItemOk at HC
        refine HC.out.mono ?_
        rintro e v3 ⟨rfl, hx⟩
        obtain ⟨v3b, hb⟩ : ∃ wb, wb = v3.alloc (.cells #[.int .i64 zk, .int .i64 zv] 60) := ⟨_, rfl⟩
        obtain ⟨Bb, hxb, hsb⟩ := box_made hb
        have Xv3 := Lib.hid (Xv2.out.step (hx.step hxb))
        have HRow := Lib.hid (HRow.out.to (hx.step hxb))
        have HAv1 := Lib.hid (HAv1.out.to (hx.step hxb))
        have HBa := Lib.hid (HBa.out.to (hx.step hxb))
        have HBx := Lib.hid (HBx.out.to (hx.step hxb))
        have HBz := Lib.hid Bb
        have Hwv3 := Lib.hid hb
        obtain ⟨bz, hbb⟩ : ∃ b, b = v3.heap.size := ⟨_, rfl⟩
        have Hbbz := Lib.hid hbb
        rw [← hbb] at HBz
        have q0 : v3b.cell? ⟨ba, 0, none⟩ = some (.slice A1 n1 c1) := HBa.out.cell 0
        have q1 : v3b.cell? ⟨ba, 1, none⟩ = some (.slice B1 m1 d1) := HBa.out.cell 1
        rw [hb] at q0 q1
        clear hb hxb hsb Bb hbb hx
        go_wp2_with fail
        rw [← Hwv3.out, ← Hbbz.out]
        clear q0 q1
        have HC := Lib.hid (av_size (c := c1) (d := d1) HAv1.out HMr.out _ (Ext.refl _))
        rw [← HJ2.out] at HC
        unfold IntE at HC
        refine HC.out.mono ?_
        rintro e v4 ⟨rfl, hx⟩
        have Xv4 := Lib.hid (Xv3.out.step hx)
        have HRow := Lib.hid (HRow.out.to hx)
        have HAv1 := Lib.hid (HAv1.out.to hx)
        have HBa := Lib.hid (HBa.out.to hx)
        have HBx := Lib.hid (HBx.out.to hx)
        have HBz := Lib.hid (HBz.out.to hx)
        clear hx
        go_wp2_with fail
        refine (HAl.out _).mono ?_
        rintro e u1 ⟨rfl, hx⟩
        have Xu1 := Lib.hid (Xv4.out.step hx)
        have HRow := Lib.hid (HRow.out.to hx)
        have HAv1 := Lib.hid (HAv1.out.to hx)
        have HBa := Lib.hid (HBa.out.to hx)
        have HBx := Lib.hid (HBx.out.to hx)
        have HBz := Lib.hid (HBz.out.to hx)
        clear hx
        have h0j : 0 < jr := by have := (List.getElem?_eq_some_iff.1 Hhq.out).1; have := HJ2.out; omega
        have g1 : ¬ key < xk := by omega
        have g2 : ¬ zk < key := by omega
        have g3 : (xk == zk) = false := by simp; omega
        have g4 : IntKind.i64.wrap ((q : Int) + 1) = ((q + 1 : Nat) : Int) := by rw [IntKind.wrap_i64]; have := Hhq.out; have := (List.getElem?_eq_some_iff.1 this).1; have := HJ2.out; omega
        have mm0 : u1.cell? ⟨bx, 0, none⟩ = some (.int .i64 xk) := HBx.out.cell 0
        have mm1 : u1.cell? ⟨bz, 0, none⟩ = some (.int .i64 zk) := HBz.out.cell 0
        have q0 : u1.cell? ⟨ba, 0, none⟩ = some (.slice A1 n1 c1) := HBa.out.cell 0
        have q1 : u1.cell? ⟨ba, 1, none⟩ = some (.slice B1 m1 d1) := HBa.out.cell 1
        have HC := Lib.hid (av_rank_ok (c := c1) (d := d1) HAv1.out HMr.out Hhq.out _ (Ext.refl _))
        unfold IntE at HC
        go_wp2_with fail
        clear q0 q1 mm0 mm1
        refine HC.out.mono ?_
        rintro e v5 ⟨rfl, hx⟩
        have Xv5 := Lib.hid (Xu1.out.step hx)
        have HRow := Lib.hid (HRow.out.to hx)
        have HAv1 := Lib.hid (HAv1.out.to hx)
        have HBa := Lib.hid (HBa.out.to hx)
        have HBx := Lib.hid (HBx.out.to hx)
        have HBz := Lib.hid (HBz.out.to hx)
        have q0 : v5.cell? ⟨ba, 0, none⟩ = some (.slice A1 n1 c1) := HBa.out.cell 0
        have q1 : v5.cell? ⟨ba, 1, none⟩ = some (.slice B1 m1 d1) := HBa.out.cell 1
        have q2 : v5.cell? ⟨bz, 0, none⟩ = some (.int .i64 zk) := HBz.out.cell 0
        clear hx
        go_wp2_with fail
        clear q0 q1 q2
        have HC := Lib.hid (av_rank_ok (c := c1) (d := d1) HAv1.out HMr.out Hhz.out _ (Ext.refl _))
        unfold IntE at HC
        refine HC.out.mono ?_
        rintro e v6 ⟨rfl, hx⟩
        have Xv6 := Lib.hid (Xv5.out.step hx)
        have HRow := Lib.hid (HRow.out.to hx)
        have HAv1 := Lib.hid (HAv1.out.to hx)
        have HBa := Lib.hid (HBa.out.to hx)
        have HBx := Lib.hid (HBx.out.to hx)
        have HBz := Lib.hid (HBz.out.to hx)
        have q0 : v6.cell? ⟨bx, 0, none⟩ = some (.int .i64 xk) := HBx.out.cell 0
        have q1 : v6.cell? ⟨bz, 0, none⟩ = some (.int .i64 zk) := HBz.out.cell 0
        clear hx
        go_wp2_with fail
        go_ret
        exact ⟨rfl, Xv6.out⟩

theorem OrderAround_walk (w : World) (A : Option Addr) (n c : Nat) (zs : List Int) (h : Rd w 1 A n (Ks .i64 zs)) (hn : n ≤ c) (hc : c ≤ maxLen) (_ : ∀ z ∈ zs, (Lit.int .i64 z).wf = true) (key : Int) (_ : (Lit.int .i64 key).wf = true) :
    Calls Try.prog 9 #[.slice A n c, .int .i64 key] w fun e w' => e = .returned (.bool true) ∧ Ext w w' :=
  oaround_m A n c zs key w h hn hc

end Go.Proofs.Ytjiehlhnocgneaa
