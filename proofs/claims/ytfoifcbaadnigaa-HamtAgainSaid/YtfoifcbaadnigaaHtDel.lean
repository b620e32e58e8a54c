/-
  Contracts: Del of package hamt, where no two hashes are alike and there is room.
-/
import Derived.Test.YtfoifcbaadnigaaHtWth2
import Derived.Test.YtfoifcbaadnigaaHtCalls
set_option linter.unusedVariables false
set_option linter.unusedSimpArgs false
namespace Go.Proofs.Ytfoifcbaadnigaa
open Go.RowKit

/-- A table of these leaves is answered. -/
def ResH (ns : List Nd) (fs : List Int) (ls : List Lf) (w : World) (e : Ending) (w' : World) : Prop :=
  ∃ (A : Option Addr) (n c : Nat) (B : Option Addr) (m d : Nat) (ns' : List Nd) (fs' : List Int) (z : Int) (t' : HT),
    e = .returned (.tuple #[.agg #[.slice A n c, .slice B m d], .int .u64 z, .int .i64 0]) ∧ Ar w' A n B m ns' fs' ∧ ArMay ns' fs' ∧ Gr ns fs ns' fs' 11 ∧ Tr ns' 0 t' ∧ t'.ref = z ∧ t'.lvs.Perm ls ∧ Ext w w'
def ErrH (k : Int) (w : World) (e : Ending) (w' : World) : Prop := e = .returned (.tuple #[.agg #[.slice none 0 0, .slice none 0 0], .int .u64 0, .int .i64 k]) ∧ Ext w w'
theorem tr_at {ns : List Nd} {t : HT} (h : Tr ns 0 t) (hs : t.size ≤ 200) : TabAt ns t.ref := ⟨t, h.rp, rfl, h.sh, hs⟩

set_option maxHeartbeats 4000000 in
set_option maxRecDepth 100000 in
theorem htDel_none (A B : Option Addr) (n m c d : Nat) (ns : List Nd) (fs : List Int) (t : HT) (key : Int) (w : World) (h : Ar w A n B m ns fs) (hn : n ≤ 1000) (hm : m ≤ 1000) (hmay : ArMay ns fs) (hT : Tr ns 0 t) (hs : t.size ≤ 200) (hk : hasL key t.lvs = false) :
    Calls Try.prog 8 #[.agg #[.slice A n c, .slice B m d], .int .u64 t.ref, .int .i64 key] w (ErrH 3 w) := by
  obtain ⟨w1, hw1⟩ : ∃ w1, w1 = w.alloc (.cells #[.slice A n c, .slice B m d] 26) := ⟨_, rfl⟩
  obtain ⟨w4, hw4⟩ : ∃ w4, w4 = w1.alloc (.cells #[.slice none 0 0, .slice none 0 0] 26) := ⟨_, rfl⟩
  obtain ⟨B1, hx1, hs1⟩ := box_made hw1
  obtain ⟨B4, hx4, hs4⟩ := box_made hw4
  rw [hs1] at B4
  have HB1 := Lib.hid (B1.to hx4)
  have HB4 := Lib.hid B4
  have X4 := Lib.hid (hx1.step hx4)
  have H1 := Lib.hid hw1
  have H4 := Lib.hid hw4
  have k0 : w4.cell? ⟨w.heap.size, 0, none⟩ = some (.slice A n c) := (B1.to hx4).cell 0
  have k1 : w4.cell? ⟨w.heap.size, 1, none⟩ = some (.slice B m d) := (B1.to hx4).cell 1
  have HR := Lib.hid (fun W (hW : Ext w W) => htRight_is A B n c m d ns fs t.ref W (h.to hW) hn hm hT.u true (by simp only [true_iff]; exact ⟨hmay, tr_at hT hs⟩))
  have HH := Lib.hid (fun W (hW : Ext w W) => htHas_is A B n c m d ns h.ok t hT.rp hT.sh key W (h.nodes.to hW) hT.u)
  rw [hk] at HH
  clear hw1 hw4 B1 B4 hx1 hx4 hs1 hs4 h hmay hT hk
  generalize t.ref = r at *
  go_enter Try.func8, Try.ntmps8
  go_upto_region 1 with fail
  rw [← H1.out, ← H4.out]
  go_wp2_with fail
  refine (HR.out _ X4.out).mono ?_; rintro e w5 ⟨rfl, hx5⟩
  have k0' := hx5.cellOf k0
  have k1' := hx5.cellOf k1
  have X5 := Lib.hid (X4.out.step hx5)
  have HB5 := Lib.hid (HB4.out.to hx5)
  clear k0 k1 hx5
  go_wp2_with fail
  refine (HH.out _ X5.out).mono ?_; rintro e w6 ⟨rfl, hx6⟩
  have X6 := Lib.hid (X5.out.step hx6)
  have b6 := HB5.out.to hx6
  clear hx6 k0' k1'
  go_wp2_with (first
    | (refine wpList_store_ar (by rfl) (.tmp 6) (.tmp 20) (by rfl) (w.heap.size + 1) (by rfl) (.slice none 0 0) (.slice none 0 0) (by rfl) rfl rfl _ b6 (by simp) ?_
       intro w9 B9 O9))
  refine bodyPost_ret (results_ar3 rfl _ _ (w.heap.size + 1) #[.slice none 0 0, .slice none 0 0] (by rfl) B9 rfl) rfl ⟨rfl, ?_⟩
  exact O9.new X6.out (by omega)

set_option maxHeartbeats 8000000 in
set_option maxRecDepth 100000 in
theorem htDel_is (A B : Option Addr) (n m c d : Nat) (ns : List Nd) (fs : List Int) (t : HT) (key : Int) (w : World) (h : Ar w A n B m ns fs) (hn : n ≤ 1000) (hm : m ≤ 1000) (hmay : ArMay ns fs) (hW : WG ns key 0 t []) (hs : t.size ≤ 200) (hk : hasL key t.lvs = true) (hf : 11 ≤ fs.length) :
    Calls Try.prog 8 #[.agg #[.slice A n c, .slice B m d], .int .u64 t.ref, .int .i64 key] w (ResH ns fs (newLs key t []) w) := by
  have hT := hW.tr
  obtain ⟨w1, hw1⟩ : ∃ w1, w1 = w.alloc (.cells #[.slice A n c, .slice B m d] 26) := ⟨_, rfl⟩
  obtain ⟨w4, hw4⟩ : ∃ w4, w4 = w1.alloc (.cells #[.slice none 0 0, .slice none 0 0] 26) := ⟨_, rfl⟩
  obtain ⟨B1, hx1, hs1⟩ := box_made hw1
  obtain ⟨B4, hx4, hs4⟩ := box_made hw4
  rw [hs1] at B4
  have HB1 := Lib.hid (B1.to hx4)
  have HB4 := Lib.hid B4
  have X4 := Lib.hid (hx1.step hx4)
  have H1 := Lib.hid hw1
  have H4 := Lib.hid hw4
  have k0 : w4.cell? ⟨w.heap.size, 0, none⟩ = some (.slice A n c) := (B1.to hx4).cell 0
  have k1 : w4.cell? ⟨w.heap.size, 1, none⟩ = some (.slice B m d) := (B1.to hx4).cell 1
  have HR := Lib.hid (fun W (hW : Ext w W) => htRight_is A B n c m d ns fs t.ref W (h.to hW) hn hm hT.u true (by simp only [true_iff]; exact ⟨hmay, tr_at hT hs⟩))
  have HH := Lib.hid (fun W (hW : Ext w W) => htHas_is A B n c m d ns h.ok t hT.rp hT.sh key W (h.nodes.to hW) hT.u)
  rw [hk] at HH
  have HOf := Lib.hid (fun W (hW : Ext w W) => htOf_is A B n m c d ns fs W (h.to hW) hmay)
  have HWt := Lib.hid (fun b W (hM : Mk W b ns fs 0) hO => htWth_is t 0 b ns fs key [] none 0 0 W hM hO hW (Rd.nil _ _ _) (by omega) (by omega))
  obtain ⟨lsN, hlsN⟩ : ∃ l, l = newLs key t [] := ⟨_, rfl⟩
  have HLS := Lib.hid hlsN
  rw [← hlsN]
  clear hw1 hw4 B1 B4 hx1 hx4 hs1 hs4 h hmay hT hk hlsN hW
  obtain ⟨r, hr⟩ : ∃ r, r = t.ref := ⟨_, rfl⟩
  rw [← hr] at HR HH HWt ⊢
  clear hr
  go_enter Try.func8, Try.ntmps8
  go_upto_region 1 with fail
  rw [← H1.out, ← H4.out]
  go_wp2_with fail
  refine (HR.out _ X4.out).mono ?_; rintro e w5 ⟨rfl, hx5⟩
  have k0' := hx5.cellOf k0
  have k1' := hx5.cellOf k1
  have X5 := Lib.hid (X4.out.step hx5)
  have HB5 := Lib.hid (HB4.out.to hx5)
  clear k0 k1
  go_wp2_with fail
  refine (HH.out _ X5.out).mono ?_; rintro e w6 ⟨rfl, hx6⟩
  have k0 := hx6.cellOf k0'
  have k1 := hx6.cellOf k1'
  have X6 := Lib.hid (X5.out.step hx6)
  have HB6 := Lib.hid (HB5.out.to hx6)
  clear hx6 k0' k1' hx5
  go_wp2_with fail
  refine (HOf.out _ X6.out).mono ?_; rintro e w8 ⟨b, rfl, hb8, hM8, hO8, hx8⟩
  obtain ⟨w9, hw9⟩ : ∃ w9, w9 = w8.alloc (.cells #[.pointer (some ⟨b, 0, none⟩)] 62) := ⟨_, rfl⟩
  obtain ⟨B9, hx9, hs9⟩ := box_made hw9
  have H9 := Lib.hid hw9
  have HM9 := Lib.hid (hM8.to hx9)
  have HO9 := Lib.hid (hO8.ext hx9 hM8.lt)
  have X9 := Lib.hid (X6.out.step (hx8.step hx9))
  have HBM := Lib.hid B9
  have HBR := Lib.hid (HB6.out.to (hx8.step hx9))
  have hge := Lib.hid (show w.heap.size + 2 ≤ b ∧ b < w8.heap.size from ⟨by have := HB6.out.lt; omega, hM8.lt⟩)
  have k9 : w9.cell? ⟨w8.heap.size, 0, none⟩ = some (.pointer (some ⟨b, 0, none⟩)) := B9.cell 0
  clear hw9 B9 hx9 hs9 hM8 hO8 hx8 k0 k1 hb8
  go_upto_region 6 with fail
  rw [← H9.out]
  obtain ⟨bm, hbm⟩ : ∃ bm, bm = w8.heap.size := ⟨_, rfl⟩
  rw [← hbm] at k9 hge HBM ⊢
  have HBMM := Lib.hid hbm
  clear hbm
  have HS9 := Lib.hid (show ∀ W, Ext w9 W → W.cell? ⟨bm, 0, none⟩ = some (.pointer (some ⟨b, 0, none⟩)) from fun W hW => hW.cellOf k9)
  have HNE := Lib.hid (show bm ≠ w.heap.size + 1 by have := HBMM.out; have := hge.out; omega)
  go_region_held3 (fun W => W.cell? ⟨bm, 0, none⟩ = some (.pointer (some ⟨b, 0, none⟩))) (first | exact (((Only.refl (w.heap.size + 1) w11).set 0 (.slice A' n' c')).set 1 (.slice B' m' d')).cellOf hs7 HNE.out | exact hs8 | exact hs7 | (refine HS9.out _ ?_; (repeat (first | exact Ext.refl _ | assumption | with_reducible refine Ext.drew ?_ | with_reducible refine Ext.new ?_ _)); done)) (first
    | (go_at_call 23; refine (HWt.out b _ (HM9.out.to ?_) (HO9.out.ext ?_ HM9.out.lt)).mono ?_
       · repeat (first | exact Ext.refl _ | with_reducible refine Ext.drew ?_ | with_reducible refine Ext.new ?_ _)
       · repeat (first | exact Ext.refl _ | with_reducible refine Ext.drew ?_ | with_reducible refine Ext.new ?_ _)
       rintro e w10 hno'
       obtain ⟨z, rfl, hno⟩ := hno'.split
       have hs8 : w10.cell? ⟨bm, 0, none⟩ = some (.pointer (some ⟨b, 0, none⟩)) := hno.out.only.cellOf (HS9.out _ (by repeat (first | exact Ext.refl _ | with_reducible refine Ext.drew ?_ | with_reducible refine Ext.new ?_ _))) (by have := hge.out; show bm ≠ b; omega)
       obtain ⟨ns', fs', z', hz', hm', ho', hg', hu', hf', t', ht', hr', hp'⟩ := hno.out
       have HM10 := Lib.hid hm'
       have HO10 := Lib.hid ho'
       have HG10 := Lib.hid hg'
       have HT10 := Lib.hid ht'
       have HR10 := Lib.hid (show t'.ref = z by rw [hr']; injection hz' with h1; injection h1 with _ h2; exact h2.symm)
       have HP10 := Lib.hid hp'
       clear hz' hm' ho' hg' hu' hf' ht' hr' hp' hno hno')
    | (go_at_call 22; refine (htAnswer_is b ns' fs' 0 z _ HM10.out).mono ?_
       rintro e w11 ⟨hq', hx11⟩
       have hq : ∃ (A' : Option Addr) (n' c' : Nat) (B' : Option Addr) (m' d' : Nat), e = .returned (.tuple #[.agg #[.slice A' n' c', .slice B' m' d'], .int .u64 z, .int .i64 0]) ∧ Hid (Ar w11 A' n' B' m' ns' fs') := by
         rcases hq' with ⟨h0, _⟩ | ⟨_, A', n', c', B', m', d', h1, h2⟩
         · cases h0
         · exact ⟨A', n', c', B', m', d', h1, Lib.hid h2⟩
       obtain ⟨A', n', c', B', m', d', rfl, har⟩ := hq
       have hs7 : w11.cell? ⟨bm, 0, none⟩ = some (.pointer (some ⟨b, 0, none⟩)) := hx11.cellOf hs8
       have hrb := (HO10.out.bx (HBR.out.to (by repeat (first | exact Ext.refl _ | with_reducible refine Ext.drew ?_ | with_reducible refine Ext.new ?_ _))) (by have := hge.out; omega)).to hx11
       have HRB := Lib.hid hrb
       have y0 : w11.cell? ⟨w.heap.size + 1, 0, none⟩ = some (.slice none 0 0) := hrb.cell 0
       have y1 : w11.cell? ⟨w.heap.size + 1, 1, none⟩ = some (.slice none 0 0) := hrb.cell 1
       have y2 : w11.frozen? ⟨w.heap.size + 1, 0, none⟩ = false := hrb.free 0
       have y3 : w11.frozen? ⟨w.heap.size + 1, 1, none⟩ = false := hrb.free 1
       have HX11 := Lib.hid hx11
       clear hrb hq' hx11))
  all_goals
    have hnos := HRB.out.noS (fun j z e => by
      rcases (by omega : j = 0 ∨ j = 1 ∨ 2 ≤ j) with rfl | rfl | h
      · cases e
      · cases e
      · rw [Array.getElem?_eq_none (by simpa using h)] at e; cases e)
    have HFIN := Lib.hid (show ResH ns fs lsN w (.returned (.tuple #[.agg #[.slice A' n' c', .slice B' m' d'], .int .u64 z, .int .i64 0])) ((w11.setCell ⟨w.heap.size + 1, 0, none⟩ (.slice A' n' c')).setCell ⟨w.heap.size + 1, 1, none⟩ (.slice B' m' d')) from
      ⟨A', n', c', B', m', d', ns', fs', z, t', rfl, har.out.stepS (Only.two w11 _ _ _) hnos, HM10.out.may, HG10.out.more (by omega), HT10.out, HR10.out, by rw [HLS.out]; exact HP10.out, (Only.two w11 _ _ _).new ((HO10.out.new (X9.out.step (by repeat (first | exact Ext.refl _ | with_reducible refine Ext.drew ?_ | with_reducible refine Ext.new ?_ _))) (by have := hge.out; omega)).step HX11.out) (by omega)⟩)
    have HB12 := Lib.hid (HRB.out.two (.slice A' n' c') (.slice B' m' d'))
    clear hnos y0 y1 y2 y3 hs7 hs8
    go_wp2_with fail
    refine bodyPost_ret (results_ar3 rfl _ _ (w.heap.size + 1) #[.slice A' n' c', .slice B' m' d'] (by rfl) HB12.out rfl) rfl ?_
    exact HFIN.out

end Go.Proofs.Ytfoifcbaadnigaa
