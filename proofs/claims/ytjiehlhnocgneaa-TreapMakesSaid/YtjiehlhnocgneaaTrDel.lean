/-
  Contracts: Del of package treap.
-/
import Derived.Test.YtjiehlhnocgneaaTrErr
import Derived.Test.YtjiehlhnocgneaaTrCopyD
set_option linter.unusedVariables false
set_option linter.unusedSimpArgs false
namespace Go.Proofs.Ytjiehlhnocgneaa
open Go.RowKit

set_option maxHeartbeats 2000000 in
set_option maxRecDepth 100000 in
theorem trDel_none (A B : Option Addr) (n m c d : Nat) (ns : List Nd) (fs : List Int) (t : T) (key : Int) (w : World) (h : Ar w A n B m ns fs) (hn : n ≤ 1000) (hm : m ≤ 1000) (hU : U t.ref) (hmay : ArMay ns fs) (hM : Mp ns t) (hno : ¬ HasK t.row key) :
    Calls Try.prog 16 #[.agg #[.slice A n c, .slice B m d], .int .u64 t.ref, .int .i64 key] w (ErrA 3 w) := by
  obtain ⟨w1, hw1⟩ : ∃ w1, w1 = w.alloc (.cells #[.slice A n c, .slice B m d] 25) := ⟨_, rfl⟩
  obtain ⟨w4, hw4⟩ : ∃ w4, w4 = w1.alloc (.cells #[.slice none 0 0, .slice none 0 0] 25) := ⟨_, rfl⟩
  obtain ⟨B1, hx1, hs1⟩ := box_made hw1
  obtain ⟨B4, hx4, hs4⟩ := box_made hw4
  rw [hs1] at B4
  have HB1 := Lib.hid (B1.to hx4)
  have HB4 := Lib.hid B4
  have X4 := Lib.hid (hx1.step hx4)
  have H1 := Lib.hid hw1
  have H4 := Lib.hid hw4
  have HS4 := Lib.hid (show w4.heap.size = w.heap.size + 2 by omega)
  have HA := Lib.hid (h.to X4.out)
  have k0 : w4.cell? ⟨w.heap.size, 0, none⟩ = some (.slice A n c) := (B1.to hx4).cell 0
  have k1 : w4.cell? ⟨w.heap.size, 1, none⟩ = some (.slice B m d) := (B1.to hx4).cell 1
  have hge := Lib.hid (show w.heap.size ≤ w.heap.size + 1 by omega)
  have HR := Lib.hid (trRight_is A B n m c d ns fs t.ref w4 HA.out hn hm hU true (by simp only [true_iff]; exact ⟨hmay, t, hM, rfl⟩))
  have HFd := Lib.hid (fun W (hW : Ext w4 W) => find_is A B n c m d ns key t W hM.rep hM.le hU (HA.out.to hW).nodes h.ok)
  have HMay := Lib.hid hmay
  have HMp := Lib.hid hM
  have hsz := hM.le
  have hsub : t.sub key = .nil := by
    rcases sub_is hM.srt key with ⟨e, _⟩ | ⟨_, _, v, _, _, hmem⟩
    · exact e
    · exact absurd ⟨v, hmem⟩ hno
  rw [hsub, show T.nil.ref = 0 from rfl] at HFd
  clear hw1 hw4 B1 B4 hx1 hx4 hs1 hs4 h hmay hM hno hsub hsz
  generalize t.ref = r at *
  go_enter Try.func16, Try.ntmps16
  go_wp2_with fail
  rw [← H1.out, ← H4.out]
  go_wp2_with fail
  refine HR.out.mono ?_; rintro e w5 ⟨rfl, hx5⟩
  have k0 : w5.cell? ⟨w.heap.size, 0, none⟩ = some (.slice A n c) := (HB1.out.to hx5).cell 0
  have k1 : w5.cell? ⟨w.heap.size, 1, none⟩ = some (.slice B m d) := (HB1.out.to hx5).cell 1
  have HX5 := Lib.hid hx5
  clear hx5
  go_wp2_with fail
  refine (HFd.out _ HX5.out).mono ?_; rintro e w6 ⟨rfl, hx6⟩
  have HX6 := Lib.hid (HX5.out.step hx6)
  clear hx6
  obtain ⟨w7, hw7⟩ : ∃ w7, w7 = w6.alloc (.cells #[.int .u64 0] 27) := ⟨_, rfl⟩
  obtain ⟨B7, hx7, hs7⟩ := box_made hw7
  have HX7 := Lib.hid (HX6.out.step hx7)
  have HB7 := Lib.hid B7
  have b7 := Lib.hid (HB4.out.to HX7.out)
  have hlt6 := Lib.hid (show w.heap.size + 2 ≤ w6.heap.size from by have := HX6.out.size; have := HS4.out; omega)
  have e0 : w7.cell? ⟨w6.heap.size, 0, none⟩ = some (.int .u64 0) := B7.cell 0
  have k0 : w7.cell? ⟨w.heap.size, 0, none⟩ = some (.slice A n c) := (HB1.out.to HX7.out).cell 0
  have k1 : w7.cell? ⟨w.heap.size, 1, none⟩ = some (.slice B m d) := (HB1.out.to HX7.out).cell 1
  have H7 := Lib.hid hw7
  rw [hw7] at e0 k0 k1
  clear hw7 B7 hx7 hs7
  go_wp2_with (first
    | (rw [← H7.out]; refine wpList_store_ar (by rfl) (.tmp 6) (.tmp 22) (by rfl) (w.heap.size + 1) (by rfl) (.slice none 0 0) (.slice none 0 0) (by rfl) rfl rfl _ b7.out (by simp) ?_
       intro w9 B9 O9))
  refine bodyPost_ret (results_ar3 rfl _ _ (w.heap.size + 1) #[.slice none 0 0, .slice none 0 0] (by rfl) B9 rfl) rfl ⟨rfl, ?_⟩
  exact O9.new (X4.out.step HX7.out) hge.out

set_option maxHeartbeats 4000000 in
set_option maxRecDepth 100000 in
theorem trDel_is (A B : Option Addr) (n m c d : Nat) (ns : List Nd) (fs : List Int) (t : T) (key : Int) (w : World) (h : Ar w A n B m ns fs) (hn : n ≤ 1000) (hm : m ≤ 1000) (hU : U t.ref) (hmay : ArMay ns fs) (hM : Mp ns t) (hk : HasK t.row key) :
    Calls Try.prog 16 #[.agg #[.slice A n c, .slice B m d], .int .u64 t.ref, .int .i64 key] w (ResA ns fs (t.size - 1) (delR t.row key) w) := by
  obtain ⟨w1, hw1⟩ : ∃ w1, w1 = w.alloc (.cells #[.slice A n c, .slice B m d] 25) := ⟨_, rfl⟩
  obtain ⟨w4, hw4⟩ : ∃ w4, w4 = w1.alloc (.cells #[.slice none 0 0, .slice none 0 0] 25) := ⟨_, rfl⟩
  obtain ⟨B1, hx1, hs1⟩ := box_made hw1
  obtain ⟨B4, hx4, hs4⟩ := box_made hw4
  rw [hs1] at B4
  have HB1 := Lib.hid (B1.to hx4)
  have HB4 := Lib.hid B4
  have X4 := Lib.hid (hx1.step hx4)
  have H1 := Lib.hid hw1
  have H4 := Lib.hid hw4
  have HS4 := Lib.hid (show w4.heap.size = w.heap.size + 2 by omega)
  have HA := Lib.hid (h.to X4.out)
  have k0 : w4.cell? ⟨w.heap.size, 0, none⟩ = some (.slice A n c) := (B1.to hx4).cell 0
  have k1 : w4.cell? ⟨w.heap.size, 1, none⟩ = some (.slice B m d) := (B1.to hx4).cell 1
  have hge := Lib.hid (show w.heap.size ≤ w.heap.size + 1 by omega)
  have HR := Lib.hid (trRight_is A B n m c d ns fs t.ref w4 HA.out hn hm hU true (by simp only [true_iff]; exact ⟨hmay, t, hM, rfl⟩))
  have HFd := Lib.hid (fun W (hW : Ext w4 W) => find_is A B n c m d ns key t W hM.rep hM.le hU (HA.out.to hW).nodes h.ok)
  have HMay := Lib.hid hmay
  have HMp := Lib.hid hM
  have hsz := hM.le
  have hsub : t.sub key ≠ .nil := by
    rcases sub_is hM.srt key with ⟨_, hno⟩ | ⟨r, l, v, u, e, hmem⟩
    · exact absurd hk hno
    · rw [e]; intro h; cases h
  have hq0 : ((t.sub key).ref == 0) = false := by
    have := (rep_sub (key := key) hM.rep).nil_iff
    simp only [beq_eq_false_iff_ne, ne_eq]
    exact fun e => hsub (this.1 e)
  clear hw1 hw4 B1 B4 hx1 hx4 hs1 hs4 h hmay hM hk hsz
  obtain ⟨r, hr⟩ : ∃ r, t.ref = r := ⟨_, rfl⟩
  have HREF := Lib.hid hr
  rw [hr] at HR HFd ⊢
  obtain ⟨q, hq⟩ : ∃ q, q = (t.sub key).ref := ⟨_, rfl⟩
  rw [← hq] at HFd hq0
  have HQ := Lib.hid hq
  have HSUB := Lib.hid hsub
  clear hr hq hsub
  go_enter Try.func16, Try.ntmps16
  go_wp2_with fail
  rw [← H1.out, ← H4.out]
  go_wp2_with fail
  refine HR.out.mono ?_; rintro e w5 ⟨rfl, hx5⟩
  have k0 : w5.cell? ⟨w.heap.size, 0, none⟩ = some (.slice A n c) := (HB1.out.to hx5).cell 0
  have k1 : w5.cell? ⟨w.heap.size, 1, none⟩ = some (.slice B m d) := (HB1.out.to hx5).cell 1
  have HX5 := Lib.hid hx5
  clear hx5
  go_wp2_with fail
  refine (HFd.out _ HX5.out).mono ?_; rintro e w6 ⟨rfl, hx6⟩
  have HX6 := Lib.hid (HX5.out.step hx6)
  clear hx6
  obtain ⟨w7, hw7⟩ : ∃ w7, w7 = w6.alloc (.cells #[.int .u64 q] 27) := ⟨_, rfl⟩
  obtain ⟨B7, hx7, hs7⟩ := box_made hw7
  have HX7 := Lib.hid (HX6.out.step hx7)
  have HB7 := Lib.hid B7
  have b7 := Lib.hid (HB4.out.to HX7.out)
  have hlt6 := Lib.hid (show w.heap.size + 2 ≤ w6.heap.size from by have := HX6.out.size; have := HS4.out; omega)
  have e0 : w7.cell? ⟨w6.heap.size, 0, none⟩ = some (.int .u64 q) := B7.cell 0
  have k0 : w7.cell? ⟨w.heap.size, 0, none⟩ = some (.slice A n c) := (HB1.out.to HX7.out).cell 0
  have k1 : w7.cell? ⟨w.heap.size, 1, none⟩ = some (.slice B m d) := (HB1.out.to HX7.out).cell 1
  have H7 := Lib.hid hw7
  rw [hw7] at e0 k0 k1
  clear hw7 B7 hx7 hs7
  go_wp2_with fail
  rw [← H7.out]
  refine (makerOf_is A B n m c d ns fs _ (HA.out.to HX7.out) HMay.out).mono ?_
  rintro e w8 ⟨b, rfl, hb8, hM8, hx8⟩
  obtain ⟨w9, hw9⟩ : ∃ w9, w9 = w8.alloc (.cells #[.pointer (some ⟨b, 0, none⟩)] 79) := ⟨_, rfl⟩
  obtain ⟨B9, hx9, hs9⟩ := box_made hw9
  have HX9 := Lib.hid (HX7.out.step (hx8.step hx9))
  have hlt7 := Lib.hid (show w6.heap.size < w7.heap.size from HB7.out.lt)
  have hlt8 := Lib.hid (show w7.heap.size ≤ b ∧ b < w8.heap.size from ⟨hb8, hM8.lt⟩)
  have HV := Lib.hid (show DelV w9 b w6.heap.size w8.heap.size (t.sub key).ref from
    ⟨HQ.out ▸ (HB7.out.to (hx8.step hx9)), B9, by have := hlt8.out; have := hlt7.out; omega, by have := hlt8.out; omega⟩)
  have HC := Lib.hid (copiedD_is b w6.heap.size w8.heap.size key (t.sub key) t ns fs 0 w9 (hM8.to hx9) HV.out HMp.out.rep HMp.out.srt HMp.out.hp HMp.out.le hU rfl HSUB.out)
  rw [HREF.out] at HC
  have e2 : w9.cell? ⟨w8.heap.size, 0, none⟩ = some (.pointer (some ⟨b, 0, none⟩)) := B9.cell 0
  have H9 := Lib.hid hw9
  have hmf : ∀ (fn : Fn) (first cap : Array Value) (w : World), (Instr.makeFunc fn first cap).run Try.prog w = .ok (.func fn first cap) w := fun fn first cap w => rfl
  rw [hw9] at e2
  clear hw9 B9 hx9 hs9 hM8 hx8 hb8 e0 k0 k1
  go_wp2_with fail
  rw [← H9.out]
  refine HC.out.mono ?_
  rintro e w10 ⟨ns', fs', err', z, rfl, hM10, hO10, hG10, hr10, hu10, hg10, he10⟩
  have hV10 := HV.out.only hO10
  have e2 : w10.cell? ⟨w8.heap.size, 0, none⟩ = some (.pointer (some ⟨b, 0, none⟩)) := hV10.m.cell 0
  have HAns := Lib.hid (answer_is b ns' fs' err' z w10 hM10)
  have X10 := Lib.hid (hO10.new (X4.out.step HX9.out) (by have := hlt8.out; have := hlt7.out; have := hlt6.out; omega))
  have B10 := Lib.hid (hO10.bx (HB4.out.to HX9.out) (by have := hlt8.out; have := hlt7.out; have := hlt6.out; omega))
  have HMay' := Lib.hid hM10.may
  have HG := Lib.hid hG10
  have HUz := Lib.hid hu10
  have Hg := Lib.hid hg10
  have He := Lib.hid he10
  clear hM10 hO10 hG10 hr10 hu10 hg10 he10 hV10
  go_wp2_with fail
  refine HAns.out.mono ?_
  rintro e w11 ⟨h11 | h11, hx11⟩
  · obtain ⟨rfl, rfl⟩ := h11
    have b11 := B10.out.to hx11
    have HX11 := Lib.hid hx11
    have hc : fs.length < t.size - 1 := (He.out rfl).resolve_left (by omega)
    clear hx11
    go_wp2_with (first
      | (refine wpList_store_ar (by rfl) (.tmp 6) (.tmp 33) (by rfl) (w.heap.size + 1) (by rfl) (.slice none 0 0) (.slice none 0 0) (by rfl) rfl rfl _ b11 (by simp) ?_
         intro w12 B12 O12))
    refine bodyPost_ret (results_ar3 rfl _ _ (w.heap.size + 1) #[.slice none 0 0, .slice none 0 0] (by rfl) B12 rfl) rfl ⟨.inl ⟨rfl, hc⟩, ?_⟩
    exact O12.new (X10.out.step HX11.out) hge.out
  · obtain ⟨rfl, A', n', c', B', m', d', rfl, hA11⟩ := h11
    have b11 := B10.out.to hx11
    have HX11 := Lib.hid hx11
    have HA11 := Lib.hid hA11
    have HIs := Lib.hid (Hg.out rfl).2
    clear hx11 hA11
    go_wp2_with (first
      | (refine wpList_store_ar (by rfl) (.tmp 6) (.tmp 33) (by rfl) (w.heap.size + 1) (by rfl) (.slice A' n' c') (.slice B' m' d') (by rfl) rfl rfl _ b11 (by simp) ?_
         intro w12 B12 O12))
    refine bodyPost_ret (results_ar3 rfl _ _ (w.heap.size + 1) #[.slice A' n' c', .slice B' m' d'] (by rfl) B12 rfl) rfl ⟨.inr ⟨A', n', c', B', m', d', ns', fs', z, rfl, ?_, HMay'.out, HG.out, HUz.out, HIs.out⟩, O12.new (X10.out.step HX11.out) hge.out⟩
    exact HA11.out.past b11 (noInt (by simp) (by simp)) O12

end Go.Proofs.Ytjiehlhnocgneaa
