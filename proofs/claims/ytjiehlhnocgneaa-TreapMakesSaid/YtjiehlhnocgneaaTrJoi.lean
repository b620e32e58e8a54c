/-
  Contracts: Join of package treap.
-/
import Derived.Test.YtjiehlhnocgneaaTrErr
import Derived.Test.YtjiehlhnocgneaaTrJoin
set_option linter.unusedVariables false
set_option linter.unusedSimpArgs false
namespace Go.Proofs.Ytjiehlhnocgneaa
open Go.RowKit

set_option maxHeartbeats 4000000 in
set_option maxRecDepth 100000 in
theorem trJoin_no (A B : Option Addr) (n m c d : Nat) (ns : List Nd) (fs : List Int) (t u : T) (w : World) (h : Ar w A n B m ns fs) (hn : n ≤ 1000) (hm : m ≤ 1000) (hU : U t.ref) (hU2 : U u.ref) (hmay : ArMay ns fs) (hM : Mp ns t) (hM2 : Mp ns u) (hb : ¬ ∀ x ∈ t.row, ∀ y ∈ u.row, x.1 < y.1) :
    Calls Try.prog 24 #[.agg #[.slice A n c, .slice B m d], .int .u64 t.ref, .int .u64 u.ref] w (ErrA 5 w) := by
  obtain ⟨w1, hw1⟩ : ∃ w1, w1 = w.alloc (.cells #[.slice A n c, .slice B m d] 25) := ⟨_, rfl⟩
  obtain ⟨w4, hw4⟩ : ∃ w4, w4 = w1.alloc (.cells #[.slice none 0 0, .slice none 0 0] 25) := ⟨_, rfl⟩
  obtain ⟨B1, hx1, hs1⟩ := box_made hw1
  obtain ⟨B4, hx4, hs4⟩ := box_made hw4
  rw [hs1] at B4
  have HB1 := Lib.hid (B1.to hx4)
  have HB4 := Lib.hid B4
  have X4 := Lib.hid (hx1.step hx4)
  have H1 := Lib.hid hw1
  have H4 := Lib.hid hw4
  have HS4 := Lib.hid (show w4.heap.size = w.heap.size + 2 by omega)
  have HA := Lib.hid (h.to X4.out)
  have k0 : w4.cell? ⟨w.heap.size, 0, none⟩ = some (.slice A n c) := (B1.to hx4).cell 0
  have k1 : w4.cell? ⟨w.heap.size, 1, none⟩ = some (.slice B m d) := (B1.to hx4).cell 1
  have hge := Lib.hid (show w.heap.size ≤ w.heap.size + 1 by omega)
  have HR := Lib.hid (trRight_is A B n m c d ns fs t.ref w4 HA.out hn hm hU true (by simp only [true_iff]; exact ⟨hmay, t, hM, rfl⟩))
  have HMay := Lib.hid hmay
  have HMp := Lib.hid hM
  have hsz := hM.le
  have HR2 := Lib.hid (fun W (hW : Ext w4 W) => isMap_is A B n c m d ns u.ref W (HA.out.to hW).nodes (HA.out.to hW).ok hn hU2 true (by simp only [true_iff]; exact ⟨u, hM2, rfl⟩))
  have HS1 := Lib.hid (fun W (hW : Ext w4 W) => sizeOf_is A B n c m d ns t.ref W hU.1 hU.2 (HA.out.to hW).nodes)
  rw [rep_s hM.rep] at HS1
  have HS2 := Lib.hid (fun W (hW : Ext w4 W) => sizeOf_is A B n c m d ns u.ref W hU2.1 hU2.2 (HA.out.to hW).nodes)
  rw [rep_s hM2.rep] at HS2
  have HMp2 := Lib.hid hM2
  have hsz2 := hM2.le
  have s0 := fun q : Later w4 => (HB1.out.to q.ext).cell 0
  have s1 := fun q : Later w4 => (HB1.out.to q.ext).cell 1
  simp only [List.getElem?_toArray, List.getElem?_cons_zero, List.getElem?_cons_succ] at s0 s1
  have S := Lib.hid (And.intro s0 s1)
  have HBl := Lib.hid (fun W (hW : Ext w4 W) => isBelow_is A B n c m d ns t u W hM.rep hM2.rep hM.srt hM2.srt hU hU2 (HA.out.to hW).nodes (HA.out.to hW).ok false (by simpa using hb))
  clear hw1 hw4 B1 B4 hx1 hx4 hs1 hs4 h hb hmay hM hM2 s0 s1
  generalize t.ref = r at *
  generalize u.ref = r2 at *
  go_enter Try.func24, Try.ntmps24
  go_wp2_with fail
  rw [← H1.out, ← H4.out]
  go_wp2_with fail
  refine HR.out.mono ?_; rintro e w5 ⟨rfl, hx5⟩
  have k0 : w5.cell? ⟨w.heap.size, 0, none⟩ = some (.slice A n c) := (HB1.out.to hx5).cell 0
  have k1 : w5.cell? ⟨w.heap.size, 1, none⟩ = some (.slice B m d) := (HB1.out.to hx5).cell 1
  have HX5 := Lib.hid hx5
  clear hx5
  go_wp2_with fail
  refine (HR2.out _ HX5.out).mono ?_; rintro e w6 ⟨rfl, hx6⟩
  have HX6 := Lib.hid (HX5.out.step hx6)
  clear hx6 k0 k1
  go_wp2_with fail
  obtain ⟨s0, s1⟩ := S.out
  refine wp_region_later w4 HX6.out (by kernel_rfl) (by kernel_rfl) ?_
  repeat (go_big_quiet_step (first | (go_at_call 53; with_reducible exact later_call HBl.out) | (go_at_call 39; with_reducible exact later_call HS1.out) | (go_at_call 39; with_reducible exact later_call HS2.out)))
  refine wpQuiet_nil ?_
  rintro _ ⟨q, rfl⟩
  clear s0 s1
  have b4 := Lib.hid (HB4.out.to q.ext)
  have X5 := Lib.hid (X4.out.step q.ext)
  go_wp2_with (first
    | (refine wpList_store_ar (by rfl) (.tmp 6) (.tmp 36) (by rfl) (w.heap.size + 1) (by rfl) (.slice none 0 0) (.slice none 0 0) (by rfl) rfl rfl _ b4.out (by simp) ?_
       intro w9 B9 O9))
  refine bodyPost_ret (results_ar3 rfl _ _ (w.heap.size + 1) #[.slice none 0 0, .slice none 0 0] (by rfl) B9 rfl) rfl ⟨rfl, ?_⟩
  exact O9.new X5.out hge.out

set_option maxHeartbeats 4000000 in
set_option maxRecDepth 100000 in
theorem trJoin_is (A B : Option Addr) (n m c d : Nat) (ns : List Nd) (fs : List Int) (t u : T) (w : World) (h : Ar w A n B m ns fs) (hn : n ≤ 1000) (hm : m ≤ 1000) (hU : U t.ref) (hU2 : U u.ref) (hmay : ArMay ns fs) (hM : Mp ns t) (hM2 : Mp ns u) (hb : ∀ x ∈ t.row, ∀ y ∈ u.row, x.1 < y.1) (h200 : t.size + u.size ≤ 200) :
    Calls Try.prog 24 #[.agg #[.slice A n c, .slice B m d], .int .u64 t.ref, .int .u64 u.ref] w (ResA ns fs (t.size + u.size) (t.row ++ u.row) w) := by
  obtain ⟨w1, hw1⟩ : ∃ w1, w1 = w.alloc (.cells #[.slice A n c, .slice B m d] 25) := ⟨_, rfl⟩
  obtain ⟨w4, hw4⟩ : ∃ w4, w4 = w1.alloc (.cells #[.slice none 0 0, .slice none 0 0] 25) := ⟨_, rfl⟩
  obtain ⟨B1, hx1, hs1⟩ := box_made hw1
  obtain ⟨B4, hx4, hs4⟩ := box_made hw4
  rw [hs1] at B4
  have HB1 := Lib.hid (B1.to hx4)
  have HB4 := Lib.hid B4
  have X4 := Lib.hid (hx1.step hx4)
  have H1 := Lib.hid hw1
  have H4 := Lib.hid hw4
  have HS4 := Lib.hid (show w4.heap.size = w.heap.size + 2 by omega)
  have HA := Lib.hid (h.to X4.out)
  have k0 : w4.cell? ⟨w.heap.size, 0, none⟩ = some (.slice A n c) := (B1.to hx4).cell 0
  have k1 : w4.cell? ⟨w.heap.size, 1, none⟩ = some (.slice B m d) := (B1.to hx4).cell 1
  have hge := Lib.hid (show w.heap.size ≤ w.heap.size + 1 by omega)
  have HR := Lib.hid (trRight_is A B n m c d ns fs t.ref w4 HA.out hn hm hU true (by simp only [true_iff]; exact ⟨hmay, t, hM, rfl⟩))
  have HMay := Lib.hid hmay
  have HMp := Lib.hid hM
  have hsz := hM.le
  have HR2 := Lib.hid (fun W (hW : Ext w4 W) => isMap_is A B n c m d ns u.ref W (HA.out.to hW).nodes (HA.out.to hW).ok hn hU2 true (by simp only [true_iff]; exact ⟨u, hM2, rfl⟩))
  have HS1 := Lib.hid (fun W (hW : Ext w4 W) => sizeOf_is A B n c m d ns t.ref W hU.1 hU.2 (HA.out.to hW).nodes)
  rw [rep_s hM.rep] at HS1
  have HS2 := Lib.hid (fun W (hW : Ext w4 W) => sizeOf_is A B n c m d ns u.ref W hU2.1 hU2.2 (HA.out.to hW).nodes)
  rw [rep_s hM2.rep] at HS2
  have HMp2 := Lib.hid hM2
  have hsz2 := hM2.le
  have s0 := fun q : Later w4 => (HB1.out.to q.ext).cell 0
  have s1 := fun q : Later w4 => (HB1.out.to q.ext).cell 1
  simp only [List.getElem?_toArray, List.getElem?_cons_zero, List.getElem?_cons_succ] at s0 s1
  have S := Lib.hid (And.intro s0 s1)
  have HBl := Lib.hid (fun W (hW : Ext w4 W) => isBelow_is A B n c m d ns t u W hM.rep hM2.rep hM.srt hM2.srt hU hU2 (HA.out.to hW).nodes (HA.out.to hW).ok true (by simpa using hb))
  have HSrt := Lib.hid (Srt.app.2 ⟨hM.srt, hM2.srt, hb⟩)
  have e1 : IntKind.i64.wrap ((t.size : Int) + (u.size : Int)) = (t.size : Int) + (u.size : Int) := by rw [IntKind.wrap_i64]; omega
  have e2 : decide ((200 : Int) < (t.size : Int) + (u.size : Int)) = false := by simp; omega
  have H200 := Lib.hid h200
  clear hw1 hw4 B1 B4 hx1 hx4 hs1 hs4 h hb h200 hmay hM hM2 hsz hsz2 s0 s1
  obtain ⟨r, hr⟩ : ∃ r, t.ref = r := ⟨_, rfl⟩
  obtain ⟨r2, hr2⟩ : ∃ r, u.ref = r := ⟨_, rfl⟩
  have HREF := Lib.hid hr
  have HREF2 := Lib.hid hr2
  rw [hr] at HR HS1
  rw [hr2] at HR2 HS2
  rw [hr, hr2] at HBl ⊢
  clear hr hr2
  go_enter Try.func24, Try.ntmps24
  go_wp2_with fail
  rw [← H1.out, ← H4.out]
  go_wp2_with fail
  refine HR.out.mono ?_; rintro e w5 ⟨rfl, hx5⟩
  have k0 : w5.cell? ⟨w.heap.size, 0, none⟩ = some (.slice A n c) := (HB1.out.to hx5).cell 0
  have k1 : w5.cell? ⟨w.heap.size, 1, none⟩ = some (.slice B m d) := (HB1.out.to hx5).cell 1
  have HX5 := Lib.hid hx5
  clear hx5
  go_wp2_with fail
  refine (HR2.out _ HX5.out).mono ?_; rintro e w6 ⟨rfl, hx6⟩
  have HX6 := Lib.hid (HX5.out.step hx6)
  clear hx6 k0 k1
  go_wp2_with fail
  obtain ⟨s0, s1⟩ := S.out
  refine wp_region_later w4 HX6.out (by kernel_rfl) (by kernel_rfl) ?_
  repeat (go_big_quiet_step (first | (go_at_call 53; with_reducible exact later_call HBl.out) | (go_at_call 39; with_reducible exact later_call HS1.out) | (go_at_call 39; with_reducible exact later_call HS2.out)))
  refine wpQuiet_nil ?_
  rintro _ ⟨q, rfl⟩
  clear s0 s1
  have HXq := Lib.hid q.ext
  have k0 : q.w.cell? ⟨w.heap.size, 0, none⟩ = some (.slice A n c) := (HB1.out.to q.ext).cell 0
  have k1 : q.w.cell? ⟨w.heap.size, 1, none⟩ = some (.slice B m d) := (HB1.out.to q.ext).cell 1
  go_wp2_with fail
  refine (makerOf_is A B n m c d ns fs _ (HA.out.to HXq.out) HMay.out).mono ?_
  rintro e w8 ⟨b, rfl, hb8, hM8, hx8⟩
  have hlt8 := Lib.hid (show w.heap.size + 2 ≤ b from by have := HXq.out.size; have := HS4.out; omega)
  have HX8 := Lib.hid (HXq.out.step hx8)
  have HC := Lib.hid (join_is b 200 t u ns fs 0 w8 H200.out hM8 HMp.out.rep HMp2.out.rep HSrt.out HMp.out.hp HMp2.out.hp H200.out hU hU2)
  rw [HREF.out, HREF2.out] at HC
  clear hM8 hx8 hb8 k0 k1
  go_wp2_with fail
  refine HC.out.mono ?_
  rintro e w10 ⟨ns', fs', err', z, rfl, hM10, hO10, hG10, hr10, hu10, hg10, he10⟩
  have HAns := Lib.hid (answer_is b ns' fs' err' z w10 hM10)
  have X10 := Lib.hid (hO10.new (X4.out.step HX8.out) (by have := hlt8.out; omega))
  have B10 := Lib.hid (hO10.bx (HB4.out.to HX8.out) (by have := hlt8.out; omega))
  have HMay' := Lib.hid hM10.may
  have HG := Lib.hid hG10
  have HUz := Lib.hid hu10
  have Hg := Lib.hid hg10
  have He := Lib.hid he10
  clear hM10 hO10 hG10 hr10 hu10 hg10 he10
  go_wp2_with fail
  refine HAns.out.mono ?_
  rintro e w11 ⟨h11 | h11, hx11⟩
  · obtain ⟨rfl, rfl⟩ := h11
    have b11 := B10.out.to hx11
    have HX11 := Lib.hid hx11
    have hc : fs.length < t.size + u.size := (He.out rfl).resolve_left (by omega)
    clear hx11
    go_wp2_with (first
      | (refine wpList_store_ar (by rfl) (.tmp 6) (.tmp 45) (by rfl) (w.heap.size + 1) (by rfl) (.slice none 0 0) (.slice none 0 0) (by rfl) rfl rfl _ b11 (by simp) ?_
         intro w12 B12 O12))
    refine bodyPost_ret (results_ar3 rfl _ _ (w.heap.size + 1) #[.slice none 0 0, .slice none 0 0] (by rfl) B12 rfl) rfl ⟨.inl ⟨rfl, hc⟩, ?_⟩
    exact O12.new (X10.out.step HX11.out) hge.out
  · obtain ⟨rfl, A', n', c', B', m', d', rfl, hA11⟩ := h11
    have b11 := B10.out.to hx11
    have HX11 := Lib.hid hx11
    have HA11 := Lib.hid hA11
    have HIs := Lib.hid (Hg.out rfl).2
    clear hx11 hA11
    go_wp2_with (first
      | (refine wpList_store_ar (by rfl) (.tmp 6) (.tmp 45) (by rfl) (w.heap.size + 1) (by rfl) (.slice A' n' c') (.slice B' m' d') (by rfl) rfl rfl _ b11 (by simp) ?_
         intro w12 B12 O12))
    refine bodyPost_ret (results_ar3 rfl _ _ (w.heap.size + 1) #[.slice A' n' c', .slice B' m' d'] (by rfl) B12 rfl) rfl ⟨.inr ⟨A', n', c', B', m', d', ns', fs', z, rfl, ?_, HMay'.out, HG.out, HUz.out, HIs.out⟩, O12.new (X10.out.step HX11.out) hge.out⟩
    exact HA11.out.past b11 (noInt (by simp) (by simp)) O12

end Go.Proofs.Ytjiehlhnocgneaa
