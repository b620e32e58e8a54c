/-
  Contract: a map whose path towards a key is made anew, with Put's closure (copied).
-/
import Derived.Test.YthgaogbpkedjcaaTrPutC
set_option linter.unusedVariables false
set_option linter.unusedSimpArgs false
namespace Go.Proofs.Ythgaogbpkedjcaa
open Go.RowKit

theorem goodP_left {ns' ns'' : List Nd} {r : Int} {l : T} {k v' : Int} {u : T} {key v z' z : Int} (hS : Srt (T.node r l k v' u).row) (hH : Hp (.node r l k v' u)) (hz : l.size + u.size ≤ 200) (hn : ¬ StopP (.node r l k v' u) key) (hk : key < k) (hg : GoodP l key v ns' z') (hK : Kid0 ns' z' l k v' u ns'' z) : GoodP (.node r l k v' u) key v ns'' z := by
  obtain ⟨t, h1, h2, h3, h4⟩ := hg
  have hb : Bef k key := (Bef.total (show k ≠ key by omega)).resolve_right (fun h => hn (.inl h))
  have hs := (Srt.mid.1 hS).1
  refine ⟨.node z t k v' u, hK t h1 h2 ?_, rfl, ?_, ⟨fun x hx => ?_, hH.2.1, h4, hH.2.2.2⟩⟩
  · rw [← T.row_length, h3]
    have := (put_le hs (k := key) (v := v)).1
    rw [T.row_length] at this
    omega
  · simp only [T.row]
    rw [put_left hS hk, h3]
  · rw [h3] at hx
    rcases mem_putR hx with hx | hx
    · exact hH.1 x hx
    · rw [hx]; exact hb
theorem goodP_right {ns' ns'' : List Nd} {r : Int} {l : T} {k v' : Int} {u : T} {key v z' z : Int} (hS : Srt (T.node r l k v' u).row) (hH : Hp (.node r l k v' u)) (hz : l.size + u.size ≤ 200) (hn : ¬ StopP (.node r l k v' u) key) (hk : k < key) (hg : GoodP u key v ns' z') (hK : Kid1 ns' z' l k v' u ns'' z) : GoodP (.node r l k v' u) key v ns'' z := by
  obtain ⟨t, h1, h2, h3, h4⟩ := hg
  have hb : Bef k key := (Bef.total (show k ≠ key by omega)).resolve_right (fun h => hn (.inl h))
  have hs := (Srt.mid.1 hS).2.1
  refine ⟨.node z l k v' t, hK t h1 h2 ?_, rfl, ?_, ⟨hH.1, fun x hx => ?_, hH.2.2.1, h4⟩⟩
  · rw [← T.row_length, h3]
    have := (put_le hs (k := key) (v := v)).1
    rw [T.row_length] at this
    omega
  · simp only [T.row]
    rw [put_right hS hk, h3]
  · rw [h3] at hx
    rcases mem_putR hx with hx | hx
    · exact hH.2.1 x hx
    · rw [hx]; exact hb

set_option maxHeartbeats 6400000 in
set_option maxRecDepth 100000 in
theorem copiedP_is (b bk bm bv : Nat) (key v : Int) (s : T) : ∀ (ns : List Nd) (fs : List Int) (err : Int) (w : World), Mk w b ns fs err → PutV w b bk bm bv key v → Rep ns s → Srt s.row → Hp s → s.size ≤ 200 → U s.ref → 
    Calls Try.prog 37 #[.pointer (some ⟨b, 0, none⟩), .int .u64 s.ref, .int .i64 key, .func (.func 38) #[] #[.pointer (some ⟨bk, 0, none⟩), .pointer (some ⟨bm, 0, none⟩), .pointer (some ⟨bv, 0, none⟩)]] w (MOut b ns fs err (s.size + 1) (GoodP s key v) w) := by
  induction s with
  | nil =>
    intro ns fs err w h hV hR hS hH hz hU
    obtain ⟨A, n, c, B, m, d, hb, ha, hA, hB⟩ := h.box
    have HN := Lib.hid (fun W (hW : Ext w W) => nodeOf_is A B n c m d ns 0 W (by omega) (by omega) (ha.nodes.to hW))
    have c0 : w.cell? ⟨b, 0, none⟩ = some (.slice A n c) := hb.cell 0
    have c1 : w.cell? ⟨b, 1, none⟩ = some (.slice B m d) := hb.cell 1
    have HC := Lib.hid (fun W (hW : Ext w W) => putC_is b bk bm bv key v .nil ns fs err W (h.to hW) (hV.to hW) hR hS hH hz hU)
    rw [show T.nil.ref = 0 from rfl] at HC ⊢
    generalize nodeF ns 0 = x at HN HC
    clear hb ha hA hB h hR hS hH hz hU hV
    go_enter Try.func37, Try.ntmps37
    go_wp2_with fail
    refine (HN.out _ (Ext.refl _)).mono ?_; rintro e w3 ⟨rfl, hx3⟩
    obtain ⟨w4, hw4⟩ : ∃ w4, w4 = w3.alloc (.cells x.arr 66) := ⟨_, rfl⟩
    obtain ⟨B4, hx4, hs4⟩ := box_made hw4
    have H4 := Lib.hid hw4
    have X4 := Lib.hid (hx3.step hx4)
    have n4 := B4.node
    clear hw4 B4 hx3 hx4 hs4 c0 c1
    go_wp2_with (first
      | (refine wpList_store_nd (W := w3) (by rfl) _ _ (by rfl) (by rfl) x (by rfl) _ (by rfl) (by rfl) ?_; rw [← H4.out])
      | (refine wpList_load_nd (by rfl) _ (by rfl) _ (by rfl) x n4 ?_))
    refine (HC.out _ X4.out).mono ?_
    rintro e w5 (⟨hst, ns5, fs5, err5, z5, rfl, hM5, hO5, hG5, hr5, hu5, hg5, he5⟩ | ⟨hst, _⟩)
    · have HF := Lib.hid (show MOut b ns fs err (T.nil.size + 1) (GoodP .nil key v) w (.returned (.int .u64 z5)) w5 from
        ⟨ns5, fs5, err5, z5, rfl, hM5, ((Only.refl b w).ext X4.out).trans hO5, hG5, hr5, hu5, hg5, he5⟩)
      clear hst hM5 hO5 hG5 hr5 hu5 hg5 he5
      go_wp2_with fail
      go_ret
      exact HF.out
    · exact absurd trivial hst
  | node r l k vv u ih1 ih2 =>
    intro ns fs err w h hV hR hS hH hz hU
    obtain ⟨A, n, c, B, m, d, hb, ha, hA, hB⟩ := h.box
    obtain ⟨x, hx⟩ := hR.nod
    have hkids := hR.kids ha.ok
    have HN := Lib.hid (fun W (hW : Ext w W) => nodeOf_is A B n c m d ns r W hU.1 hU.2 (ha.nodes.to hW))
    rw [hx.at_] at HN
    have c0 : w.cell? ⟨b, 0, none⟩ = some (.slice A n c) := hb.cell 0
    have c1 : w.cell? ⟨b, 1, none⟩ = some (.slice B m d) := hb.cell 1
    have HC := Lib.hid (fun W (hW : Ext w W) => putC_is b bk bm bv key v (.node r l k vv u) ns fs err W (h.to hW) (hV.to hW) hR hS hH hz hU)
    rw [show (T.node r l k vv u).ref = r from rfl, hx.at_] at HC
    rw [show (T.node r l k vv u).ref = r from rfl] at hU ⊢
    have HM := Lib.hid h
    have HV := Lib.hid hV
    have HX := Lib.hid hx
    have HK := Lib.hid hkids
    have HR := Lib.hid hR
    have HS := Lib.hid hS
    have HH := Lib.hid hH
    have hsm := Lib.hid (Srt.mid.1 hS)
    have HZ := Lib.hid (show l.size + u.size + 1 ≤ 200 from hz)
    have I1 := Lib.hid ih1
    have I2 := Lib.hid ih2
    clear hb ha hA hB h hx hkids hR hS hH hz ih1 ih2 hV
    go_enter Try.func37, Try.ntmps37
    go_wp2_with fail
    refine (HN.out _ (Ext.refl _)).mono ?_; rintro e w3 ⟨rfl, hx3⟩
    obtain ⟨w4, hw4⟩ : ∃ w4, w4 = w3.alloc (.cells x.arr 66) := ⟨_, rfl⟩
    obtain ⟨B4, hx4, hs4⟩ := box_made hw4
    have H4 := Lib.hid hw4
    have HB4 := Lib.hid B4
    have X4 := Lib.hid (hx3.step hx4)
    have n4 := B4.node
    clear hw4 B4 hx3 hx4 hs4 c0 c1
    go_wp2_with (first
      | (refine wpList_store_nd (W := w3) (by rfl) _ _ (by rfl) (by rfl) x (by rfl) _ (by rfl) (by rfl) ?_; rw [← H4.out])
      | (refine wpList_load_nd (by rfl) _ (by rfl) _ (by rfl) x n4 ?_))
    refine (HC.out _ X4.out).mono ?_
    rintro e w5 (⟨hst, ns5, fs5, err5, z5, rfl, hM5, hO5, hG5, hr5, hu5, hg5, he5⟩ | ⟨hst, rfl, hx5⟩)
    · have HF := Lib.hid (show MOut b ns fs err ((T.node r l k vv u).size + 1) (GoodP (.node r l k vv u) key v) w (.returned (.int .u64 z5)) w5 from
        ⟨ns5, fs5, err5, z5, rfl, hM5, ((Only.refl b w).ext X4.out).trans hO5, hG5.more (by omega), hr5, hu5, hg5, fun h => (he5 h).imp id (fun h => by omega)⟩)
      clear hst hM5 hO5 hG5 hr5 hu5 hg5 he5
      go_wp2_with fail
      go_ret
      exact HF.out
    · have HST := Lib.hid hst
      have n5 := HB4.out.to hx5 |>.node
      have hB5 := Lib.hid (HB4.out.to hx5)
      have X5 := Lib.hid (X4.out.step hx5)
      clear hst hx5 n4
      rcases Int.lt_trichotomy key k with hk | hk | hk
      · have HC2 := Lib.hid (fun W => sideOf_is x key W)
        rw [HX.out.n, show (if key < k then (0 : Int) else 1) = 0 from if_pos hk] at HC2
        have HKK := Lib.hid hk
        clear hk
        go_wp2_with (first
          | (refine wpList_load_nd (by rfl) _ (by rfl) _ (by rfl) x n5 ?_))
        refine (HC2.out _).mono ?_; rintro e w6 ⟨rfl, hx6⟩
        have c5 : w6.cell? ⟨w3.heap.size, 5, none⟩ = some (.int .u64 l.ref) := by rw [← HX.out.r0]; exact ((hB5.out.to hx6).cell 5).trans x.a5
        have X6 := Lib.hid (X5.out.step hx6)
        have HI := Lib.hid (I1.out ns fs err w6 (HM.out.to X6.out) (HV.out.to X6.out) HR.out.2.1 hsm.out.1 HH.out.2.2.1 (by have := HZ.out; omega) HK.out.1)
        clear hx6 n5
        go_wp2_with fail
        refine HI.out.mono ?_
        rintro e w7 ⟨ns7, fs7, err7, z7, rfl, hM7, hO7, hG7, hr7, hu7, hg7, he7⟩
        have HW := Lib.hid (with0_is b ns7 fs7 err7 r l k vv u z7 w7 hM7 (hG7.rep HR.out) hU (by have := HZ.out; omega) hr7 hu7)
        have HG7 := Lib.hid hG7
        have HO7 := Lib.hid hO7
        have Hg7 := Lib.hid hg7
        have He7 := Lib.hid he7
        clear hM7 hO7 hG7 hr7 hu7 hg7 he7 c5
        go_wp2_with fail
        refine HW.out.mono ?_
        rintro e w8 ⟨ns8, fs8, err8, z8, rfl, hM8, hO8, hG8, hr8, hu8, hg8, he8⟩
        have HF := Lib.hid (show MOut b ns fs err ((T.node r l k vv u).size + 1) (GoodP (.node r l k vv u) key v) w (.returned (.int .u64 z8)) w8 from by
          refine ⟨ns8, fs8, err8, z8, rfl, hM8, (((Only.refl b w).ext X6.out).trans HO7.out).trans hO8, (HG7.out.trans hG8).more (by simp only [T.size]; omega), hr8, hu8, fun h => ?_, fun h => ?_⟩
          · obtain ⟨h1, h2⟩ := hg8 h
            obtain ⟨h3, h4⟩ := Hg7.out h1
            exact ⟨h3, goodP_left HS.out HH.out (by have := HZ.out; omega) HST.out HKK.out h4 h2⟩
          · rcases he8 h with h1 | h1
            · rcases He7.out h1 with h2 | h2
              · exact .inl h2
              · exact .inr (by simp only [T.size]; omega)
            · have := HG7.out.few
              exact .inr (by simp only [T.size]; omega))
        clear hM8 hO8 hG8 hr8 hu8 hg8 he8
        go_wp2_with fail
        go_ret
        exact HF.out
      · exact absurd (.inr hk) HST.out
      · have HC2 := Lib.hid (fun W => sideOf_is x key W)
        rw [HX.out.n, show (if key < k then (0 : Int) else 1) = 1 from if_neg (by omega)] at HC2
        have HKK := Lib.hid hk
        clear hk
        go_wp2_with (first
          | (refine wpList_load_nd (by rfl) _ (by rfl) _ (by rfl) x n5 ?_))
        refine (HC2.out _).mono ?_; rintro e w6 ⟨rfl, hx6⟩
        have c5 : w6.cell? ⟨w3.heap.size, 6, none⟩ = some (.int .u64 u.ref) := by rw [← HX.out.r1]; exact ((hB5.out.to hx6).cell 6).trans x.a6
        have X6 := Lib.hid (X5.out.step hx6)
        have HI := Lib.hid (I2.out ns fs err w6 (HM.out.to X6.out) (HV.out.to X6.out) HR.out.2.2 hsm.out.2.1 HH.out.2.2.2 (by have := HZ.out; omega) HK.out.2)
        clear hx6 n5
        go_wp2_with fail
        refine HI.out.mono ?_
        rintro e w7 ⟨ns7, fs7, err7, z7, rfl, hM7, hO7, hG7, hr7, hu7, hg7, he7⟩
        have HW := Lib.hid (with1_is b ns7 fs7 err7 r l k vv u z7 w7 hM7 (hG7.rep HR.out) hU (by have := HZ.out; omega) hr7 hu7)
        have HG7 := Lib.hid hG7
        have HO7 := Lib.hid hO7
        have Hg7 := Lib.hid hg7
        have He7 := Lib.hid he7
        clear hM7 hO7 hG7 hr7 hu7 hg7 he7 c5
        go_wp2_with fail
        refine HW.out.mono ?_
        rintro e w8 ⟨ns8, fs8, err8, z8, rfl, hM8, hO8, hG8, hr8, hu8, hg8, he8⟩
        have HF := Lib.hid (show MOut b ns fs err ((T.node r l k vv u).size + 1) (GoodP (.node r l k vv u) key v) w (.returned (.int .u64 z8)) w8 from by
          refine ⟨ns8, fs8, err8, z8, rfl, hM8, (((Only.refl b w).ext X6.out).trans HO7.out).trans hO8, (HG7.out.trans hG8).more (by simp only [T.size]; omega), hr8, hu8, fun h => ?_, fun h => ?_⟩
          · obtain ⟨h1, h2⟩ := hg8 h
            obtain ⟨h3, h4⟩ := Hg7.out h1
            exact ⟨h3, goodP_right HS.out HH.out (by have := HZ.out; omega) HST.out HKK.out h4 h2⟩
          · rcases he8 h with h1 | h1
            · rcases He7.out h1 with h2 | h2
              · exact .inl h2
              · exact .inr (by simp only [T.size]; omega)
            · have := HG7.out.few
              exact .inr (by simp only [T.size]; omega))
        clear hM8 hO8 hG8 hr8 hu8 hg8 he8
        go_wp2_with fail
        go_ret
        exact HF.out

end Go.Proofs.Ythgaogbpkedjcaa
