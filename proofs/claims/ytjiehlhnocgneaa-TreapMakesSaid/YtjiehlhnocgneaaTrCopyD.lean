/-
  Contract: a map whose path towards a key is made anew, with Del's closure (copied).
-/
import Derived.Test.YtjiehlhnocgneaaTrDelC
set_option linter.unusedVariables false
set_option linter.unusedSimpArgs false
namespace Go.Proofs.Ytjiehlhnocgneaa
open Go.RowKit

theorem sub_pos {t q : T} {key : Int} (h : t.sub key = q) (hq : q ≠ .nil) : 1 ≤ t.size := by
  cases t with
  | nil => exact absurd h (fun e => hq (by rw [← e]; rfl))
  | node r l k v u => simp only [T.size]; omega

theorem goodD_left {ns' ns'' : List Nd} {r : Int} {l : T} {k v' : Int} {u : T} {key z' z : Int} (hS : Srt (T.node r l k v' u).row) (hH : Hp (.node r l k v' u)) (hz : l.size + u.size ≤ 200) (hk : key < k) (hg : GoodD l key ns' z') (hK : Kid0 ns' z' l k v' u ns'' z) : GoodD (.node r l k v' u) key ns'' z := by
  obtain ⟨t, h1, h2, h3, h4⟩ := hg
  refine ⟨.node z t k v' u, hK t h1 h2 ?_, rfl, ?_, ⟨fun x hx => hH.1 x (mem_delR (h3 ▸ hx)), hH.2.1, h4, hH.2.2.2⟩⟩
  · rw [← T.row_length, h3]
    have : (delR l.row key).length ≤ l.row.length := List.length_filter_le _ _
    rw [T.row_length] at this
    omega
  · simp only [T.row]
    rw [del_left hS hk, h3]
theorem goodD_right {ns' ns'' : List Nd} {r : Int} {l : T} {k v' : Int} {u : T} {key z' z : Int} (hS : Srt (T.node r l k v' u).row) (hH : Hp (.node r l k v' u)) (hz : l.size + u.size ≤ 200) (hk : k < key) (hg : GoodD u key ns' z') (hK : Kid1 ns' z' l k v' u ns'' z) : GoodD (.node r l k v' u) key ns'' z := by
  obtain ⟨t, h1, h2, h3, h4⟩ := hg
  refine ⟨.node z l k v' t, hK t h1 h2 ?_, rfl, ?_, ⟨hH.1, fun x hx => hH.2.1 x (mem_delR (h3 ▸ hx)), hH.2.2.1, h4⟩⟩
  · rw [← T.row_length, h3]
    have : (delR u.row key).length ≤ u.row.length := List.length_filter_le _ _
    rw [T.row_length] at this
    omega
  · simp only [T.row]
    rw [del_right hS hk, h3]

set_option maxHeartbeats 6400000 in
set_option maxRecDepth 100000 in
theorem copiedD_is (b bg bm : Nat) (key : Int) (q : T) (s : T) : ∀ (ns : List Nd) (fs : List Int) (err : Int) (w : World), Mk w b ns fs err → DelV w b bg bm q.ref → Rep ns s → Srt s.row → Hp s → s.size ≤ 200 → U s.ref → s.sub key = q → q ≠ .nil →
    Calls Try.prog 42 #[.pointer (some ⟨b, 0, none⟩), .int .u64 s.ref, .int .i64 key, .func (.func 48) #[] #[.pointer (some ⟨bg, 0, none⟩), .pointer (some ⟨bm, 0, none⟩)]] w (MOut b ns fs err (s.size - 1) (GoodD s key) w) := by
  induction s with
  | nil =>
    intro ns fs err w h hV hR hS hH hz hU hsub hq
    exact absurd hsub (fun e => hq (by rw [← e]; rfl))
  | node r l k vv u ih1 ih2 =>
    intro ns fs err w h hV hR hS hH hz hU hsub hq
    obtain ⟨A, n, c, B, m, d, hb, ha, hA, hB⟩ := h.box
    obtain ⟨x, hx⟩ := hR.nod
    have hkids := hR.kids ha.ok
    have HN := Lib.hid (fun W (hW : Ext w W) => nodeOf_is A B n c m d ns r W hU.1 hU.2 (ha.nodes.to hW))
    rw [hx.at_] at HN
    have c0 : w.cell? ⟨b, 0, none⟩ = some (.slice A n c) := hb.cell 0
    have c1 : w.cell? ⟨b, 1, none⟩ = some (.slice B m d) := hb.cell 1
    have HC := Lib.hid (fun W (hW : Ext w W) => delC_is b bg bm key q (.node r l k vv u) ns fs err W (h.to hW) (hV.to hW) hR hS hH hz hU hsub hq)
    rw [show (T.node r l k vv u).ref = r from rfl, hx.at_] at HC
    rw [show (T.node r l k vv u).ref = r from rfl] at hU ⊢
    have HM := Lib.hid h
    have HV := Lib.hid hV
    have HX := Lib.hid hx
    have HK := Lib.hid hkids
    have HR := Lib.hid hR
    have HS := Lib.hid hS
    have HH := Lib.hid hH
    have hsm := Lib.hid (Srt.mid.1 hS)
    have HZ := Lib.hid (show l.size + u.size + 1 ≤ 200 from hz)
    have I1 := Lib.hid ih1
    have I2 := Lib.hid ih2
    have HSUB := Lib.hid hsub
    have HQ := Lib.hid hq
    clear hb ha hA hB h hx hkids hR hS hH hz ih1 ih2 hV hsub hq
    go_enter Try.func42, Try.ntmps42
    go_wp2_with fail
    refine (HN.out _ (Ext.refl _)).mono ?_; rintro e w3 ⟨rfl, hx3⟩
    obtain ⟨w4, hw4⟩ : ∃ w4, w4 = w3.alloc (.cells x.arr 76) := ⟨_, rfl⟩
    obtain ⟨B4, hx4, hs4⟩ := box_made hw4
    have H4 := Lib.hid hw4
    have HB4 := Lib.hid B4
    have X4 := Lib.hid (hx3.step hx4)
    have n4 := B4.node
    clear hw4 B4 hx3 hx4 hs4 c0 c1
    go_wp2_with (first
      | (refine wpList_store_nd (W := w3) (by rfl) _ _ (by rfl) (by rfl) x (by rfl) _ (by rfl) (by rfl) ?_; rw [← H4.out])
      | (refine wpList_load_nd (by rfl) _ (by rfl) _ (by rfl) x n4 ?_))
    refine (HC.out _ X4.out).mono ?_
    rintro e w5 (⟨hst, ns5, fs5, err5, z5, rfl, hM5, hO5, hG5, hr5, hu5, hg5, he5⟩ | ⟨hst, rfl, hx5⟩)
    · have HF := Lib.hid (show MOut b ns fs err ((T.node r l k vv u).size - 1) (GoodD (.node r l k vv u) key) w (.returned (.int .u64 z5)) w5 from
        ⟨ns5, fs5, err5, z5, rfl, hM5, ((Only.refl b w).ext X4.out).trans hO5, hG5.more (by omega), hr5, hu5, hg5, fun h => (he5 h).imp id (fun h => by omega)⟩)
      clear hst hM5 hO5 hG5 hr5 hu5 hg5 he5
      go_wp2_with fail
      go_ret
      exact HF.out
    · have HST := Lib.hid hst
      have n5 := HB4.out.to hx5 |>.node
      have hB5 := Lib.hid (HB4.out.to hx5)
      have X5 := Lib.hid (X4.out.step hx5)
      clear hst hx5 n4
      rcases Int.lt_trichotomy key k with hk | hk | hk
      · have HC2 := Lib.hid (fun W => sideOf_is x key W)
        rw [HX.out.n, show (if key < k then (0 : Int) else 1) = 0 from if_pos hk] at HC2
        have HKK := Lib.hid hk
        clear hk
        go_wp2_with (first
          | (refine wpList_load_nd (by rfl) _ (by rfl) _ (by rfl) x n5 ?_))
        refine (HC2.out _).mono ?_; rintro e w6 ⟨rfl, hx6⟩
        have c5 : w6.cell? ⟨w3.heap.size, 5, none⟩ = some (.int .u64 l.ref) := by rw [← HX.out.r0]; exact ((hB5.out.to hx6).cell 5).trans x.a5
        have X6 := Lib.hid (X5.out.step hx6)
        have hp1 := Lib.hid (sub_pos (show l.sub key = q by have := HSUB.out; have hk := HKK.out; simp only [T.sub] at this; rwa [if_neg (by omega), if_pos hk] at this) HQ.out)
        have HI := Lib.hid (I1.out ns fs err w6 (HM.out.to X6.out) (HV.out.to X6.out) HR.out.2.1 hsm.out.1 HH.out.2.2.1 (by have := HZ.out; omega) HK.out.1 (by have := HSUB.out; have hk := HKK.out; simp only [T.sub] at this; rwa [if_neg (by omega), if_pos hk] at this) HQ.out)
        clear hx6 n5
        go_wp2_with fail
        refine HI.out.mono ?_
        rintro e w7 ⟨ns7, fs7, err7, z7, rfl, hM7, hO7, hG7, hr7, hu7, hg7, he7⟩
        have HW := Lib.hid (with0_is b ns7 fs7 err7 r l k vv u z7 w7 hM7 (hG7.rep HR.out) hU (by have := HZ.out; omega) hr7 hu7)
        have HG7 := Lib.hid hG7
        have HO7 := Lib.hid hO7
        have Hg7 := Lib.hid hg7
        have He7 := Lib.hid he7
        clear hM7 hO7 hG7 hr7 hu7 hg7 he7 c5
        go_wp2_with fail
        refine HW.out.mono ?_
        rintro e w8 ⟨ns8, fs8, err8, z8, rfl, hM8, hO8, hG8, hr8, hu8, hg8, he8⟩
        have HF := Lib.hid (show MOut b ns fs err ((T.node r l k vv u).size - 1) (GoodD (.node r l k vv u) key) w (.returned (.int .u64 z8)) w8 from by
          refine ⟨ns8, fs8, err8, z8, rfl, hM8, (((Only.refl b w).ext X6.out).trans HO7.out).trans hO8, (HG7.out.trans hG8).more (by have := hp1.out; simp only [T.size]; omega), hr8, hu8, fun h => ?_, fun h => ?_⟩
          · obtain ⟨h1, h2⟩ := hg8 h
            obtain ⟨h3, h4⟩ := Hg7.out h1
            exact ⟨h3, goodD_left HS.out HH.out (by have := HZ.out; omega)  HKK.out h4 h2⟩
          · rcases he8 h with h1 | h1
            · rcases He7.out h1 with h2 | h2
              · exact .inl h2
              · exact .inr (by have := hp1.out; simp only [T.size]; omega)
            · have := HG7.out.few
              have := hp1.out
              exact .inr (by simp only [T.size]; omega))
        clear hM8 hO8 hG8 hr8 hu8 hg8 he8
        go_wp2_with fail
        go_ret
        exact HF.out
      · exact absurd (by rw [← HSUB.out]; simp [T.sub, hk, T.ref] : r = q.ref) HST.out
      · have HC2 := Lib.hid (fun W => sideOf_is x key W)
        rw [HX.out.n, show (if key < k then (0 : Int) else 1) = 1 from if_neg (by omega)] at HC2
        have HKK := Lib.hid hk
        clear hk
        go_wp2_with (first
          | (refine wpList_load_nd (by rfl) _ (by rfl) _ (by rfl) x n5 ?_))
        refine (HC2.out _).mono ?_; rintro e w6 ⟨rfl, hx6⟩
        have c5 : w6.cell? ⟨w3.heap.size, 6, none⟩ = some (.int .u64 u.ref) := by rw [← HX.out.r1]; exact ((hB5.out.to hx6).cell 6).trans x.a6
        have X6 := Lib.hid (X5.out.step hx6)
        have hp1 := Lib.hid (sub_pos (show u.sub key = q by have := HSUB.out; have hk := HKK.out; simp only [T.sub] at this; rwa [if_neg (by omega), if_neg (by omega)] at this) HQ.out)
        have HI := Lib.hid (I2.out ns fs err w6 (HM.out.to X6.out) (HV.out.to X6.out) HR.out.2.2 hsm.out.2.1 HH.out.2.2.2 (by have := HZ.out; omega) HK.out.2 (by have := HSUB.out; have hk := HKK.out; simp only [T.sub] at this; rwa [if_neg (by omega), if_neg (by omega)] at this) HQ.out)
        clear hx6 n5
        go_wp2_with fail
        refine HI.out.mono ?_
        rintro e w7 ⟨ns7, fs7, err7, z7, rfl, hM7, hO7, hG7, hr7, hu7, hg7, he7⟩
        have HW := Lib.hid (with1_is b ns7 fs7 err7 r l k vv u z7 w7 hM7 (hG7.rep HR.out) hU (by have := HZ.out; omega) hr7 hu7)
        have HG7 := Lib.hid hG7
        have HO7 := Lib.hid hO7
        have Hg7 := Lib.hid hg7
        have He7 := Lib.hid he7
        clear hM7 hO7 hG7 hr7 hu7 hg7 he7 c5
        go_wp2_with fail
        refine HW.out.mono ?_
        rintro e w8 ⟨ns8, fs8, err8, z8, rfl, hM8, hO8, hG8, hr8, hu8, hg8, he8⟩
        have HF := Lib.hid (show MOut b ns fs err ((T.node r l k vv u).size - 1) (GoodD (.node r l k vv u) key) w (.returned (.int .u64 z8)) w8 from by
          refine ⟨ns8, fs8, err8, z8, rfl, hM8, (((Only.refl b w).ext X6.out).trans HO7.out).trans hO8, (HG7.out.trans hG8).more (by have := hp1.out; simp only [T.size]; omega), hr8, hu8, fun h => ?_, fun h => ?_⟩
          · obtain ⟨h1, h2⟩ := hg8 h
            obtain ⟨h3, h4⟩ := Hg7.out h1
            exact ⟨h3, goodD_right HS.out HH.out (by have := HZ.out; omega)  HKK.out h4 h2⟩
          · rcases he8 h with h1 | h1
            · rcases He7.out h1 with h2 | h2
              · exact .inl h2
              · exact .inr (by have := hp1.out; simp only [T.size]; omega)
            · have := HG7.out.few
              have := hp1.out
              exact .inr (by simp only [T.size]; omega))
        clear hM8 hO8 hG8 hr8 hu8 hg8 he8
        go_wp2_with fail
        go_ret
        exact HF.out

end Go.Proofs.Ytjiehlhnocgneaa
