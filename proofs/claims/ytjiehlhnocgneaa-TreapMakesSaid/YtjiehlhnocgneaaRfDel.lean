/-
  Contracts of the document's answers on rows: a row without a key (Del), those below a key (Below).
-/
import Derived.Test.YtjiehlhnocgneaaRfPut
set_option linter.unusedVariables false
set_option linter.unusedSimpArgs false
namespace Go.Proofs.Ytjiehlhnocgneaa
open Go.RowKit

set_option maxHeartbeats 3200000 in
set_option maxRecDepth 100000 in
theorem rfDel_is (A : Option Addr) (n c : Nat) (l : Row) (key : Int) (w : World) (h : RdI w A n l) (hn : n ≤ 1000) :
    Calls Try.prog 23 #[.slice A n c, .int .i64 key] w (RowA (delR l key) w) := by
  have hl := Lib.hid h.len
  have HH := Lib.hid h
  obtain ⟨i0, hi0, hz0, hz1, hz2⟩ := info_parts item_info
  clear h
  go_enter Try.func23, Try.ntmps23
  go_wp2_with fail
  go_loopw [11, 5, 7] (fun j s _ wr => Hid (Ext w wr) ∧ ∃ (k : Nat), k ≤ n ∧ j = .int .i64 k ∧ Hid (OutX wr w.heap.size [] s (delR (l.take k) key))) (fun j _ _ _ => n - (intOf j).toNat)
  case atStart => exact ⟨Lib.hid ((Ext.refl _).new _), 0, Nat.zero_le _, rfl, Lib.hid (RowX.nil _ _ _ _ _ _)⟩
  case round =>
    obtain ⟨hx, k, hk, rfl, hO⟩ := hrel
    rename World => w4
    by_cases hlt : k < n
    · obtain ⟨x, hxk⟩ : ∃ x, l[k]? = some x := ⟨_, List.getElem?_eq_getElem (by have := hl.out; omega)⟩
      obtain ⟨ad, rfl, hit⟩ := HH.out.item hxk
      obtain ⟨x1, x2⟩ := x
      obtain ⟨c0, c1⟩ := hit.to hx.out
      have HX := Lib.hid hxk
      obtain ⟨w5, hw5⟩ : ∃ w5, w5 = w4.alloc (.cells #[.int .i64 x1, .int .i64 x2] 60) := ⟨_, rfl⟩
      obtain ⟨B5, hx5, hs5⟩ := box_made hw5
      have H5 := Lib.hid hw5
      have X5 := Lib.hid (hx.out.step hx5)
      have HS5 := Lib.hid hs5
      have HO5 := Lib.hid (show OutX w5 w.heap.size [] _ (delR (l.take k) key) from RowX.to hO.out hx5)
      have hlen : (delR (l.take k) key).length ≤ k := Nat.le_trans (List.length_filter_le _ _) (List.length_take_le k l)
      simp only at c0 c1
      obtain ⟨o, ho⟩ : ∃ o, o = delR (l.take k) key := ⟨_, rfl⟩
      rw [← ho] at HO5 hlen
      have HOe := Lib.hid ho
      obtain ⟨m, hm⟩ : ∃ m, m = o.length := ⟨_, rfl⟩
      have HM := Lib.hid hm
      rw [← hm] at hlen
      have hm1 : m ≤ 1001 := by omega
      have hkn : ¬ n ≤ k := by omega
      have HP5 := Lib.hid HO5.out
      unfold OutX at HO5
      rw [← hm] at HO5
      clear hxk hit hw5 B5 hx5 hs5 hO hlen hm ho
      by_cases hp : x1 ≠ key
      · have HE := Lib.hid (show delR (l.take (k + 1)) key = o ++ [(x1, x2)] by
          rw [take_snoc HX.out, HOe.out]; simp [delR, List.filter_append, hp])
        obtain ⟨w6, hw6⟩ : ∃ w6, w6 = w5.alloc (.cells #[.int .i64 x1, .int .i64 x2] 60) := ⟨_, rfl⟩
        obtain ⟨B_, hx_, hs_⟩ := box_made hw6
        have Hw6 := Lib.hid hw6
        have HRw6 := Lib.hid (show RdI w6 (some ⟨w4.heap.size + 1, 0, none⟩) 1 [(x1, x2)] by rw [hw6, ← HS5.out]; exact Rd.lit w5 #[.int .i64 x1, .int .i64 x2] 60 1 rfl)
        have HOw6 := Lib.hid (HO5.out.to hx_)
        have Xw6 := Lib.hid (X5.out.step hx_)
        have hbw6 := Lib.hid (show w.heap.size ≤ w6.heap.size from Xw6.out.size)
        clear hw6 hs_
        clear B_ hx_
        go_wp2_with (first
          | (at_builtin
             rw [← H5.out, ← Hw6.out]
             refine wpList_append_x _ rfl (.tmp 19) (.tmp 21) _ rfl 60 i0 _ 2 16 Try.underlying31 hi0 hz0 hz1 hz2 rfl (by omega) w.heap.size [] _ m (flat itc o) rfl HOw6.out (some ⟨w4.heap.size + 1, 0, none⟩) 1 1 (flat itc [(x1, x2)]) rfl HRw6.out (flat_one itc_one _) (by simp only [maxLen]; omega) (by omega) hbw6.out (fun b hb => by cases hb) ?_
             intro A7 c7 w7 hr7 ap7
             have HX7 := Lib.hid (ap7.old w Xw6.out (Nat.le_refl _))
             have HR7 := Lib.hid (show OutX w7 w.heap.size [] (.slice A7 (m + 1 : Nat) c7) (delR (l.take (k + 1)) key) by
               unfold OutX
               rw [HE.out, List.length_append, ← HM.out, ← flat_append]
               exact hr7)
             clear hr7 ap7))
        go_roundw
        case rel => exact ⟨HX7, k + 1, by omega, by go_num, HR7⟩
        case measure => simp [intOf]; omega
      · have HE := Lib.hid (show delR (l.take (k + 1)) key = o by
          rw [take_snoc HX.out, HOe.out]; simp [delR, List.filter_append, hp])
        have hp' : x1 = key := by omega
        subst hp'
        clear hp
        go_wp2_with fail
        try rw [← H5.out]
        go_roundw
        case rel => exact ⟨by first | exact X5 | (rw [← H5.out]; exact X5), k + 1, by omega, by go_num, by first | (rw [HE.out]; exact HP5) | (rw [HE.out, ← H5.out]; exact HP5)⟩
        case measure => simp [intOf]; omega
    · have hge : n ≤ k := by omega
      have hkn : k = n := by omega
      subst hkn
      obtain ⟨A', c', hs', h1, h2⟩ := RowX.slice hO.out
      subst hs'
      have he : l.take k = l := List.take_of_length_le (by have := hl.out; omega)
      have HF : RowA (delR l key) w (.returned (.slice A' ((delR (l.take k) key).length : Nat) c')) w4 := by
        have h3 := RowX.rd hO.out
        rw [he] at h1 h3 ⊢
        exact ⟨A', c', rfl, h3, h1, h2, hx.out⟩
      have HF := Lib.hid HF
      clear hO he
      go_wp2_with fail
      go_ret
      exact HF.out

set_option maxHeartbeats 3200000 in
set_option maxRecDepth 100000 in
theorem rfBelow_is (A : Option Addr) (n c : Nat) (l : Row) (key : Int) (w : World) (h : RdI w A n l) (hn : n ≤ 1000) :
    Calls Try.prog 18 #[.slice A n c, .int .i64 key] w (RowA (lo l key) w) := by
  have hl := Lib.hid h.len
  have HH := Lib.hid h
  obtain ⟨i0, hi0, hz0, hz1, hz2⟩ := info_parts item_info
  clear h
  go_enter Try.func18, Try.ntmps18
  go_wp2_with fail
  go_loopw [11, 5, 7] (fun j s _ wr => Hid (Ext w wr) ∧ ∃ (k : Nat), k ≤ n ∧ j = .int .i64 k ∧ Hid (OutX wr w.heap.size [] s (lo (l.take k) key))) (fun j _ _ _ => n - (intOf j).toNat)
  case atStart => exact ⟨Lib.hid ((Ext.refl _).new _), 0, Nat.zero_le _, rfl, Lib.hid (RowX.nil _ _ _ _ _ _)⟩
  case round =>
    obtain ⟨hx, k, hk, rfl, hO⟩ := hrel
    rename World => w4
    by_cases hlt : k < n
    · obtain ⟨x, hxk⟩ : ∃ x, l[k]? = some x := ⟨_, List.getElem?_eq_getElem (by have := hl.out; omega)⟩
      obtain ⟨ad, rfl, hit⟩ := HH.out.item hxk
      obtain ⟨x1, x2⟩ := x
      obtain ⟨c0, c1⟩ := hit.to hx.out
      have HX := Lib.hid hxk
      obtain ⟨w5, hw5⟩ : ∃ w5, w5 = w4.alloc (.cells #[.int .i64 x1, .int .i64 x2] 60) := ⟨_, rfl⟩
      obtain ⟨B5, hx5, hs5⟩ := box_made hw5
      have H5 := Lib.hid hw5
      have X5 := Lib.hid (hx.out.step hx5)
      have HS5 := Lib.hid hs5
      have HO5 := Lib.hid (show OutX w5 w.heap.size [] _ (lo (l.take k) key) from RowX.to hO.out hx5)
      have hlen : (lo (l.take k) key).length ≤ k := Nat.le_trans (List.length_filter_le _ _) (List.length_take_le k l)
      simp only at c0 c1
      obtain ⟨o, ho⟩ : ∃ o, o = lo (l.take k) key := ⟨_, rfl⟩
      rw [← ho] at HO5 hlen
      have HOe := Lib.hid ho
      obtain ⟨m, hm⟩ : ∃ m, m = o.length := ⟨_, rfl⟩
      have HM := Lib.hid hm
      rw [← hm] at hlen
      have hm1 : m ≤ 1001 := by omega
      have hkn : ¬ n ≤ k := by omega
      have HP5 := Lib.hid HO5.out
      unfold OutX at HO5
      rw [← hm] at HO5
      clear hxk hit hw5 B5 hx5 hs5 hO hlen hm ho
      by_cases hp : x1 < key
      · have HE := Lib.hid (show lo (l.take (k + 1)) key = o ++ [(x1, x2)] by
          rw [take_snoc HX.out, HOe.out]; simp [lo, List.filter_append, hp])
        obtain ⟨w6, hw6⟩ : ∃ w6, w6 = w5.alloc (.cells #[.int .i64 x1, .int .i64 x2] 60) := ⟨_, rfl⟩
        obtain ⟨B_, hx_, hs_⟩ := box_made hw6
        have Hw6 := Lib.hid hw6
        have HRw6 := Lib.hid (show RdI w6 (some ⟨w4.heap.size + 1, 0, none⟩) 1 [(x1, x2)] by rw [hw6, ← HS5.out]; exact Rd.lit w5 #[.int .i64 x1, .int .i64 x2] 60 1 rfl)
        have HOw6 := Lib.hid (HO5.out.to hx_)
        have Xw6 := Lib.hid (X5.out.step hx_)
        have hbw6 := Lib.hid (show w.heap.size ≤ w6.heap.size from Xw6.out.size)
        clear hw6 hs_
        clear B_ hx_
        go_wp2_with (first
          | (at_builtin
             rw [← H5.out, ← Hw6.out]
             refine wpList_append_x _ rfl (.tmp 19) (.tmp 21) _ rfl 60 i0 _ 2 16 Try.underlying31 hi0 hz0 hz1 hz2 rfl (by omega) w.heap.size [] _ m (flat itc o) rfl HOw6.out (some ⟨w4.heap.size + 1, 0, none⟩) 1 1 (flat itc [(x1, x2)]) rfl HRw6.out (flat_one itc_one _) (by simp only [maxLen]; omega) (by omega) hbw6.out (fun b hb => by cases hb) ?_
             intro A7 c7 w7 hr7 ap7
             have HX7 := Lib.hid (ap7.old w Xw6.out (Nat.le_refl _))
             have HR7 := Lib.hid (show OutX w7 w.heap.size [] (.slice A7 (m + 1 : Nat) c7) (lo (l.take (k + 1)) key) by
               unfold OutX
               rw [HE.out, List.length_append, ← HM.out, ← flat_append]
               exact hr7)
             clear hr7 ap7))
        go_roundw
        case rel => exact ⟨HX7, k + 1, by omega, by go_num, HR7⟩
        case measure => simp [intOf]; omega
      · have HE := Lib.hid (show lo (l.take (k + 1)) key = o by
          rw [take_snoc HX.out, HOe.out]; simp [lo, List.filter_append, hp])
        have hp' : key ≤ x1 := by omega
        go_wp2_with fail
        try rw [← H5.out]
        go_roundw
        case rel => exact ⟨by first | exact X5 | (rw [← H5.out]; exact X5), k + 1, by omega, by go_num, by first | (rw [HE.out]; exact HP5) | (rw [HE.out, ← H5.out]; exact HP5)⟩
        case measure => simp [intOf]; omega
    · have hge : n ≤ k := by omega
      have hkn : k = n := by omega
      subst hkn
      obtain ⟨A', c', hs', h1, h2⟩ := RowX.slice hO.out
      subst hs'
      have he : l.take k = l := List.take_of_length_le (by have := hl.out; omega)
      have HF : RowA (lo l key) w (.returned (.slice A' ((lo (l.take k) key).length : Nat) c')) w4 := by
        have h3 := RowX.rd hO.out
        rw [he] at h1 h3 ⊢
        exact ⟨A', c', rfl, h3, h1, h2, hx.out⟩
      have HF := Lib.hid HF
      clear hO he
      go_wp2_with fail
      go_ret
      exact HF.out

end Go.Proofs.Ytjiehlhnocgneaa
