/-
  Contracts of the statements' own functions on rows: those between two keys (within); are two the same (Same).
-/
import Derived.Test.YthgaogbpkedjcaaGI
import Derived.Test.YthgaogbpkedjcaaGK
import Derived.Test.YthgaogbpkedjcaaGL
set_option linter.unusedVariables false
set_option linter.unusedSimpArgs false
namespace Go.Proofs.Ythgaogbpkedjcaa
open Go.RowKit

set_option maxHeartbeats 3200000 in
set_option maxRecDepth 100000 in
theorem spWithin_is (A : Option Addr) (n c : Nat) (l : Row) (a b : Int) (w : World) (h : RdI w A n l) (hn : n ≤ 1000) :
    Calls Try.prog 18 #[.slice A n c, .int .i64 a, .int .i64 b] w (RowA (inn l a b) w) := by
  have hl := Lib.hid h.len
  have HH := Lib.hid h
  obtain ⟨i0, hi0, hz0, hz1, hz2⟩ := info_parts item_info
  clear h
  go_enter Try.func18, Try.ntmps18
  go_wp2_with fail
  go_loopw [12, 7, 9] (fun j s _ wr => Hid (Ext w wr) ∧ ∃ (k : Nat), k ≤ n ∧ j = .int .i64 k ∧ Hid (OutX wr w.heap.size [] s (inn (l.take k) a b))) (fun j _ _ _ => n - (intOf j).toNat)
  case atStart => exact ⟨Lib.hid (Ext.refl _), 0, Nat.zero_le _, rfl, Lib.hid (RowX.nil0 _ _ _ _ _)⟩
  case round =>
    obtain ⟨hx, k, hk, rfl, hO⟩ := hrel
    rename World => w4
    by_cases hlt : k < n
    · obtain ⟨x, hxk⟩ : ∃ x, l[k]? = some x := ⟨_, List.getElem?_eq_getElem (by have := hl.out; omega)⟩
      obtain ⟨ad, rfl, hit⟩ := HH.out.item hxk
      obtain ⟨x1, x2⟩ := x
      obtain ⟨c0, c1⟩ := hit.to hx.out
      have HX := Lib.hid hxk
      obtain ⟨w5, hw5⟩ : ∃ w5, w5 = w4.alloc (.cells #[.int .i64 x1, .int .i64 x2] 40) := ⟨_, rfl⟩
      obtain ⟨B5, hx5, hs5⟩ := box_made hw5
      have H5 := Lib.hid hw5
      have X5 := Lib.hid (hx.out.step hx5)
      have HS5 := Lib.hid hs5
      have HO5 := Lib.hid (show OutX w5 w.heap.size [] _ (inn (l.take k) a b) from RowX.to hO.out hx5)
      have hlen : (inn (l.take k) a b).length ≤ k := Nat.le_trans (List.length_filter_le _ _) (List.length_take_le k l)
      simp only at c0 c1
      obtain ⟨o, ho⟩ : ∃ o, o = inn (l.take k) a b := ⟨_, rfl⟩
      rw [← ho] at HO5 hlen
      have HOe := Lib.hid ho
      obtain ⟨m, hm⟩ : ∃ m, m = o.length := ⟨_, rfl⟩
      have HM := Lib.hid hm
      rw [← hm] at hlen
      have hm1 : m ≤ 1001 := by omega
      have hkn : ¬ n ≤ k := by omega
      have HP5 := Lib.hid HO5.out
      unfold OutX at HO5
      rw [← hm] at HO5
      clear hxk hit hw5 B5 hx5 hs5 hO hlen hm ho
      by_cases hp : a ≤ x1 ∧ x1 ≤ b
      · have HE := Lib.hid (show inn (l.take (k + 1)) a b = o ++ [(x1, x2)] by
          rw [take_snoc HX.out, HOe.out]; rw [inn_app, inn_cons]; simp [hp, inn])
        obtain ⟨w6, hw6⟩ : ∃ w6, w6 = w5.alloc (.cells #[.int .i64 x1, .int .i64 x2] 40) := ⟨_, rfl⟩
        obtain ⟨B_, hx_, hs_⟩ := box_made hw6
        have Hw6 := Lib.hid hw6
        have HRw6 := Lib.hid (show RdI w6 (some ⟨w4.heap.size + 1, 0, none⟩) 1 [(x1, x2)] by rw [hw6, ← HS5.out]; exact Rd.lit w5 #[.int .i64 x1, .int .i64 x2] 40 1 rfl)
        have HOw6 := Lib.hid (HO5.out.to hx_)
        have Xw6 := Lib.hid (X5.out.step hx_)
        have hbw6 := Lib.hid (show w.heap.size ≤ w6.heap.size from Xw6.out.size)
        clear hw6 hs_
        clear B_ hx_
        go_wp2_with (first
          | (at_builtin
             rw [← H5.out, ← Hw6.out]
             refine wpList_append_x _ rfl (.tmp 26) (.tmp 28) _ rfl 40 i0 _ 2 16 Try.underlying31 hi0 hz0 hz1 hz2 rfl (by omega) w.heap.size [] _ m (flat itc o) rfl HOw6.out (some ⟨w4.heap.size + 1, 0, none⟩) 1 1 (flat itc [(x1, x2)]) rfl HRw6.out (flat_one itc_one _) (by simp only [maxLen]; omega) (by omega) hbw6.out (fun b hb => by cases hb) ?_
             intro A7 c7 w7 hr7 ap7
             have HX7 := Lib.hid (ap7.old w Xw6.out (Nat.le_refl _))
             have HR7 := Lib.hid (show OutX w7 w.heap.size [] (.slice A7 (m + 1 : Nat) c7) (inn (l.take (k + 1)) a b) by
               unfold OutX
               rw [HE.out, List.length_append, ← HM.out, ← flat_append]
               exact hr7)
             clear hr7 ap7))
        go_roundw
        case rel => exact ⟨HX7, k + 1, by omega, by go_num, HR7⟩
        case measure => simp [intOf]; omega
      · have HE := Lib.hid (show inn (l.take (k + 1)) a b = o by
          rw [take_snoc HX.out, HOe.out]; rw [inn_app, inn_cons]; simp [hp, inn])
        have HNP := Lib.hid hp
        clear hp
        by_cases ha : a ≤ x1
        · have hb : ¬ x1 ≤ b := fun h => HNP.out ⟨ha, h⟩
          go_wp2_with fail
          try rw [← H5.out]
          go_roundw
          case rel => exact ⟨by first | exact X5 | (rw [← H5.out]; exact X5), k + 1, by omega, by go_num, by first | (rw [HE.out]; exact HP5) | (rw [HE.out, ← H5.out]; exact HP5)⟩
          case measure => simp [intOf]; omega
        · go_wp2_with fail
          try rw [← H5.out]
          go_roundw
          case rel => exact ⟨by first | exact X5 | (rw [← H5.out]; exact X5), k + 1, by omega, by go_num, by first | (rw [HE.out]; exact HP5) | (rw [HE.out, ← H5.out]; exact HP5)⟩
          case measure => simp [intOf]; omega
    · have hge : n ≤ k := by omega
      have hkn : k = n := by omega
      subst hkn
      obtain ⟨A', c', hs', h1, h2⟩ := RowX.slice hO.out
      subst hs'
      have he : l.take k = l := List.take_of_length_le (by have := hl.out; omega)
      have HF : RowA (inn l a b) w (.returned (.slice A' ((inn (l.take k) a b).length : Nat) c')) w4 := by
        have h3 := RowX.rd hO.out
        rw [he] at h1 h3 ⊢
        exact ⟨A', c', rfl, h3, h1, h2, hx.out⟩
      have HF := Lib.hid HF
      clear hO he
      go_wp2_with fail
      go_ret
      exact HF.out

theorem it_ne (a b c d : Int) (w : World) : (binOp .neq 40 (.agg #[.int .i64 a, .int .i64 b]) (.agg #[.int .i64 c, .int .i64 d])).run Try.prog w = .ok (.bool (!decide (a = c ∧ b = d))) w := by
  have h := it_eq a b c d w
  simp only [binOp]
  simp [Op.equal, Op.maxDepth, h]

set_option maxHeartbeats 3200000 in
set_option maxRecDepth 100000 in
theorem spSame_is (A B : Option Addr) (n m c d : Nat) (l q : Row) (w : World) (h : RdI w A n l) (h' : RdI w B m q) (hn : n ≤ 1000) :
    Calls Try.prog 17 #[.slice A n c, .slice B m d] w fun e w' => e = .returned (.bool (decide (l = q))) ∧ Ext w w' := by
  have hl := h.len
  have hq := h'.len
  by_cases hnm : n = m
  · subst hnm
    have HH := Lib.hid h
    have HQ := Lib.hid h'
    have HL := Lib.hid hl
    have HLQ := Lib.hid hq
    have hne := it_ne
    clear h h' hl hq
    go_enter Try.func17, Try.ntmps17
    go_wp2_with fail
    go_loopw [13, 5] (fun j _ wr => Hid (Ext w wr) ∧ ∃ (k : Nat), k ≤ n ∧ j = .int .i64 k ∧ Hid (l.take k = q.take k)) (fun j _ _ => n - (intOf j).toNat)
    case atStart => exact ⟨Lib.hid (Ext.refl _), 0, Nat.zero_le _, rfl, Lib.hid rfl⟩
    case round =>
      obtain ⟨hx, k, hk, rfl, hO⟩ := hrel
      rename World => w4
      by_cases hlt : k < n
      · obtain ⟨x, hxk⟩ : ∃ x, l[k]? = some x := ⟨_, List.getElem?_eq_getElem (by have := HL.out; omega)⟩
        obtain ⟨y, hyk⟩ : ∃ y, q[k]? = some y := ⟨_, List.getElem?_eq_getElem (by have := HLQ.out; omega)⟩
        obtain ⟨ad, rfl, hit⟩ := HH.out.item hxk
        obtain ⟨bd, rfl, hjt⟩ := HQ.out.item hyk
        obtain ⟨x1, x2⟩ := x
        obtain ⟨y1, y2⟩ := y
        obtain ⟨c0, c1⟩ := hit.to hx.out
        obtain ⟨d0, d1⟩ := hjt.to hx.out
        have HX := Lib.hid hxk
        have HY := Lib.hid hyk
        have hkn : ¬ n ≤ k := by omega
        simp only at c0 c1 d0 d1
        clear hxk hyk hit hjt
        by_cases hp : x1 = y1 ∧ x2 = y2
        · obtain ⟨rfl, rfl⟩ := hp
          have hdd : decide (x1 = x1 ∧ x2 = x2) = true := by simp
          have HN := Lib.hid (show l.take (k + 1) = q.take (k + 1) by rw [take_snoc HX.out, take_snoc HY.out, hO.out])
          go_wp2_with fail
          go_quiet (fail)
          go_wp2_with fail
          go_roundw
          case rel => exact ⟨Lib.hid (hx.out.drewN _), k + 1, by omega, by go_num, HN⟩
          case measure => simp [intOf]; omega
        · have hdd : decide (x1 = y1 ∧ x2 = y2) = false := by simpa using hp
          have HN := Lib.hid (show decide (l = q) = false from decide_eq_false (fun e => by
            have h1 := HX.out
            have h2 := HY.out
            rw [e, h2] at h1
            injection h1 with h1
            exact hp (by injection h1 with h3 h4; exact ⟨h3.symm, h4.symm⟩)))
          clear hp
          go_wp2_with fail
          go_quiet (fail)
          go_wp2_with fail
          go_ret
          exact ⟨by rw [HN.out]; rfl, hx.out.drewN _⟩
      · have hge : n ≤ k := by omega
        have hkn : k = n := by omega
        subst hkn
        have he : l = q := by
          have h := hO.out
          rwa [List.take_of_length_le (by have := HL.out; omega), List.take_of_length_le (by have := HLQ.out; omega)] at h
        have HF := Lib.hid (decide_eq_true he)
        clear he
        go_wp2_with fail
        go_ret
        exact ⟨by rw [HF.out]; rfl, hx.out⟩
  · have HF := Lib.hid (show decide (l = q) = false from decide_eq_false (fun e => hnm (by rw [← hl, ← hq, e])))
    clear hl hq h h'
    go_enter Try.func17, Try.ntmps17
    go_wp2_with fail
    go_ret
    exact ⟨by rw [HF.out]; rfl, Ext.refl w⟩

end Go.Proofs.Ythgaogbpkedjcaa
