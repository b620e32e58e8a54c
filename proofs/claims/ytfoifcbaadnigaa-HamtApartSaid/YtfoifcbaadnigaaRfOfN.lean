/-
  Contract: those of a row that have a digit at a level (of), in a row of its own.
-/
import Derived.Test.YtfoifcbaadnigaaRfOf
set_option linter.unusedVariables false
set_option linter.unusedSimpArgs false
namespace Go.Proofs.Ytfoifcbaadnigaa
open Go.RowKit

theorem RowX.ge {W : World} {base : Nat} {ex : List Nat} {e : TypeId} {size n : Nat} {A : Option Addr} {c : Nat} {xs : List Value} (h : RowX W base ex e size (.slice A n c) n xs) : n = 0 ∨ ∀ q, A = some q → base ≤ q.block := by
  rcases h.row with ⟨h, _⟩ | ⟨rfl, _, _⟩
  · right
    intro q hq
    subst hq
    rcases h.2 with ⟨hv, _⟩ | ⟨g, cap, cur, hv, _⟩
    · injection hv with h1
      cases h1
    · injection hv with h1
      injection h1 with h1
      subst h1
      exact (h.lt g rfl).1
  · exact .inl rfl
/-- A row of the call's own. -/
def RowN (l : Row) (w : World) (e : Ending) (w' : World) : Prop :=
  ∃ A c, e = .returned (.slice A l.length c) ∧ RdI w' A l.length l ∧ l.length ≤ c ∧ c ≤ maxLen ∧ Ext w w' ∧ (l.length = 0 ∨ ∀ q, A = some q → w.heap.size ≤ q.block)

set_option maxHeartbeats 3200000 in
set_option maxRecDepth 100000 in
theorem rfOfN_is (A : Option Addr) (n c : Nat) (l : Row) (lv : Nat) (dg : Int) (w : World) (h : RdI w A n l) (hn : n ≤ 1000) (hlv : lv ≤ 10) :
    Calls Try.prog 28 #[.slice A n c, .int .i64 lv, .int .i64 dg] w (RowN (ofD l lv dg) w) := by
  have hl := Lib.hid h.len
  have HH := Lib.hid h
  obtain ⟨i0, hi0, hz0, hz1, hz2⟩ := info_parts item_info
  clear h
  go_enter Try.func28, Try.ntmps28
  go_wp2_with fail
  go_loopw [13, 7, 9] (fun j s _ wr => Hid (Ext w wr) ∧ ∃ (k : Nat), k ≤ n ∧ j = .int .i64 k ∧ Hid (OutX wr w.heap.size [] s (ofD (l.take k) lv dg))) (fun j _ _ _ => n - (intOf j).toNat)
  case atStart => exact ⟨Lib.hid ((Ext.refl _).new _), 0, Nat.zero_le _, rfl, Lib.hid (RowX.nil _ _ _ _ _ _)⟩
  case round =>
    obtain ⟨hx, k, hk, rfl, hO⟩ := hrel
    rename World => w4
    by_cases hlt : k < n
    · obtain ⟨x, hxk⟩ : ∃ x, l[k]? = some x := ⟨_, List.getElem?_eq_getElem (by have := hl.out; omega)⟩
      obtain ⟨ad, rfl, hit⟩ := HH.out.item hxk
      obtain ⟨x1, x2⟩ := x
      obtain ⟨c0, c1⟩ := hit.to hx.out
      have HX := Lib.hid hxk
      obtain ⟨w5, hw5⟩ : ∃ w5, w5 = w4.alloc (.cells #[.int .i64 x1, .int .i64 x2] 43) := ⟨_, rfl⟩
      obtain ⟨B5, hx5, hs5⟩ := box_made hw5
      have H5 := Lib.hid hw5
      have X5 := Lib.hid (hx.out.step hx5)
      have HS5 := Lib.hid hs5
      have HO5 := Lib.hid (show OutX w5 w.heap.size [] _ (ofD (l.take k) lv dg) from RowX.to hO.out hx5)
      have hlen : (ofD (l.take k) lv dg).length ≤ k := Nat.le_trans (List.length_filter_le _ _) (List.length_take_le k l)
      simp only at c0 c1
      obtain ⟨o, ho⟩ : ∃ o, o = ofD (l.take k) lv dg := ⟨_, rfl⟩
      rw [← ho] at HO5 hlen
      have HOe := Lib.hid ho
      obtain ⟨m, hm⟩ : ∃ m, m = o.length := ⟨_, rfl⟩
      have HM := Lib.hid hm
      rw [← hm] at hlen
      have hm1 : m ≤ 1001 := by omega
      have hkn : ¬ n ≤ k := by omega
      have HP5 := Lib.hid HO5.out
      unfold OutX at HO5
      rw [← hm] at HO5
      have HB5 := Lib.hid B5
      have HDG := Lib.hid (rfDigit_is x1 lv hlv w5)
      clear hxk hit hw5 B5 hx5 hs5 hO hlen hm ho
      obtain ⟨D, hD⟩ : ∃ D, D = dig x1 lv := ⟨_, rfl⟩
      rw [← hD] at HDG
      go_wp2_with fail
      rw [← H5.out]
      refine HDG.out.mono ?_
      rintro e w5b ⟨rfl, hxb⟩
      have k0 : w5b.cell? ⟨w4.heap.size, 0, none⟩ = some (.int .i64 x1) := (HB5.out.to hxb).cell 0
      have k1 : w5b.cell? ⟨w4.heap.size, 1, none⟩ = some (.int .i64 x2) := (HB5.out.to hxb).cell 1
      have X5b := Lib.hid (X5.out.step hxb)
      by_cases hp : D = dg
      · subst hp
        have HE := Lib.hid (show ofD (l.take (k + 1)) lv D = o ++ [(x1, x2)] by
          rw [take_snoc HX.out, HOe.out]; simp [ofD, List.filter_append, hD])
        obtain ⟨w6, hw6⟩ : ∃ w6, w6 = w5b.alloc (.cells #[.int .i64 x1, .int .i64 x2] 43) := ⟨_, rfl⟩
        obtain ⟨B_, hx_, hs_⟩ := box_made hw6
        have Hw6 := Lib.hid hw6
        have HRw6 := Lib.hid (show RdI w6 (some ⟨w5b.heap.size, 0, none⟩) 1 [(x1, x2)] by rw [hw6]; exact Rd.lit w5b #[.int .i64 x1, .int .i64 x2] 43 1 rfl)
        have HOw6 := Lib.hid (HO5.out.to (hxb.step hx_))
        have Xw6 := Lib.hid (X5b.out.step hx_)
        have hbw6 := Lib.hid (show w.heap.size ≤ w6.heap.size from Xw6.out.size)
        clear hw6 hs_ B_ hx_ hxb hD
        go_wp2_with (first
          | (at_builtin
             rw [← Hw6.out]
             refine wpList_append_x _ rfl (.tmp 23) (.tmp 25) _ rfl 43 i0 _ 2 16 Try.underlying32 hi0 hz0 hz1 hz2 rfl (by omega) w.heap.size [] _ m (flat itc o) rfl HOw6.out (some ⟨w5b.heap.size, 0, none⟩) 1 1 (flat itc [(x1, x2)]) rfl HRw6.out (flat_one itc_one _) (by simp only [maxLen]; omega) (by omega) hbw6.out (fun b hb => by cases hb) ?_
             intro A7 c7 w7 hr7 ap7
             have HX7 := Lib.hid (ap7.old w Xw6.out (Nat.le_refl _))
             have HR7 := Lib.hid (show OutX w7 w.heap.size [] (.slice A7 (m + 1 : Nat) c7) (ofD (l.take (k + 1)) lv D) by
               unfold OutX
               rw [HE.out, List.length_append, ← HM.out, ← flat_append]
               exact hr7)
             clear hr7 ap7))
        go_roundw
        case rel => exact ⟨HX7, k + 1, by omega, by go_num, HR7⟩
        case measure => simp [intOf]; omega
      · have HE := Lib.hid (show ofD (l.take (k + 1)) lv dg = o by
          rw [take_snoc HX.out, HOe.out]
          have : ¬ dig x1 lv = dg := by rw [← hD]; exact hp
          simp [ofD, List.filter_append, this])
        have HP5b := Lib.hid (show OutX w5b w.heap.size [] _ _ from RowX.to HP5.out hxb)
        clear hxb hD
        go_wp2_with fail
        go_roundw
        case rel => exact ⟨X5b, k + 1, by omega, by go_num, by rw [HE.out]; exact HP5b⟩
        case measure => simp [intOf]; omega
    · have hnk : n ≤ k := by omega
      have hkn : k = n := by omega
      subst hkn
      obtain ⟨A', c', hs', h1, h2⟩ := RowX.slice hO.out
      subst hs'
      have he : l.take k = l := List.take_of_length_le (by have := hl.out; omega)
      have hge := RowX.ge hO.out
      have HF : RowN (ofD l lv dg) w (.returned (.slice A' ((ofD (l.take k) lv dg).length : Nat) c')) w4 := by
        have h3 := RowX.rd hO.out
        rw [he] at h1 h3 hge ⊢
        exact ⟨A', c', rfl, h3, h1, h2, hx.out, hge⟩
      have HF := Lib.hid HF
      clear hO he hge
      go_wp2_with fail
      go_ret
      exact HF.out


end Go.Proofs.Ytfoifcbaadnigaa
