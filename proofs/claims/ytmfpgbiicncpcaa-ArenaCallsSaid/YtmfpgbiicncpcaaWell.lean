/-
  Contracts: the document's own answer on one node (Well), and how often a place is in a row (has).
-/
import Derived.Test.YtmfpgbiicncpcaaFits
import Derived.Test.YtmfpgbiicncpcaaOpen
set_option linter.unusedVariables false
set_option linter.unusedSimpArgs false
namespace Go.Proofs.Ytmfpgbiicncpcaa
open Go.RowKit

def Nd.WellP (x : Nd) : Prop := (∀ r ∈ x.kids, RefMay r) ∧ GenMay x.g ∧ Small x.pre ∧ Small x.suf
instance (x : Nd) : Decidable x.WellP := inferInstanceAs (Decidable (_ ∧ _ ∧ _ ∧ _))

set_option maxHeartbeats 1000000 in
theorem well_is (x : Nd) (w : World) (hx : x.Ok) :
    Calls Try.prog 20 #[.agg x.arr] w fun e w' => e = .returned (.bool (decide x.WellP)) ∧ Ext w w' := by
  have B := Bx.new w x.arr 30
  have k1 : (w.alloc (.cells x.arr 30)).cell? ⟨w.heap.size, 1, none⟩ = some (.int .i64 x.g) := (B.cell 1).trans x.a1
  have k14 : (w.alloc (.cells x.arr 30)).cell? ⟨w.heap.size, 14, none⟩ = some (.int .i64 x.pre) := (B.cell 14).trans x.a14
  have k15 : (w.alloc (.cells x.arr 30)).cell? ⟨w.heap.size, 15, none⟩ = some (.int .i64 x.suf) := (B.cell 15).trans x.a15
  have hk := run_loadKids (c := 0) B.kids rfl
  have hxt : Ext w (w.alloc (.cells x.arr 30)) := (Ext.refl w).new _
  clear B
  have HX := Lib.hid hx
  clear hx
  obtain ⟨b, hb⟩ : ∃ b, b = decide x.WellP := ⟨_, rfl⟩
  have HB := Lib.hid hb
  rw [← hb]
  clear hb
  go_enter Try.func20, Try.ntmps20
  go_wp2_with (refine wpList_load_agg 28 (by rfl) _ (by rfl) _ (by rfl) _ hk ?_)
  go_loopw [4, 7] (fun _ j wr => wr = w.alloc (.cells x.arr 30) ∧ ∃ k : Nat, k ≤ 9 ∧ j = .int .i64 k ∧ Hid (∀ i z, i < k → x.kids[i]? = some z → RefMay z)) (fun _ j _ => 9 - (intOf j).toNat)
  case atStart => exact ⟨rfl, 0, Nat.zero_le _, rfl, fun i z hi => by omega⟩
  case round =>
    obtain ⟨rfl, k, hk9, rfl, hall⟩ := hrel
    by_cases hlt : k < 9
    · have hix := run_indexKids (w := w.alloc (.cells x.arr 30)) (zs := x.kids) rfl hlt
      have hik := Lib.hid (ith_of x.kids (i := k) hlt)
      have hm : ith x.kids k ∈ x.kids := List.mem_of_getElem? hik.out
      obtain ⟨z0, z1⟩ := HX.out _ hm
      have HM := Lib.hid hm
      clear hm
      generalize ith x.kids k = z at *
      by_cases hz : z = 0
      · subst hz
        go_wp2_with (refine wpList_index_agg 28 (by rfl) _ _ (by rfl) _ _ _ (by rfl) (by rfl) hix ?_)
        go_roundw
        case rel => exact ⟨trivial, k + 1, by omega, by go_num, fun i y hi hy => by
          by_cases e : i = k
          · subst e
            rw [hik.out] at hy
            injection hy with hy
            exact .inl hy.symm
          · exact hall i y (by omega) hy⟩
        case measure => simp [intOf]; omega
      · by_cases hz2 : Node z
        · have HG := Lib.hid (fun W => want_gen z W z0 z1)
          rw [if_pos hz2] at HG
          have HZ := Lib.hid hz2
          have hz3 : ¬ z / 65536 < 0 := by omega
          clear hz2
          go_wp2_with (refine wpList_index_agg 28 (by rfl) _ _ (by rfl) _ _ _ (by rfl) (by rfl) hix ?_)
          refine (HG.out _).mono ?_; rintro e w1 ⟨rfl, rfl⟩
          go_wp2_with fail
          go_roundw
          case rel => exact ⟨trivial, k + 1, by omega, by go_num, fun i y hi hy => by
            by_cases e : i = k
            · subst e
              rw [hik.out] at hy
              injection hy with hy
              subst hy
              exact .inr HZ.out
            · exact hall i y (by omega) hy⟩
          case measure => simp [intOf]; omega
        · have HG := Lib.hid (fun W => want_gen z W z0 z1)
          rw [if_neg hz2] at HG
          obtain rfl : b = false := by
            rw [HB.out, decide_eq_false_iff_not]
            exact fun h => (h.1 z HM.out).elim hz hz2
          clear hz2
          go_wp2_with (refine wpList_index_agg 28 (by rfl) _ _ (by rfl) _ _ _ (by rfl) (by rfl) hix ?_)
          refine (HG.out _).mono ?_; rintro e w1 ⟨rfl, rfl⟩
          go_wp2_with fail
          go_ret
          exact ⟨rfl, hxt⟩
    · have HK := Lib.hid (show ∀ r ∈ x.kids, RefMay r from fun r hr => by
        obtain ⟨i, hi⟩ := List.getElem?_of_mem hr
        have h9 : i < 9 := (List.getElem?_eq_some_iff.1 hi).1
        exact hall i r (by omega) hi)
      clear hall
      by_cases c0 : 0 ≤ x.g
      · by_cases c1 : x.g ≤ 1048576
        · by_cases c2 : 0 ≤ x.pre
          · by_cases c3 : x.pre ≤ 9
            · by_cases c4 : 0 ≤ x.suf
              · by_cases c5 : x.suf ≤ 9
                · obtain rfl : b = true := by rw [HB.out, decide_eq_true_eq]; exact ⟨HK.out, ⟨c0, c1⟩, ⟨c2, c3⟩, ⟨c4, c5⟩⟩
                  go_wp2_with fail
                  go_ret
                  exact ⟨rfl, hxt⟩
                · obtain rfl : b = false := by rw [HB.out, decide_eq_false_iff_not]; exact fun h => c5 h.2.2.2.2
                  go_wp2_with fail
                  go_ret
                  exact ⟨rfl, hxt⟩
              · obtain rfl : b = false := by rw [HB.out, decide_eq_false_iff_not]; exact fun h => c4 h.2.2.2.1
                go_wp2_with fail
                go_ret
                exact ⟨rfl, hxt⟩
            · obtain rfl : b = false := by rw [HB.out, decide_eq_false_iff_not]; exact fun h => c3 h.2.2.1.2
              go_wp2_with fail
              go_ret
              exact ⟨rfl, hxt⟩
          · obtain rfl : b = false := by rw [HB.out, decide_eq_false_iff_not]; exact fun h => c2 h.2.2.1.1
            go_wp2_with fail
            go_ret
            exact ⟨rfl, hxt⟩
        · obtain rfl : b = false := by rw [HB.out, decide_eq_false_iff_not]; exact fun h => c1 h.2.1.2
          go_wp2_with fail
          go_ret
          exact ⟨rfl, hxt⟩
      · obtain rfl : b = false := by rw [HB.out, decide_eq_false_iff_not]; exact fun h => c0 h.2.1.1
        go_wp2_with fail
        go_ret
        exact ⟨rfl, hxt⟩

/-- How often is a number in a row? -/
def cnt (zs : List Int) (x : Int) : Nat := zs.count x
theorem cnt_take {zs : List Int} {k : Nat} {y : Int} (h : zs[k]? = some y) (x : Int) : cnt (zs.take (k + 1)) x = cnt (zs.take k) x + (if y = x then 1 else 0) := by
  unfold cnt
  rw [List.take_add_one, List.count_append, h]
  simp [List.count_singleton]

set_option maxHeartbeats 800000 in
theorem has_is (A : Option Addr) (n c : Nat) (zs : List Int) (at_ : Int) (w : World) (hn : n ≤ 1000) (h : Rd w 1 A n (Ks .i64 zs)) :
    Calls Try.prog 35 #[.slice A n c, .int .i64 at_] w fun e w' => e = .returned (.int .i64 (cnt zs at_ : Nat)) ∧ w = w' := by
  have hl : zs.length = n := by have := h.1; simpa [Ks] using this
  have HL := Lib.hid hl
  clear hl
  go_enter Try.func35, Try.ntmps35
  go_wp2_with fail
  go_loopw [5, 7, 10] (fun q _ j wr => wr = w ∧ ∃ k m : Nat, k ≤ n ∧ m ≤ k ∧ j = .int .i64 k ∧ q = .int .i64 m ∧ Hid (m = cnt (zs.take k) at_)) (fun _ _ j _ => n - (intOf j).toNat)
  case atStart => exact ⟨rfl, 0, 0, Nat.zero_le _, Nat.le_refl _, rfl, rfl, Lib.hid (by simp [cnt])⟩
  case round =>
    obtain ⟨rfl, k, m, hk, hm, rfl, rfl, HC⟩ := hrel
    by_cases hlt : k < n
    · obtain ⟨y, hy⟩ : ∃ y, zs[k]? = some y := ⟨_, List.getElem?_eq_getElem (by rw [HL.out]; exact hlt)⟩
      obtain ⟨ad, rfl, hcell⟩ := h.2 k (.int .i64 y) (by simp [Ks, hy])
      have HY := Lib.hid hy
      clear hy
      by_cases e : y = at_
      · subst e
        go_wp2_with fail
        go_roundw
        case rel => exact ⟨trivial, k + 1, m + 1, by omega, by omega, by go_num, by go_num, Lib.hid (by rw [cnt_take HY.out, HC.out]; simp)⟩
        case measure => simp [intOf]; omega
      · go_wp2_with fail
        go_roundw
        case rel => exact ⟨trivial, k + 1, m, by omega, by omega, by go_num, by go_num, Lib.hid (by rw [cnt_take HY.out, HC.out]; simp [e])⟩
        case measure => simp [intOf]; omega
    · have e := Lib.hid (show m = cnt zs at_ by
        rw [HC.out, List.take_of_length_le (by rw [HL.out]; omega)])
      go_wp2_with fail
      go_ret
      exact ⟨by rw [← e.out]; rfl, rfl⟩

end Go.Proofs.Ytmfpgbiicncpcaa
