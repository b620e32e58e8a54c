/-
  Contract: which arenas may be, as the document tells it.
-/
import Derived.Test.YtmfpgbiicncpcaaArRight
import Derived.Test.YtmfpgbiicncpcaaWell
set_option linter.unusedVariables false
set_option linter.unusedSimpArgs false
namespace Go.Proofs.Ytmfpgbiicncpcaa
open Go.RowKit

/-- What the document asks of one node, at its place. -/
def NdMay (fs : List Int) (i : Nat) (x : Nd) : Prop := x.WellP ∧ cnt fs i ≤ 1 ∧ (cnt fs i = 1 ↔ x.k = 0) ∧ (cnt fs i = 1 → x = bare x.g)

theorem nodup_len {fs : List Int} {n : Nat} (h : fs.Nodup) (hin : ∀ y ∈ fs, In y n) : fs.length ≤ n := by
  have h2 : fs ⊆ (List.range n).map Int.ofNat := fun y hy => by
    have := hin y hy
    exact List.mem_map.2 ⟨y.toNat, by simp only [List.mem_range]; omega, by show ((y.toNat : Nat) : Int) = y; omega⟩
  have := h.length_le_of_subset h2
  simpa using this
theorem nodup_count {l : List Int} : l.Nodup ↔ ∀ y, l.count y ≤ 1 := List.nodup_iff_count

theorem armay_iff (ns : List Nd) (fs : List Int) : ArMay ns fs ↔ (1 ≤ ns.length ∧ ns.length ≤ 512 ∧ fs.length ≤ ns.length ∧ (∀ y ∈ fs, In y ns.length) ∧ ∀ (i : Nat) (x : Nd), ns[i]? = some x → NdMay fs i x) := by
  constructor
  · rintro ⟨h1, h2, h3, h4, h5, h6⟩
    refine ⟨h1, h2, nodup_len h5 h4, h4, fun i x hx => ?_⟩
    have hf := h3 x (List.mem_of_getElem? hx)
    have hc : cnt fs i ≤ 1 := nodup_count.1 h5 _
    have he : cnt fs i = 1 ↔ x.k = 0 := by
      rw [← h6 i x hx, ← List.count_pos_iff]
      show cnt fs i = 1 ↔ 0 < cnt fs i
      omega
    refine ⟨?_, hc, he, fun hq => ?_⟩
    · rcases hf.2 with ⟨hk, hb⟩ | ⟨hk, hp⟩
      · refine ⟨?_, hf.1, ?_, ?_⟩
        · rw [hb]; intro r hr; simp [bare, Nd.kids] at hr; exact .inl hr
        · rw [hb]; exact ⟨by simp [bare], by simp [bare]⟩
        · rw [hb]; exact ⟨by simp [bare], by simp [bare]⟩
      · exact ⟨hp.2.2, hf.1, hp.1, hp.2.1⟩
    · have hk := he.1 hq
      rcases hf.2 with ⟨_, hb⟩ | ⟨hk', _⟩
      · exact hb
      · exact absurd hk hk'
  · rintro ⟨h1, h2, h3, h4, h5⟩
    refine ⟨h1, h2, fun x hx => ?_, h4, nodup_count.2 fun y => ?_, fun i x hx => ?_⟩
    · obtain ⟨i, hi⟩ := List.getElem?_of_mem hx
      obtain ⟨⟨w1, w2, w3, w4⟩, hc, he, hb⟩ := h5 i x hi
      refine ⟨w2, ?_⟩
      by_cases hk : x.k = 0
      · exact .inl ⟨hk, hb (he.2 hk)⟩
      · exact .inr ⟨hk, w3, w4, w1⟩
    · by_cases hy : y ∈ fs
      · have hin := h4 y hy
        obtain ⟨x, hx⟩ : ∃ x, ns[y.toNat]? = some x := ⟨_, List.getElem?_eq_getElem (by have := hin.1; have := hin.2; omega)⟩
        have := (h5 _ x hx).2.1
        have e : ((y.toNat : Nat) : Int) = y := by have := hin.1; omega
        rw [e] at this
        exact this
      · rw [List.count_eq_zero_of_not_mem hy]
        omega
    · obtain ⟨_, hc, he, _⟩ := h5 i x hx
      rw [← he, ← List.count_pos_iff]
      show 0 < cnt fs i ↔ cnt fs i = 1
      omega

set_option maxHeartbeats 3200000 in
theorem want_right (A B : Option Addr) (n m c d : Nat) (ns : List Nd) (fs : List Int) (w : World) (h : Ar w A n B m ns fs) (hn : n ≤ 1000) (hm : m ≤ 1000) (b : Bool) (hb : b = true ↔ ArMay ns fs) :
    Calls Try.prog 17 #[.agg #[.slice A n c, .slice B m d]] w fun e w' => e = .returned (.bool b) ∧ Ext w w' := by
  rw [armay_iff, h.len, h.lenF] at hb
  have HB := Lib.hid hb
  clear hb
  have HL := Lib.hid h.len
  have HF := Lib.hid h.lenF
  obtain ⟨w1, hw1⟩ : ∃ w1, w1 = w.alloc (.cells #[.slice A n c, .slice B m d] 25) := ⟨_, rfl⟩
  obtain ⟨B1, hx1, hs1⟩ := box_made hw1
  have HB1 := Lib.hid B1
  have X1 := Lib.hid hx1
  have h1 := Lib.hid (h.to hx1)
  have H1 := Lib.hid hw1
  clear B1 hs1 hx1
  by_cases g1 : n = 0
  · obtain rfl : b = false := by
      cases b
      · rfl
      · exact absurd (HB.out.1 rfl).1 (by omega)
    subst g1
    go_enter Try.func17, Try.ntmps17
    go_wp2_with fail
    go_ret
    exact ⟨rfl, (Ext.refl w).new _⟩
  · have g1' : ((n : Int) == 0) = false := by simp; omega
    by_cases g2 : n ≤ 512
    · by_cases g3 : m ≤ n
      · have k0 : w1.cell? ⟨w.heap.size, 0, none⟩ = some (.slice A n c) := HB1.out.cell 0
        have k1 : w1.cell? ⟨w.heap.size, 1, none⟩ = some (.slice B m d) := HB1.out.cell 1
        rw [hw1] at k0 k1
        clear hw1
        have e2 : ¬ n < m := by omega
        have e3 : decide (n < m) = false := decide_eq_false e2
        have e4 : decide ((n : Int) < (m : Int)) = false := by simp; omega
        go_enter Try.func17, Try.ntmps17
        go_wp2_with fail
        rw [← H1.out]
        rw [← H1.out] at k0 k1
        go_loopw [4, 31] (fun _ j wr => wr = w1 ∧ ∃ k : Nat, k ≤ m ∧ j = .int .i64 k ∧ Hid (∀ y ∈ fs.take k, In y n)) (fun _ j _ => m - (intOf j).toNat)
        case atStart => exact ⟨rfl, 0, Nat.zero_le _, rfl, Lib.hid (by simp)⟩
        case round =>
          obtain ⟨rfl, k, hk, rfl, hI⟩ := hrel
          by_cases hlt : k < m
          · obtain ⟨y, hy⟩ : ∃ y, fs[k]? = some y := ⟨_, List.getElem?_eq_getElem (by have := HF.out; omega)⟩
            obtain ⟨ad, rfl, hc⟩ := h1.out.freeAt hy
            have HY := Lib.hid hy
            have hmem := Lib.hid (List.mem_of_getElem? hy)
            clear hy
            by_cases y1 : 0 ≤ y
            · by_cases y2 : y < n
              · go_wp2_with fail
                go_roundw
                case rel => exact ⟨trivial, k + 1, by omega, by go_num, Lib.hid (fun z hz => by
                  rw [List.take_add_one, HY.out] at hz
                  rcases List.mem_append.1 hz with hz | hz
                  · exact hI.out z hz
                  · simp at hz
                    subst hz
                    exact ⟨y1, y2⟩)⟩
                case measure => simp [intOf]; omega
              · obtain rfl : b = false := by
                  cases b
                  · rfl
                  · exact absurd ((HB.out.1 rfl).2.2.2.1 y hmem.out) (fun h => y2 h.2)
                go_wp2_with fail
                go_ret
                exact ⟨rfl, X1.out⟩
            · obtain rfl : b = false := by
                cases b
                · rfl
                · exact absurd ((HB.out.1 rfl).2.2.2.1 y hmem.out) (fun h => y1 h.1)
              go_wp2_with fail
              go_ret
              exact ⟨rfl, X1.out⟩
          · have hm' : fs.take k = fs := List.take_of_length_le (by have := HF.out; omega)
            rw [hm'] at hI
            clear hm'
            go_wp2_with fail
            rename World => w3
            go_loopw [5, 6, 7, 8, 48] (fun _ _ _ _ j wr => Ext w3 wr ∧ ∃ k : Nat, k ≤ n ∧ j = .int .i64 k ∧ Hid (∀ (i : Nat) (x : Nd), i < k → ns[i]? = some x → NdMay fs i x)) (fun _ _ _ _ j _ => n - (intOf j).toNat)
            case atStart => exact ⟨Ext.refl _, 0, Nat.zero_le _, rfl, fun i x hi => by omega⟩
            case round =>
              obtain ⟨hx3, k, hk, rfl, hall⟩ := hrel
              rename World => w4
              by_cases hlt : k < n
              · obtain ⟨x, hxk⟩ : ∃ x, ns[k]? = some x := ⟨_, List.getElem?_eq_getElem (by have := HL.out; omega)⟩
                have h4 := h1.out.to hx3
                obtain ⟨ad, rfl, hn0⟩ := h4.nodeAt hxk
                have HXK := Lib.hid hxk
                have hok := h4.ok x (List.mem_of_getElem? hxk)
                clear hxk
                obtain ⟨w5, hw5⟩ : ∃ w5, w5 = w4.alloc (.cells x.arr 30) := ⟨_, rfl⟩
                obtain ⟨B5, hx5, _⟩ := box_made hw5
                have hn5 := B5.node
                have HW := Lib.hid (well_is x w5 hok)
                have HH := Lib.hid (has_is B m d fs (k : Int) w5 hm (h4.to hx5).free)
                have q1 : w5.cell? ⟨w.heap.size, 1, none⟩ = some (.slice B m d) := ((HB1.out.to hx3).to hx5).cell 1
                have H5 := Lib.hid hw5
                have X5 := Lib.hid hx5
                have HB5 := Lib.hid B5
                obtain ⟨t, ht⟩ : ∃ t, t = decide x.WellP := ⟨_, rfl⟩
                rw [← ht] at HW
                have HT := Lib.hid ht
                obtain ⟨q, hq⟩ : ∃ q : Int, q = ((cnt fs k : Nat) : Int) := ⟨_, rfl⟩
                rw [← hq] at HH
                have HQ := Lib.hid hq
                obtain ⟨kk, hkk⟩ : ∃ kk, kk = x.k := ⟨_, rfl⟩
                have HK := Lib.hid hkk
                have HBad := Lib.hid (fun (h : ¬ NdMay fs k x) => show b = false by
                  cases b
                  · rfl
                  · exact absurd ((HB.out.1 rfl).2.2.2.2 k x HXK.out) h)
                have HGood := Lib.hid (fun (h : NdMay fs k x) (i : Nat) (y : Nd) (hi : i < k + 1) (hy : ns[i]? = some y) => show NdMay fs i y by
                  by_cases e : i = k
                  · subst e
                    rw [HXK.out] at hy
                    injection hy with hy
                    subst hy
                    exact h
                  · exact hall.out i y (by omega) hy)
                have hq0 : 0 ≤ q := by omega
                clear B5 hw5 hx5 hok ht hq hkk h4
                go_wp2_with (first
                  | (refine wpList_load_nd (by rfl) _ (by rfl) _ (by rfl) x hn0 ?_)
                  | (refine wpList_load_nd (by rfl) _ (by rfl) _ (by rfl) x hn5 ?_)
                  | (refine wpList_store_nd (W := w4) (by rfl) _ _ (by rfl) (by rfl) x (by rfl) _ (by rfl) (by rfl) ?_; rw [← H5.out]))
                refine HH.out.mono ?_; rintro e w6 ⟨rfl, rfl⟩
                go_wp2_with (refine wpList_load_nd (by rfl) _ (by rfl) _ (by rfl) x hn5 ?_)
                refine HW.out.mono ?_; rintro e w6 ⟨rfl, hx6⟩
                have B6 := HB5.out.to hx6
                have c0 : w6.cell? ⟨w4.heap.size, 0, none⟩ = some (.int .i64 kk) := by rw [HK.out]; exact (B6.cell 0).trans x.a0
                have c1 : w6.cell? ⟨w4.heap.size, 1, none⟩ = some (.int .i64 x.g) := (B6.cell 1).trans x.a1
                have X6 := Lib.hid (hx3.step (X5.out.step hx6))
                have HB6 := Lib.hid B6
                clear B6
                cases t
                · obtain rfl := HBad.out (fun h => of_decide_eq_false HT.out.symm h.1)
                  go_wp2_with fail
                  go_ret
                  exact ⟨rfl, X1.out.step X6.out⟩
                · have HWp := Lib.hid (of_decide_eq_true HT.out.symm)
                  rcases (by omega : q = 0 ∨ q = 1 ∨ 1 < q) with rfl | rfl | hq2
                  · have HC := Lib.hid (show cnt fs k = 0 by have := HQ.out; omega)
                    by_cases hz : kk = 0
                    · subst hz
                      obtain rfl := HBad.out (fun h => by have := h.2.2.1.2 HK.out.symm; have := HC.out; omega)
                      go_wp2_with fail
                      go_ret
                      exact ⟨rfl, X1.out.step X6.out⟩
                    · have hz0 : (kk == 0) = false := by simp [hz]
                      have HG := Lib.hid (HGood.out ⟨HWp.out, by have := HC.out; omega, ⟨fun h => by have := HC.out; omega, fun h => absurd (HK.out.trans h) hz⟩, fun h => by have := HC.out; omega⟩)
                      obtain ⟨w7, hw7⟩ : ∃ w7, w7 = w6.alloc (.cells (bare x.g).arr 30) := ⟨_, rfl⟩
                      obtain ⟨B7, hx7, _⟩ := box_made hw7
                      have hb7 := B7.node
                      have hn7 := (HB6.out.to hx7).node
                      have X7 := Lib.hid (X6.out.step hx7)
                      have H7 := Lib.hid hw7
                      clear B7 hw7 hx7
                      go_wp2_with (refine wpList_store_nd (W := w6) (by rfl) _ _ (by rfl) (by rfl) (bare x.g) (by rfl) _ (by rfl) (by rfl) ?_; rw [← H7.out])
                      go_wp2_with fail
                      go_roundw
                      case rel => exact ⟨X7.out, k + 1, by omega, by go_num, HG⟩
                      case measure => simp [intOf]; omega
                  · have HC := Lib.hid (show cnt fs k = 1 by have := HQ.out; omega)
                    by_cases hz : kk = 0
                    · subst hz
                      obtain ⟨u, hu⟩ : ∃ u, u = decide (x = bare x.g) := ⟨_, rfl⟩
                      have heq : ∀ W, (Op.equalIn 10000 30 (.agg x.arr) (.agg (bare x.g).arr)).run Try.prog W = .ok u W := fun W => by rw [hu]; exact nd_eq x (bare x.g) W
                      have HU := Lib.hid hu
                      clear hu
                      obtain ⟨w7, hw7⟩ : ∃ w7, w7 = w6.alloc (.cells (bare x.g).arr 30) := ⟨_, rfl⟩
                      obtain ⟨B7, hx7, _⟩ := box_made hw7
                      have hb7 := B7.node
                      have hn7 := (HB6.out.to hx7).node
                      have X7 := Lib.hid (X6.out.step hx7)
                      have H7 := Lib.hid hw7
                      clear B7 hw7 hx7
                      cases u
                      · obtain rfl := HBad.out (fun h => of_decide_eq_false HU.out.symm (h.2.2.2 HC.out))
                        go_wp2_with (first
                          | (refine wpList_store_nd (W := w6) (by rfl) _ _ (by rfl) (by rfl) (bare x.g) (by rfl) _ (by rfl) (by rfl) ?_; rw [← H7.out])
                          | (refine wpList_load_nd (by rfl) _ (by rfl) _ (by rfl) x hn7 ?_)
                          | (refine wpList_load_nd (by rfl) _ (by rfl) _ (by rfl) (bare x.g) hb7 ?_))
                        go_ret
                        exact ⟨rfl, X1.out.step X7.out⟩
                      · have HG := Lib.hid (HGood.out ⟨HWp.out, by have := HC.out; omega, ⟨fun _ => HK.out.symm, fun _ => HC.out⟩, fun _ => of_decide_eq_true HU.out.symm⟩)
                        go_wp2_with (first
                          | (refine wpList_store_nd (W := w6) (by rfl) _ _ (by rfl) (by rfl) (bare x.g) (by rfl) _ (by rfl) (by rfl) ?_; rw [← H7.out])
                          | (refine wpList_load_nd (by rfl) _ (by rfl) _ (by rfl) x hn7 ?_)
                          | (refine wpList_load_nd (by rfl) _ (by rfl) _ (by rfl) (bare x.g) hb7 ?_))
                        go_roundw
                        case rel => exact ⟨X7.out, k + 1, by omega, by go_num, HG⟩
                        case measure => simp [intOf]; omega
                    · have hz0 : (kk == 0) = false := by simp [hz]
                      obtain rfl := HBad.out (fun h => hz (HK.out.trans (h.2.2.1.1 HC.out)))
                      go_wp2_with fail
                      go_ret
                      exact ⟨rfl, X1.out.step X6.out⟩
                  · obtain rfl := HBad.out (fun h => by have := h.2.1; have := HQ.out; omega)
                    go_wp2_with fail
                    go_ret
                    exact ⟨rfl, X1.out.step X6.out⟩
              · obtain rfl : b = true := HB.out.2 ⟨by omega, g2, g3, hI.out, fun i x hi => hall.out i x (by
                  have := (List.getElem?_eq_some_iff.1 hi).1
                  have := HL.out
                  omega) hi⟩
                go_wp2_with fail
                go_ret
                exact ⟨rfl, X1.out.step hx3⟩
      · obtain rfl : b = false := by
          cases b
          · rfl
          · exact absurd (HB.out.1 rfl).2.2.1 g3
        go_enter Try.func17, Try.ntmps17
        go_wp2_with fail
        go_ret
        exact ⟨rfl, (Ext.refl w).new _⟩
    · obtain rfl : b = false := by
        cases b
        · rfl
        · exact absurd (HB.out.1 rfl).2.1 g2
      go_enter Try.func17, Try.ntmps17
      go_wp2_with fail
      go_ret
      exact ⟨rfl, (Ext.refl w).new _⟩

end Go.Proofs.Ytmfpgbiicncpcaa
