/-
  Contracts: an arena's free places (rightFree).
-/
import Derived.Test.YtmfpgbiicncpcaaFits
import Derived.Test.YtmfpgbiicncpcaaOpen
import Derived.Deep.OwnRows
import Derived.BigQuiet
set_option linter.unusedVariables false
set_option linter.unusedSimpArgs false
namespace Go.Proofs.Ytmfpgbiicncpcaa
open Go.RowKit

/-- In w the two slices show nodes and free places. -/
structure Ar (w : World) (A : Option Addr) (n : Nat) (B : Option Addr) (m : Nat) (ns : List Nd) (fs : List Int) : Prop where
  nodes : Rd w 16 A n (flat Nd.cells ns)
  free : Rd w 1 B m (Ks .i64 fs)
  ok : ∀ x ∈ ns, x.Ok
theorem Ar.to {w w' : World} {A B : Option Addr} {n m : Nat} {ns : List Nd} {fs : List Int} (h : Ar w A n B m ns fs) (e : Ext w w') : Ar w' A n B m ns fs := ⟨h.nodes.to e, h.free.to e, h.ok⟩
theorem Ar.len {w : World} {A B : Option Addr} {n m : Nat} {ns : List Nd} {fs : List Int} (h : Ar w A n B m ns fs) : ns.length = n := by
  have := h.nodes.1
  rw [flat_length Nd.cells_length] at this
  omega
theorem Ar.lenF {w : World} {A B : Option Addr} {n m : Nat} {ns : List Nd} {fs : List Int} (h : Ar w A n B m ns fs) : fs.length = m := by
  have := h.free.1
  simpa [Ks] using this
theorem Ar.freeAt {w : World} {A B : Option Addr} {n m : Nat} {ns : List Nd} {fs : List Int} (h : Ar w A n B m ns fs) {i : Nat} {y : Int} (hy : fs[i]? = some y) : ∃ ad, B = some ad ∧ w.cell? (ad.add i) = some (.int .i64 y) := by
  obtain ⟨ad, hb, hc⟩ := h.free.2 i (.int .i64 y) (by simp [Ks, hy])
  exact ⟨ad, hb, hc⟩
theorem Ar.nodeAt {w : World} {A B : Option Addr} {n m : Nat} {ns : List Nd} {fs : List Int} (h : Ar w A n B m ns fs) {i : Nat} {x : Nd} (hx : ns[i]? = some x) : ∃ ad, A = some ad ∧ NdAt w (ad.add (i * 16)) x := NdAt.of h.nodes hx

abbrev In (y : Int) (n : Nat) : Prop := 0 ≤ y ∧ y < n
def Frees (ns : List Nd) (fs : List Int) : Prop := (∀ y ∈ fs, In y ns.length) ∧ fs.Nodup ∧ ∀ (i : Nat) (x : Nd), ns[i]? = some x → ((i : Int) ∈ fs ↔ x.k = 0)

theorem within_is (y : Int) (n : Nat) (w : World) :
    Calls Try.prog 39 #[.int .i64 y, .int .i64 n] w fun e w' => e = .returned (.bool (decide (In y n))) ∧ w = w' := by
  by_cases h : In y n
  · rw [decide_eq_true h]
    obtain ⟨h1, h2⟩ := h
    go_enter Try.func39, Try.ntmps39
    go_wp2
    go_ret
    exact ⟨rfl, rfl⟩
  · rw [decide_eq_false h]
    by_cases h1 : 0 ≤ y
    · have h2 : ¬ y < n := fun k => h ⟨h1, k⟩
      clear h
      go_enter Try.func39, Try.ntmps39
      go_wp2
      go_ret
      exact ⟨rfl, rfl⟩
    · clear h
      go_enter Try.func39, Try.ntmps39
      go_wp2
      go_ret
      exact ⟨rfl, rfl⟩

/-- Which of n places are in a row. -/
def marks (n : Nat) (l : List Int) : List Bool := (List.range n).map fun (p : Nat) => decide ((p : Int) ∈ l)
def Bs (l : List Bool) : Array Value := (l.map Value.bool).toArray
theorem marks_length (n : Nat) (l : List Int) : (marks n l).length = n := by simp [marks]
theorem marks_get (n : Nat) (l : List Int) {p : Nat} (h : p < n) : (marks n l)[p]? = some (decide ((p : Int) ∈ l)) := by simp [marks, h]
theorem Bs_get (l : List Bool) (p : Nat) : (Bs l)[p]? = (l[p]?).map Value.bool := by simp [Bs]
theorem Bs_size (l : List Bool) : (Bs l).size = l.length := by simp [Bs]
theorem made_bools (n : Nat) : madeCells #[.bool false] n = Bs (marks n []) := by
  apply Array.ext'
  rw [toList_madeCells_one]
  apply List.ext_getElem
  · simp [Bs, marks]
  · intro i h1 h2
    simp [Bs, marks]
theorem marks_set (n : Nat) (l : List Int) {p : Nat} (h : p < n) : (Bs (marks n l)).setIfInBounds p (.bool true) = Bs (marks n (l ++ [(p : Int)])) := by
  apply Array.ext_getElem?
  intro i
  rw [Array.getElem?_setIfInBounds, Bs_size, marks_length, Bs_get, Bs_get]
  by_cases hi : i < n
  · rw [marks_get _ _ hi, marks_get _ _ hi]
    by_cases e : p = i
    · subst e
      simp [h]
    · have : ¬ ((i : Int) = (p : Int)) := by omega
      simp [e, this]
  · have e : ¬ p = i := by omega
    rw [if_neg e, List.getElem?_eq_none (by rw [marks_length]; omega), List.getElem?_eq_none (by rw [marks_length]; omega)]

theorem bool_info : (Try.prog.info? 4).map (fun i => (i.zero, i.size, i.bytes)) = some (some (.bool false), 1, 1) := by kernel_rfl

theorem bools_made {W W' : World} {n : Nat} (h : W' = W.alloc (.cells (madeCells #[.bool false] n) 4)) : Bx W' W.heap.size (Bs (marks n [])) ∧ Ext W W' := by
  subst h
  refine ⟨?_, (Ext.refl W).new _⟩
  rw [made_bools]
  exact Bx.new _ _ _
theorem box_made {W W' : World} {cs : Array Value} {t : TypeId} (h : W' = W.alloc (.cells cs t)) : Bx W' W.heap.size cs ∧ Ext W W' ∧ W'.heap.size = W.heap.size + 1 := by
  subst h
  exact ⟨Bx.new _ _ _, (Ext.refl W).new _, by simp⟩

theorem nodup_at {l : List Int} (h : l.Nodup) {k : Nat} {y : Int} (hy : l[k]? = some y) : y ∉ l.take k := by
  obtain ⟨hk, hy'⟩ := List.getElem?_eq_some_iff.1 hy
  have e : l.take k ++ y :: l.drop (k + 1) = l := by
    rw [← hy', ← List.drop_eq_getElem_cons hk, List.take_append_drop]
  rw [← e] at h
  intro hm
  exact (List.nodup_append.1 h).2.2 y hm y (by simp) rfl

set_option maxHeartbeats 1600000 in
theorem rightFree_is (A B : Option Addr) (n m c d : Nat) (ns : List Nd) (fs : List Int) (w : World) (h : Ar w A n B m ns fs) (hn : n ≤ 1000) (hm : m ≤ 1000) (b : Bool) (hb : b = true ↔ Frees ns fs) :
    Calls Try.prog 33 #[.agg #[.slice A n c, .slice B m d]] w fun e w' => e = .returned (.bool b) ∧ Ext w w' := by
  have HB := Lib.hid hb
  clear hb
  have HL := Lib.hid h.len
  have HF := Lib.hid h.lenF
  obtain ⟨i0, hi0, hz0, hz1, hz2⟩ := info_parts bool_info
  obtain ⟨w1, hw1⟩ : ∃ w1, w1 = w.alloc (.cells #[.slice A n c, .slice B m d] 25) := ⟨_, rfl⟩
  obtain ⟨w2, hw2⟩ : ∃ w2, w2 = w1.alloc (.cells (madeCells #[.bool false] n) 4) := ⟨_, rfl⟩
  obtain ⟨B1, hx1, hs1⟩ := box_made hw1
  obtain ⟨B2, hx2⟩ := bools_made hw2
  have B1' := B1.to hx2
  have k0 : w1.cell? ⟨w.heap.size, 0, none⟩ = some (.slice A n c) := B1.cell 0
  have h2 := h.to (hx1.step hx2)
  have H1 := Lib.hid hw1
  have H2 := Lib.hid hw2
  have E12 := Lib.hid (hx1.step hx2)
  have S1 := Lib.hid hs1
  have HB2 := Lib.hid B2
  have HB1 := Lib.hid B1
  have k0' : w2.cell? ⟨w.heap.size, 0, none⟩ = some (.slice A n c) := B1'.cell 0
  have k1' : w2.cell? ⟨w.heap.size, 1, none⟩ = some (.slice B m d) := B1'.cell 1
  have h1 := Lib.hid (h.to hx1)
  have X1 := Lib.hid hx1
  have X2 := Lib.hid hx2
  clear B1 B1' hs1 hx1 hx2 B2 hw1 hw2 h2
  go_enter Try.func33, Try.ntmps33
  go_wp2_with (at_make; rw [← H1.out]; refine wpList_make_row _ rfl _ _ 68 rfl 4 i0 (.bool false) Try.underlying68 hi0 hz0 hz1 rfl .i64 .i64 n rfl rfl (by rw [hz2]; omega) (by omega) ?_; rw [← H2.out])
  go_loopw [5, 15] (fun _ j wr => Ext w1 wr ∧ ∃ k : Nat, k ≤ m ∧ j = .int .i64 k ∧ Hid (Bx wr w1.heap.size (Bs (marks n (fs.take k)))) ∧ Hid (∀ y ∈ fs.take k, In y n) ∧ Hid (fs.take k).Nodup) (fun _ j _ => m - (intOf j).toNat)
  case atStart => exact ⟨X2.out, 0, Nat.zero_le _, rfl, Lib.hid (by simpa using HB2.out), Lib.hid (by simp), Lib.hid (by simp)⟩
  case round =>
    obtain ⟨hx, k, hk, rfl, hB, hI, hD⟩ := hrel
    have B1 := HB1.out.to hx
    have q0 : wr.cell? ⟨w.heap.size, 0, none⟩ = some (.slice A n c) := B1.cell 0
    have q1 : wr.cell? ⟨w.heap.size, 1, none⟩ = some (.slice B m d) := B1.cell 1
    clear B1 k0 k0' k1'
    by_cases hlt : k < m
    · obtain ⟨y, hy⟩ : ∃ y, fs[k]? = some y := ⟨_, List.getElem?_eq_getElem (by have := HF.out; omega)⟩
      obtain ⟨ad, rfl, hc⟩ := (h1.out.to hx).freeAt hy
      have HY := Lib.hid hy
      have hmem := Lib.hid (List.mem_of_getElem? hy)
      clear hy
      by_cases hin : In y n
      · obtain ⟨p, rfl⟩ : ∃ p : Nat, y = p := ⟨y.toNat, by have := hin.1; omega⟩
        have hp : p < n := by have := hin.2; omega
        have hi := Lib.hid (fun W => within_is (p : Int) n W)
        rw [decide_eq_true hin] at hi
        have cp := (hB.out.cell p).trans ((Bs_get _ p).trans (congrArg _ (marks_get n (fs.take k) hp)))
        have fp := hB.out.free p
        simp only [Option.map_some] at cp
        clear hin
        obtain ⟨t, ht⟩ : ∃ t, t = decide ((p : Int) ∈ fs.take k) := ⟨_, rfl⟩
        rw [← ht] at cp
        have HT := Lib.hid ht
        clear ht
        cases t
        · have HN := Lib.hid (show (p : Int) ∉ fs.take k from of_decide_eq_false HT.out.symm)
          go_wp2_with fail
          refine (hi.out _).mono ?_; rintro e w3 ⟨rfl, rfl⟩
          go_wp2_with fail
          go_roundw
          case rel => exact ⟨hx.set _ (Nat.le_refl _), k + 1, by omega, by go_num, Lib.hid (by
              rw [List.take_add_one, HY.out]
              have := hB.out.set (j := p) (by rw [Bs_size, marks_length]; exact hp) (.bool true)
              rw [marks_set _ _ hp] at this
              exact this), Lib.hid (fun y hy => by
              rw [List.take_add_one, HY.out] at hy
              rcases List.mem_append.1 hy with hy | hy
              · exact hI.out y hy
              · simp at hy
                subst hy
                exact ⟨by omega, by omega⟩), Lib.hid (by
              rw [List.take_add_one, HY.out]
              refine List.nodup_append.2 ⟨hD.out, by simp, fun a ha b hb => ?_⟩
              simp at hb
              subst hb
              exact fun e => HN.out (e ▸ ha))⟩
          case measure => simp [intOf]; omega
        · obtain rfl : b = false := by
            cases b
            · rfl
            · have hd := (HB.out.1 rfl).2.1
              have hm' : (p : Int) ∈ fs.take k := of_decide_eq_true HT.out.symm
              exact absurd hm' (nodup_at hd HY.out)
          go_wp2_with fail
          refine (hi.out _).mono ?_; rintro e w3 ⟨rfl, rfl⟩
          go_wp2_with fail
          go_ret
          exact ⟨rfl, X1.out.step hx⟩
      · obtain rfl : b = false := by
          cases b
          · rfl
          · exact absurd ((HB.out.1 rfl).1 y hmem.out) (by rw [HL.out]; exact hin)
        have hi := Lib.hid (fun W => within_is y n W)
        rw [decide_eq_false hin] at hi
        clear hin
        go_wp2_with fail
        refine (hi.out _).mono ?_; rintro e w3 ⟨rfl, rfl⟩
        go_wp2_with fail
        go_ret
        exact ⟨rfl, X1.out.step hx⟩
    · have hm' : fs.take k = fs := List.take_of_length_le (by have := HF.out; omega)
      rw [hm'] at hB hI hD
      clear hm'
      go_wp2_with fail
      rename World => w3
      go_loopw [6, 7, 37] (fun _ _ j wr => Ext w3 wr ∧ ∃ k : Nat, k ≤ n ∧ j = .int .i64 k ∧ Hid (∀ (i : Nat) (x : Nd), i < k → ns[i]? = some x → ((i : Int) ∈ fs ↔ x.k = 0))) (fun _ _ j _ => n - (intOf j).toNat)
      case atStart => exact ⟨Ext.refl _, 0, Nat.zero_le _, rfl, fun i x hi => by omega⟩
      case round =>
        obtain ⟨hx3, k, hk, rfl, hall⟩ := hrel
        rename World => w4
        by_cases hlt : k < n
        · obtain ⟨x, hxk⟩ : ∃ x, ns[k]? = some x := ⟨_, List.getElem?_eq_getElem (by have := HL.out; omega)⟩
          obtain ⟨ad, rfl, hn0⟩ := (h1.out.to (hx.step hx3)).nodeAt hxk
          have HXK := Lib.hid hxk
          clear hxk
          obtain ⟨w5, hw5⟩ : ∃ w5, w5 = w4.alloc (.cells x.arr 30) := ⟨_, rfl⟩
          obtain ⟨B5, hx5, _⟩ := box_made hw5
          have c0 : w5.cell? ⟨w4.heap.size, 0, none⟩ = some (.int .i64 x.k) := (B5.cell 0).trans x.a0
          have cp := (((hB.out.to hx3).to hx5).cell k).trans ((Bs_get _ k).trans (congrArg _ (marks_get n fs hlt)))
          simp only [Option.map_some] at cp
          obtain ⟨t, ht⟩ : ∃ t, t = decide ((k : Int) ∈ fs) := ⟨_, rfl⟩
          rw [← ht] at cp
          have HT := Lib.hid ht
          have H5 := Lib.hid hw5
          have X5 := Lib.hid hx5
          clear ht B5 hw5 hx5
          obtain ⟨kk, hkk⟩ : ∃ kk, kk = x.k := ⟨_, rfl⟩
          rw [← hkk] at c0
          have HK := Lib.hid hkk
          clear hkk
          by_cases hz : kk = 0
          · subst hz
            cases t
            · obtain rfl : b = false := by
                cases b
                · rfl
                · exact absurd ((HB.out.1 rfl).2.2 k x HXK.out) (by
                    rw [← HK.out]; have := of_decide_eq_false HT.out.symm; simp [this])
              go_wp2_with (first
                | (refine wpList_load_nd (by rfl) _ (by rfl) _ (by rfl) x hn0 ?_)
                | (refine wpList_store_nd (W := w4) (by rfl) _ _ (by rfl) (by rfl) x (by rfl) _ (by rfl) (by rfl) ?_; rw [← H5.out]))
              go_quiet (fail)
              go_wp2_with fail
              go_ret
              exact ⟨rfl, X1.out.step (hx.step (hx3.step (X5.out.drewN _)))⟩
            · go_wp2_with (first
                | (refine wpList_load_nd (by rfl) _ (by rfl) _ (by rfl) x hn0 ?_)
                | (refine wpList_store_nd (W := w4) (by rfl) _ _ (by rfl) (by rfl) x (by rfl) _ (by rfl) (by rfl) ?_; rw [← H5.out]))
              go_quiet (fail)
              go_wp2_with fail
              go_roundw
              case rel => exact ⟨hx3.step (X5.out.drewN _), k + 1, by omega, by go_num, Lib.hid (fun i y hi hy => by
                by_cases e : i = k
                · subst e
                  rw [HXK.out] at hy
                  injection hy with hy
                  subst hy
                  rw [← HK.out]; have := of_decide_eq_true HT.out.symm; simp [this]
                · exact hall.out i y (by omega) hy)⟩
              case measure => simp [intOf]; omega
          · have HZ := Lib.hid hz
            have hz0 : (kk == 0) = false := by simp [hz]
            cases t
            · go_wp2_with (first
                | (refine wpList_load_nd (by rfl) _ (by rfl) _ (by rfl) x hn0 ?_)
                | (refine wpList_store_nd (W := w4) (by rfl) _ _ (by rfl) (by rfl) x (by rfl) _ (by rfl) (by rfl) ?_; rw [← H5.out]))
              go_quiet (fail)
              go_wp2_with fail
              go_roundw
              case rel => exact ⟨hx3.step (X5.out.drewN _), k + 1, by omega, by go_num, Lib.hid (fun i y hi hy => by
                by_cases e : i = k
                · subst e
                  rw [HXK.out] at hy
                  injection hy with hy
                  subst hy
                  rw [← HK.out]; have := of_decide_eq_false HT.out.symm; have hz := HZ.out; simp [this, hz]
                · exact hall.out i y (by omega) hy)⟩
              case measure => simp [intOf]; omega
            · obtain rfl : b = false := by
                cases b
                · rfl
                · exact absurd ((HB.out.1 rfl).2.2 k x HXK.out) (by
                    rw [← HK.out]; have := of_decide_eq_true HT.out.symm; have hz := HZ.out; simp [this, hz])
              go_wp2_with (first
                | (refine wpList_load_nd (by rfl) _ (by rfl) _ (by rfl) x hn0 ?_)
                | (refine wpList_store_nd (W := w4) (by rfl) _ _ (by rfl) (by rfl) x (by rfl) _ (by rfl) (by rfl) ?_; rw [← H5.out]))
              go_quiet (fail)
              go_wp2_with fail
              go_ret
              exact ⟨rfl, X1.out.step (hx.step (hx3.step (X5.out.drewN _)))⟩
        · obtain rfl : b = true := HB.out.2 ⟨fun y hy => by rw [HL.out]; exact hI.out y hy, hD.out, fun i x hi => hall.out i x (by
            have := (List.getElem?_eq_some_iff.1 hi).1
            have := HL.out
            omega) hi⟩
          go_wp2_with fail
          go_ret
          exact ⟨rfl, X1.out.step (hx.step hx3)⟩

end Go.Proofs.Ytmfpgbiicncpcaa
