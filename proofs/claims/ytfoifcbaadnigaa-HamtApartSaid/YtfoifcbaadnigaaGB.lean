/-
  Texts in one: Fits Well Free ArRight WantRight Later Get At.
-/
import Derived.Test.YtfoifcbaadnigaaGA
import Derived.Deep.OwnRows
import Derived.BigQuiet
import Derived.Deep.DeepCutAuto
import Derived.Deep.RegionHeld3
import Derived.Laws.ResultCell

/-
  Contracts: which nodes may be (rightNode; the document's Well).
-/
set_option linter.unusedVariables false
set_option linter.unusedSimpArgs false
namespace Go.Proofs.Ytfoifcbaadnigaa
open Go.RowKit

abbrev GenMay (g : Int) : Prop := 0 ≤ g ∧ g ≤ 1048576
def Nd.Fits (x : Nd) : Prop := GenMay x.g ∧ ((x.k = 0 ∧ x = bare x.g) ∨ (x.k ≠ 0 ∧ x.Parts))
instance (x : Nd) : Decidable x.Fits := inferInstanceAs (Decidable (_ ∧ (_ ∨ _)))

set_option maxHeartbeats 800000 in
theorem rightNode_is (x : Nd) (w : World) (hx : x.Ok) :
    Calls Try.prog 52 #[.agg x.arr] w fun e w' => e = .returned (.bool (decide x.Fits)) ∧ Ext w w' := by
  have B := Bx.new w x.arr 68
  have k0 : (w.alloc (.cells x.arr 68)).cell? ⟨w.heap.size, 0, none⟩ = some (.int .i64 x.k) := (B.cell 0).trans x.a0
  have k1 : (w.alloc (.cells x.arr 68)).cell? ⟨w.heap.size, 1, none⟩ = some (.int .i64 x.g) := (B.cell 1).trans x.a1
  have hn := B.node
  have heq := fun W => nd_eq x (bare x.g) W
  have heq' : ∀ W, (Op.equalIn 10000 68 (.agg x.arr) (.agg #[.int .i64 0, .int .i64 x.g, .int .i64 0, .int .i64 0, .int .i64 0, .int .u64 0, .int .u64 0, .int .u64 0, .int .u64 0, .int .u64 0, .int .u64 0, .int .u64 0, .int .u64 0, .int .u64 0, .int .i64 0, .int .i64 0])).run Try.prog W = .ok (decide (x = bare x.g)) W := heq
  have HR := Lib.hid (fun W => rightParts_is x W hx)
  have hxt : Ext w (w.alloc (.cells x.arr 68)) := (Ext.refl w).new _
  clear B heq hx
  obtain ⟨b, hb⟩ : ∃ b, b = decide x.Fits := ⟨_, rfl⟩
  have HB := Lib.hid hb
  rw [← hb]
  clear hb
  obtain ⟨b1, e1⟩ : ∃ b, b = decide x.Parts := ⟨_, rfl⟩
  obtain ⟨b2, e2⟩ : ∃ b, b = decide (x = bare x.g) := ⟨_, rfl⟩
  rw [← e1] at HR
  rw [← e2] at heq'
  have E1 := Lib.hid e1
  have E2 := Lib.hid e2
  clear e1 e2
  by_cases g1 : 0 ≤ x.g
  · by_cases g2 : x.g ≤ 1048576
    · by_cases hk : x.k = 0
      · obtain rfl : b = b2 := by
          rw [HB.out, E2.out, Bool.eq_iff_iff, decide_eq_true_eq, decide_eq_true_eq]
          exact ⟨fun h => h.2.elim (·.2) (fun k => absurd hk k.1), fun h => ⟨⟨g1, g2⟩, .inl ⟨hk, h⟩⟩⟩
        rw [hk] at k0
        clear hk
        go_enter Try.func52, Try.ntmps52
        go_wp2_with (refine wpList_load_nd (by rfl) _ (by rfl) _ (by rfl) x hn ?_)
        go_ret
        exact ⟨rfl, hxt⟩
      · obtain rfl : b = b1 := by
          rw [HB.out, E1.out, Bool.eq_iff_iff, decide_eq_true_eq, decide_eq_true_eq]
          exact ⟨fun h => h.2.elim (fun k => absurd k.1 hk) (·.2), fun h => ⟨⟨g1, g2⟩, .inr ⟨hk, h⟩⟩⟩
        go_enter Try.func52, Try.ntmps52
        go_wp2_with (refine wpList_load_nd (by rfl) _ (by rfl) _ (by rfl) x hn ?_)
        refine (HR.out _).mono ?_; rintro e w1 ⟨rfl, hx1⟩
        go_wp2_with fail
        go_ret
        exact ⟨rfl, hxt.step hx1⟩
    · obtain rfl : b = false := by
        rw [HB.out, decide_eq_false_iff_not]
        exact fun h => g2 h.1.2
      go_enter Try.func52, Try.ntmps52
      go_wp2_with fail
      go_ret
      exact ⟨rfl, hxt⟩
  · obtain rfl : b = false := by
      rw [HB.out, decide_eq_false_iff_not]
      exact fun h => g1 h.1.1
    go_enter Try.func52, Try.ntmps52
    go_wp2_with fail
    go_ret
    exact ⟨rfl, hxt⟩

end Go.Proofs.Ytfoifcbaadnigaa

/-
  Contracts: the document's own answer on one node (Well), and how often a place is in a row (has).
-/
set_option linter.unusedVariables false
set_option linter.unusedSimpArgs false
namespace Go.Proofs.Ytfoifcbaadnigaa
open Go.RowKit

def Nd.WellP (x : Nd) : Prop := (∀ r ∈ x.kids, RefMay r) ∧ GenMay x.g ∧ Small x.pre ∧ Small x.suf
instance (x : Nd) : Decidable x.WellP := inferInstanceAs (Decidable (_ ∧ _ ∧ _ ∧ _))

set_option maxHeartbeats 1000000 in
set_option maxRecDepth 100000 in
theorem well_is (x : Nd) (w : World) (hx : x.Ok) :
    Calls Try.prog 31 #[.agg x.arr] w fun e w' => e = .returned (.bool (decide x.WellP)) ∧ Ext w w' := by
  have B := Bx.new w x.arr 68
  have k1 : (w.alloc (.cells x.arr 68)).cell? ⟨w.heap.size, 1, none⟩ = some (.int .i64 x.g) := (B.cell 1).trans x.a1
  have k14 : (w.alloc (.cells x.arr 68)).cell? ⟨w.heap.size, 14, none⟩ = some (.int .i64 x.pre) := (B.cell 14).trans x.a14
  have k15 : (w.alloc (.cells x.arr 68)).cell? ⟨w.heap.size, 15, none⟩ = some (.int .i64 x.suf) := (B.cell 15).trans x.a15
  have hk := run_loadKids (c := 0) B.kids rfl
  have hxt : Ext w (w.alloc (.cells x.arr 68)) := (Ext.refl w).new _
  clear B
  have HX := Lib.hid hx
  clear hx
  obtain ⟨b, hb⟩ : ∃ b, b = decide x.WellP := ⟨_, rfl⟩
  have HB := Lib.hid hb
  rw [← hb]
  clear hb
  go_enter Try.func31, Try.ntmps31
  go_wp2_with (refine wpList_load_agg 66 (by rfl) _ (by rfl) _ (by rfl) _ hk ?_)
  go_loopw [4, 7] (fun _ j wr => wr = w.alloc (.cells x.arr 68) ∧ ∃ k : Nat, k ≤ 9 ∧ j = .int .i64 k ∧ Hid (∀ i z, i < k → x.kids[i]? = some z → RefMay z)) (fun _ j _ => 9 - (intOf j).toNat)
  case atStart => exact ⟨rfl, 0, Nat.zero_le _, rfl, fun i z hi => by omega⟩
  case round =>
    obtain ⟨rfl, k, hk9, rfl, hall⟩ := hrel
    by_cases hlt : k < 9
    · have hix := run_indexKids (w := w.alloc (.cells x.arr 68)) (zs := x.kids) rfl hlt
      have hik := Lib.hid (ith_of x.kids (i := k) hlt)
      have hm : ith x.kids k ∈ x.kids := List.mem_of_getElem? hik.out
      obtain ⟨z0, z1⟩ := HX.out _ hm
      have HM := Lib.hid hm
      clear hm
      generalize ith x.kids k = z at *
      by_cases hz : z = 0
      · subst hz
        go_wp2_with (refine wpList_index_agg 66 (by rfl) _ _ (by rfl) _ _ _ (by rfl) (by rfl) hix ?_)
        go_roundw
        case rel => exact ⟨trivial, k + 1, by omega, by go_num, fun i y hi hy => by
          by_cases e : i = k
          · subst e
            rw [hik.out] at hy
            injection hy with hy
            exact .inl hy.symm
          · exact hall i y (by omega) hy⟩
        case measure => simp [intOf]; omega
      · by_cases hz2 : Node z
        · have HG := Lib.hid (fun W => want_gen z W z0 z1)
          rw [if_pos hz2] at HG
          have HZ := Lib.hid hz2
          have hz3 : ¬ z / 65536 < 0 := by omega
          clear hz2
          go_wp2_with (refine wpList_index_agg 66 (by rfl) _ _ (by rfl) _ _ _ (by rfl) (by rfl) hix ?_)
          refine (HG.out _).mono ?_; rintro e w1 ⟨rfl, rfl⟩
          go_wp2_with fail
          go_roundw
          case rel => exact ⟨trivial, k + 1, by omega, by go_num, fun i y hi hy => by
            by_cases e : i = k
            · subst e
              rw [hik.out] at hy
              injection hy with hy
              subst hy
              exact .inr HZ.out
            · exact hall i y (by omega) hy⟩
          case measure => simp [intOf]; omega
        · have HG := Lib.hid (fun W => want_gen z W z0 z1)
          rw [if_neg hz2] at HG
          obtain rfl : b = false := by
            rw [HB.out, decide_eq_false_iff_not]
            exact fun h => (h.1 z HM.out).elim hz hz2
          clear hz2
          go_wp2_with (refine wpList_index_agg 66 (by rfl) _ _ (by rfl) _ _ _ (by rfl) (by rfl) hix ?_)
          refine (HG.out _).mono ?_; rintro e w1 ⟨rfl, rfl⟩
          go_wp2_with fail
          go_ret
          exact ⟨rfl, hxt⟩
    · have HK := Lib.hid (show ∀ r ∈ x.kids, RefMay r from fun r hr => by
        obtain ⟨i, hi⟩ := List.getElem?_of_mem hr
        have h9 : i < 9 := (List.getElem?_eq_some_iff.1 hi).1
        exact hall i r (by omega) hi)
      clear hall
      by_cases c0 : 0 ≤ x.g
      · by_cases c1 : x.g ≤ 1048576
        · by_cases c2 : 0 ≤ x.pre
          · by_cases c3 : x.pre ≤ 9
            · by_cases c4 : 0 ≤ x.suf
              · by_cases c5 : x.suf ≤ 9
                · obtain rfl : b = true := by rw [HB.out, decide_eq_true_eq]; exact ⟨HK.out, ⟨c0, c1⟩, ⟨c2, c3⟩, ⟨c4, c5⟩⟩
                  go_wp2_with fail
                  go_ret
                  exact ⟨rfl, hxt⟩
                · obtain rfl : b = false := by rw [HB.out, decide_eq_false_iff_not]; exact fun h => c5 h.2.2.2.2
                  go_wp2_with fail
                  go_ret
                  exact ⟨rfl, hxt⟩
              · obtain rfl : b = false := by rw [HB.out, decide_eq_false_iff_not]; exact fun h => c4 h.2.2.2.1
                go_wp2_with fail
                go_ret
                exact ⟨rfl, hxt⟩
            · obtain rfl : b = false := by rw [HB.out, decide_eq_false_iff_not]; exact fun h => c3 h.2.2.1.2
              go_wp2_with fail
              go_ret
              exact ⟨rfl, hxt⟩
          · obtain rfl : b = false := by rw [HB.out, decide_eq_false_iff_not]; exact fun h => c2 h.2.2.1.1
            go_wp2_with fail
            go_ret
            exact ⟨rfl, hxt⟩
        · obtain rfl : b = false := by rw [HB.out, decide_eq_false_iff_not]; exact fun h => c1 h.2.1.2
          go_wp2_with fail
          go_ret
          exact ⟨rfl, hxt⟩
      · obtain rfl : b = false := by rw [HB.out, decide_eq_false_iff_not]; exact fun h => c0 h.2.1.1
        go_wp2_with fail
        go_ret
        exact ⟨rfl, hxt⟩

/-- How often is a number in a row? -/
def cnt (zs : List Int) (x : Int) : Nat := zs.count x
theorem cnt_take {zs : List Int} {k : Nat} {y : Int} (h : zs[k]? = some y) (x : Int) : cnt (zs.take (k + 1)) x = cnt (zs.take k) x + (if y = x then 1 else 0) := by
  unfold cnt
  rw [List.take_add_one, List.count_append, h]
  simp [List.count_singleton]

set_option maxHeartbeats 800000 in
theorem has_is (A : Option Addr) (n c : Nat) (zs : List Int) (at_ : Int) (w : World) (hn : n ≤ 1000) (h : Rd w 1 A n (Ks .i64 zs)) :
    Calls Try.prog 30 #[.slice A n c, .int .i64 at_] w fun e w' => e = .returned (.int .i64 (cnt zs at_ : Nat)) ∧ w = w' := by
  have hl : zs.length = n := by have := h.1; simpa [Ks] using this
  have HL := Lib.hid hl
  clear hl
  go_enter Try.func30, Try.ntmps30
  go_wp2_with fail
  go_loopw [5, 7, 10] (fun q _ j wr => wr = w ∧ ∃ k m : Nat, k ≤ n ∧ m ≤ k ∧ j = .int .i64 k ∧ q = .int .i64 m ∧ Hid (m = cnt (zs.take k) at_)) (fun _ _ j _ => n - (intOf j).toNat)
  case atStart => exact ⟨rfl, 0, 0, Nat.zero_le _, Nat.le_refl _, rfl, rfl, Lib.hid (by simp [cnt])⟩
  case round =>
    obtain ⟨rfl, k, m, hk, hm, rfl, rfl, HC⟩ := hrel
    by_cases hlt : k < n
    · obtain ⟨y, hy⟩ : ∃ y, zs[k]? = some y := ⟨_, List.getElem?_eq_getElem (by rw [HL.out]; exact hlt)⟩
      obtain ⟨ad, rfl, hcell⟩ := h.2 k (.int .i64 y) (by simp [Ks, hy])
      have HY := Lib.hid hy
      clear hy
      by_cases e : y = at_
      · subst e
        go_wp2_with fail
        go_roundw
        case rel => exact ⟨trivial, k + 1, m + 1, by omega, by omega, by go_num, by go_num, Lib.hid (by rw [cnt_take HY.out, HC.out]; simp)⟩
        case measure => simp [intOf]; omega
      · go_wp2_with fail
        go_roundw
        case rel => exact ⟨trivial, k + 1, m, by omega, by omega, by go_num, by go_num, Lib.hid (by rw [cnt_take HY.out, HC.out]; simp [e])⟩
        case measure => simp [intOf]; omega
    · have e := Lib.hid (show m = cnt zs at_ by
        rw [HC.out, List.take_of_length_le (by rw [HL.out]; omega)])
      go_wp2_with fail
      go_ret
      exact ⟨by rw [← e.out]; rfl, rfl⟩

end Go.Proofs.Ytfoifcbaadnigaa

/-
  Contracts: an arena's free places (rightFree).
-/
set_option linter.unusedVariables false
set_option linter.unusedSimpArgs false
namespace Go.Proofs.Ytfoifcbaadnigaa
open Go.RowKit

/-- In w the two slices show nodes and free places. -/
structure Ar (w : World) (A : Option Addr) (n : Nat) (B : Option Addr) (m : Nat) (ns : List Nd) (fs : List Int) : Prop where
  nodes : Rd w 16 A n (flat Nd.cells ns)
  free : Rd w 1 B m (Ks .i64 fs)
  ok : ∀ x ∈ ns, x.Ok
theorem Ar.to {w w' : World} {A B : Option Addr} {n m : Nat} {ns : List Nd} {fs : List Int} (h : Ar w A n B m ns fs) (e : Ext w w') : Ar w' A n B m ns fs := ⟨h.nodes.to e, h.free.to e, h.ok⟩
theorem Ar.len {w : World} {A B : Option Addr} {n m : Nat} {ns : List Nd} {fs : List Int} (h : Ar w A n B m ns fs) : ns.length = n := by
  have := h.nodes.1
  rw [flat_length Nd.cells_length] at this
  omega
theorem Ar.lenF {w : World} {A B : Option Addr} {n m : Nat} {ns : List Nd} {fs : List Int} (h : Ar w A n B m ns fs) : fs.length = m := by
  have := h.free.1
  simpa [Ks] using this
theorem Ar.freeAt {w : World} {A B : Option Addr} {n m : Nat} {ns : List Nd} {fs : List Int} (h : Ar w A n B m ns fs) {i : Nat} {y : Int} (hy : fs[i]? = some y) : ∃ ad, B = some ad ∧ w.cell? (ad.add i) = some (.int .i64 y) := by
  obtain ⟨ad, hb, hc⟩ := h.free.2 i (.int .i64 y) (by simp [Ks, hy])
  exact ⟨ad, hb, hc⟩
theorem Ar.nodeAt {w : World} {A B : Option Addr} {n m : Nat} {ns : List Nd} {fs : List Int} (h : Ar w A n B m ns fs) {i : Nat} {x : Nd} (hx : ns[i]? = some x) : ∃ ad, A = some ad ∧ NdAt w (ad.add (i * 16)) x := NdAt.of h.nodes hx

abbrev In (y : Int) (n : Nat) : Prop := 0 ≤ y ∧ y < n
def Frees (ns : List Nd) (fs : List Int) : Prop := (∀ y ∈ fs, In y ns.length) ∧ fs.Nodup ∧ ∀ (i : Nat) (x : Nd), ns[i]? = some x → ((i : Int) ∈ fs ↔ x.k = 0)

theorem within_is (y : Int) (n : Nat) (w : World) :
    Calls Try.prog 73 #[.int .i64 y, .int .i64 n] w fun e w' => e = .returned (.bool (decide (In y n))) ∧ w = w' := by
  by_cases h : In y n
  · rw [decide_eq_true h]
    obtain ⟨h1, h2⟩ := h
    go_enter Try.func73, Try.ntmps73
    go_wp2
    go_ret
    exact ⟨rfl, rfl⟩
  · rw [decide_eq_false h]
    by_cases h1 : 0 ≤ y
    · have h2 : ¬ y < n := fun k => h ⟨h1, k⟩
      clear h
      go_enter Try.func73, Try.ntmps73
      go_wp2
      go_ret
      exact ⟨rfl, rfl⟩
    · clear h
      go_enter Try.func73, Try.ntmps73
      go_wp2
      go_ret
      exact ⟨rfl, rfl⟩

/-- Which of n places are in a row. -/
def marks (n : Nat) (l : List Int) : List Bool := (List.range n).map fun (p : Nat) => decide ((p : Int) ∈ l)
def Bs (l : List Bool) : Array Value := (l.map Value.bool).toArray
theorem marks_length (n : Nat) (l : List Int) : (marks n l).length = n := by simp [marks]
theorem marks_get (n : Nat) (l : List Int) {p : Nat} (h : p < n) : (marks n l)[p]? = some (decide ((p : Int) ∈ l)) := by simp [marks, h]
theorem Bs_get (l : List Bool) (p : Nat) : (Bs l)[p]? = (l[p]?).map Value.bool := by simp [Bs]
theorem Bs_size (l : List Bool) : (Bs l).size = l.length := by simp [Bs]
theorem made_bools (n : Nat) : madeCells #[.bool false] n = Bs (marks n []) := by
  apply Array.ext'
  rw [toList_madeCells_one]
  apply List.ext_getElem
  · simp [Bs, marks]
  · intro i h1 h2
    simp [Bs, marks]
theorem marks_set (n : Nat) (l : List Int) {p : Nat} (h : p < n) : (Bs (marks n l)).setIfInBounds p (.bool true) = Bs (marks n (l ++ [(p : Int)])) := by
  apply Array.ext_getElem?
  intro i
  rw [Array.getElem?_setIfInBounds, Bs_size, marks_length, Bs_get, Bs_get]
  by_cases hi : i < n
  · rw [marks_get _ _ hi, marks_get _ _ hi]
    by_cases e : p = i
    · subst e
      simp [h]
    · have : ¬ ((i : Int) = (p : Int)) := by omega
      simp [e, this]
  · have e : ¬ p = i := by omega
    rw [if_neg e, List.getElem?_eq_none (by rw [marks_length]; omega), List.getElem?_eq_none (by rw [marks_length]; omega)]

theorem bool_info : (Try.prog.info? 4).map (fun i => (i.zero, i.size, i.bytes)) = some (some (.bool false), 1, 1) := by kernel_rfl

theorem bools_made {W W' : World} {n : Nat} (h : W' = W.alloc (.cells (madeCells #[.bool false] n) 4)) : Bx W' W.heap.size (Bs (marks n [])) ∧ Ext W W' := by
  subst h
  refine ⟨?_, (Ext.refl W).new _⟩
  rw [made_bools]
  exact Bx.new _ _ _
theorem box_made {W W' : World} {cs : Array Value} {t : TypeId} (h : W' = W.alloc (.cells cs t)) : Bx W' W.heap.size cs ∧ Ext W W' ∧ W'.heap.size = W.heap.size + 1 := by
  subst h
  exact ⟨Bx.new _ _ _, (Ext.refl W).new _, by simp⟩

theorem nodup_at {l : List Int} (h : l.Nodup) {k : Nat} {y : Int} (hy : l[k]? = some y) : y ∉ l.take k := by
  obtain ⟨hk, hy'⟩ := List.getElem?_eq_some_iff.1 hy
  have e : l.take k ++ y :: l.drop (k + 1) = l := by
    rw [← hy', ← List.drop_eq_getElem_cons hk, List.take_append_drop]
  rw [← e] at h
  intro hm
  exact (List.nodup_append.1 h).2.2 y hm y (by simp) rfl

set_option maxHeartbeats 1600000 in
theorem rightFree_is (A B : Option Addr) (n m c d : Nat) (ns : List Nd) (fs : List Int) (w : World) (h : Ar w A n B m ns fs) (hn : n ≤ 1000) (hm : m ≤ 1000) (b : Bool) (hb : b = true ↔ Frees ns fs) :
    Calls Try.prog 53 #[.agg #[.slice A n c, .slice B m d]] w fun e w' => e = .returned (.bool b) ∧ Ext w w' := by
  have HB := Lib.hid hb
  clear hb
  have HL := Lib.hid h.len
  have HF := Lib.hid h.lenF
  obtain ⟨i0, hi0, hz0, hz1, hz2⟩ := info_parts bool_info
  obtain ⟨w1, hw1⟩ : ∃ w1, w1 = w.alloc (.cells #[.slice A n c, .slice B m d] 26) := ⟨_, rfl⟩
  obtain ⟨w2, hw2⟩ : ∃ w2, w2 = w1.alloc (.cells (madeCells #[.bool false] n) 4) := ⟨_, rfl⟩
  obtain ⟨B1, hx1, hs1⟩ := box_made hw1
  obtain ⟨B2, hx2⟩ := bools_made hw2
  have B1' := B1.to hx2
  have k0 : w1.cell? ⟨w.heap.size, 0, none⟩ = some (.slice A n c) := B1.cell 0
  have h2 := h.to (hx1.step hx2)
  have H1 := Lib.hid hw1
  have H2 := Lib.hid hw2
  have E12 := Lib.hid (hx1.step hx2)
  have S1 := Lib.hid hs1
  have HB2 := Lib.hid B2
  have HB1 := Lib.hid B1
  have k0' : w2.cell? ⟨w.heap.size, 0, none⟩ = some (.slice A n c) := B1'.cell 0
  have k1' : w2.cell? ⟨w.heap.size, 1, none⟩ = some (.slice B m d) := B1'.cell 1
  have h1 := Lib.hid (h.to hx1)
  have X1 := Lib.hid hx1
  have X2 := Lib.hid hx2
  clear B1 B1' hs1 hx1 hx2 B2 hw1 hw2 h2
  go_enter Try.func53, Try.ntmps53
  go_wp2_with (at_make; rw [← H1.out]; refine wpList_make_row _ rfl _ _ 116 rfl 4 i0 (.bool false) Try.underlying116 hi0 hz0 hz1 rfl .i64 .i64 n rfl rfl (by rw [hz2]; omega) (by omega) ?_; rw [← H2.out])
  go_loopw [5, 15] (fun _ j wr => Ext w1 wr ∧ ∃ k : Nat, k ≤ m ∧ j = .int .i64 k ∧ Hid (Bx wr w1.heap.size (Bs (marks n (fs.take k)))) ∧ Hid (∀ y ∈ fs.take k, In y n) ∧ Hid (fs.take k).Nodup) (fun _ j _ => m - (intOf j).toNat)
  case atStart => exact ⟨X2.out, 0, Nat.zero_le _, rfl, Lib.hid (by simpa using HB2.out), Lib.hid (by simp), Lib.hid (by simp)⟩
  case round =>
    obtain ⟨hx, k, hk, rfl, hB, hI, hD⟩ := hrel
    have B1 := HB1.out.to hx
    have q0 : wr.cell? ⟨w.heap.size, 0, none⟩ = some (.slice A n c) := B1.cell 0
    have q1 : wr.cell? ⟨w.heap.size, 1, none⟩ = some (.slice B m d) := B1.cell 1
    clear B1 k0 k0' k1'
    by_cases hlt : k < m
    · obtain ⟨y, hy⟩ : ∃ y, fs[k]? = some y := ⟨_, List.getElem?_eq_getElem (by have := HF.out; omega)⟩
      obtain ⟨ad, rfl, hc⟩ := (h1.out.to hx).freeAt hy
      have HY := Lib.hid hy
      have hmem := Lib.hid (List.mem_of_getElem? hy)
      clear hy
      by_cases hin : In y n
      · obtain ⟨p, rfl⟩ : ∃ p : Nat, y = p := ⟨y.toNat, by have := hin.1; omega⟩
        have hp : p < n := by have := hin.2; omega
        have hi := Lib.hid (fun W => within_is (p : Int) n W)
        rw [decide_eq_true hin] at hi
        have cp := (hB.out.cell p).trans ((Bs_get _ p).trans (congrArg _ (marks_get n (fs.take k) hp)))
        have fp := hB.out.free p
        simp only [Option.map_some] at cp
        clear hin
        obtain ⟨t, ht⟩ : ∃ t, t = decide ((p : Int) ∈ fs.take k) := ⟨_, rfl⟩
        rw [← ht] at cp
        have HT := Lib.hid ht
        clear ht
        cases t
        · have HN := Lib.hid (show (p : Int) ∉ fs.take k from of_decide_eq_false HT.out.symm)
          go_wp2_with fail
          refine (hi.out _).mono ?_; rintro e w3 ⟨rfl, rfl⟩
          go_wp2_with fail
          go_roundw
          case rel => exact ⟨hx.set _ (Nat.le_refl _), k + 1, by omega, by go_num, Lib.hid (by
              rw [List.take_add_one, HY.out]
              have := hB.out.set (j := p) (by rw [Bs_size, marks_length]; exact hp) (.bool true)
              rw [marks_set _ _ hp] at this
              exact this), Lib.hid (fun y hy => by
              rw [List.take_add_one, HY.out] at hy
              rcases List.mem_append.1 hy with hy | hy
              · exact hI.out y hy
              · simp at hy
                subst hy
                exact ⟨by omega, by omega⟩), Lib.hid (by
              rw [List.take_add_one, HY.out]
              refine List.nodup_append.2 ⟨hD.out, by simp, fun a ha b hb => ?_⟩
              simp at hb
              subst hb
              exact fun e => HN.out (e ▸ ha))⟩
          case measure => simp [intOf]; omega
        · obtain rfl : b = false := by
            cases b
            · rfl
            · have hd := (HB.out.1 rfl).2.1
              have hm' : (p : Int) ∈ fs.take k := of_decide_eq_true HT.out.symm
              exact absurd hm' (nodup_at hd HY.out)
          go_wp2_with fail
          refine (hi.out _).mono ?_; rintro e w3 ⟨rfl, rfl⟩
          go_wp2_with fail
          go_ret
          exact ⟨rfl, X1.out.step hx⟩
      · obtain rfl : b = false := by
          cases b
          · rfl
          · exact absurd ((HB.out.1 rfl).1 y hmem.out) (by rw [HL.out]; exact hin)
        have hi := Lib.hid (fun W => within_is y n W)
        rw [decide_eq_false hin] at hi
        clear hin
        go_wp2_with fail
        refine (hi.out _).mono ?_; rintro e w3 ⟨rfl, rfl⟩
        go_wp2_with fail
        go_ret
        exact ⟨rfl, X1.out.step hx⟩
    · have hm' : fs.take k = fs := List.take_of_length_le (by have := HF.out; omega)
      rw [hm'] at hB hI hD
      clear hm'
      go_wp2_with fail
      rename World => w3
      go_loopw [6, 7, 37] (fun _ _ j wr => Ext w3 wr ∧ ∃ k : Nat, k ≤ n ∧ j = .int .i64 k ∧ Hid (∀ (i : Nat) (x : Nd), i < k → ns[i]? = some x → ((i : Int) ∈ fs ↔ x.k = 0))) (fun _ _ j _ => n - (intOf j).toNat)
      case atStart => exact ⟨Ext.refl _, 0, Nat.zero_le _, rfl, fun i x hi => by omega⟩
      case round =>
        obtain ⟨hx3, k, hk, rfl, hall⟩ := hrel
        rename World => w4
        by_cases hlt : k < n
        · obtain ⟨x, hxk⟩ : ∃ x, ns[k]? = some x := ⟨_, List.getElem?_eq_getElem (by have := HL.out; omega)⟩
          obtain ⟨ad, rfl, hn0⟩ := (h1.out.to (hx.step hx3)).nodeAt hxk
          have HXK := Lib.hid hxk
          clear hxk
          obtain ⟨w5, hw5⟩ : ∃ w5, w5 = w4.alloc (.cells x.arr 68) := ⟨_, rfl⟩
          obtain ⟨B5, hx5, _⟩ := box_made hw5
          have c0 : w5.cell? ⟨w4.heap.size, 0, none⟩ = some (.int .i64 x.k) := (B5.cell 0).trans x.a0
          have cp := (((hB.out.to hx3).to hx5).cell k).trans ((Bs_get _ k).trans (congrArg _ (marks_get n fs hlt)))
          simp only [Option.map_some] at cp
          obtain ⟨t, ht⟩ : ∃ t, t = decide ((k : Int) ∈ fs) := ⟨_, rfl⟩
          rw [← ht] at cp
          have HT := Lib.hid ht
          have H5 := Lib.hid hw5
          have X5 := Lib.hid hx5
          clear ht B5 hw5 hx5
          obtain ⟨kk, hkk⟩ : ∃ kk, kk = x.k := ⟨_, rfl⟩
          rw [← hkk] at c0
          have HK := Lib.hid hkk
          clear hkk
          by_cases hz : kk = 0
          · subst hz
            cases t
            · obtain rfl : b = false := by
                cases b
                · rfl
                · exact absurd ((HB.out.1 rfl).2.2 k x HXK.out) (by
                    rw [← HK.out]; have := of_decide_eq_false HT.out.symm; simp [this])
              go_wp2_with (first
                | (refine wpList_load_nd (by rfl) _ (by rfl) _ (by rfl) x hn0 ?_)
                | (refine wpList_store_nd (W := w4) (by rfl) _ _ (by rfl) (by rfl) x (by rfl) _ (by rfl) (by rfl) ?_; rw [← H5.out]))
              go_quiet (fail)
              go_wp2_with fail
              go_ret
              exact ⟨rfl, X1.out.step (hx.step (hx3.step (X5.out.drewN _)))⟩
            · go_wp2_with (first
                | (refine wpList_load_nd (by rfl) _ (by rfl) _ (by rfl) x hn0 ?_)
                | (refine wpList_store_nd (W := w4) (by rfl) _ _ (by rfl) (by rfl) x (by rfl) _ (by rfl) (by rfl) ?_; rw [← H5.out]))
              go_quiet (fail)
              go_wp2_with fail
              go_roundw
              case rel => exact ⟨hx3.step (X5.out.drewN _), k + 1, by omega, by go_num, Lib.hid (fun i y hi hy => by
                by_cases e : i = k
                · subst e
                  rw [HXK.out] at hy
                  injection hy with hy
                  subst hy
                  rw [← HK.out]; have := of_decide_eq_true HT.out.symm; simp [this]
                · exact hall.out i y (by omega) hy)⟩
              case measure => simp [intOf]; omega
          · have HZ := Lib.hid hz
            have hz0 : (kk == 0) = false := by simp [hz]
            cases t
            · go_wp2_with (first
                | (refine wpList_load_nd (by rfl) _ (by rfl) _ (by rfl) x hn0 ?_)
                | (refine wpList_store_nd (W := w4) (by rfl) _ _ (by rfl) (by rfl) x (by rfl) _ (by rfl) (by rfl) ?_; rw [← H5.out]))
              go_quiet (fail)
              go_wp2_with fail
              go_roundw
              case rel => exact ⟨hx3.step (X5.out.drewN _), k + 1, by omega, by go_num, Lib.hid (fun i y hi hy => by
                by_cases e : i = k
                · subst e
                  rw [HXK.out] at hy
                  injection hy with hy
                  subst hy
                  rw [← HK.out]; have := of_decide_eq_false HT.out.symm; have hz := HZ.out; simp [this, hz]
                · exact hall.out i y (by omega) hy)⟩
              case measure => simp [intOf]; omega
            · obtain rfl : b = false := by
                cases b
                · rfl
                · exact absurd ((HB.out.1 rfl).2.2 k x HXK.out) (by
                    rw [← HK.out]; have := of_decide_eq_true HT.out.symm; have hz := HZ.out; simp [this, hz])
              go_wp2_with (first
                | (refine wpList_load_nd (by rfl) _ (by rfl) _ (by rfl) x hn0 ?_)
                | (refine wpList_store_nd (W := w4) (by rfl) _ _ (by rfl) (by rfl) x (by rfl) _ (by rfl) (by rfl) ?_; rw [← H5.out]))
              go_quiet (fail)
              go_wp2_with fail
              go_ret
              exact ⟨rfl, X1.out.step (hx.step (hx3.step (X5.out.drewN _)))⟩
        · obtain rfl : b = true := HB.out.2 ⟨fun y hy => by rw [HL.out]; exact hI.out y hy, hD.out, fun i x hi => hall.out i x (by
            have := (List.getElem?_eq_some_iff.1 hi).1
            have := HL.out
            omega) hi⟩
          go_wp2_with fail
          go_ret
          exact ⟨rfl, X1.out.step (hx.step hx3)⟩

end Go.Proofs.Ytfoifcbaadnigaa

/-
  Contract: which arenas may be, as the program tells it (Right).
-/
set_option linter.unusedVariables false
set_option linter.unusedSimpArgs false
namespace Go.Proofs.Ytfoifcbaadnigaa
open Go.RowKit

structure ArMay (ns : List Nd) (fs : List Int) : Prop where
  pos : 1 ≤ ns.length
  le : ns.length ≤ 512
  fits : ∀ x ∈ ns, x.Fits
  frees : Frees ns fs

set_option maxHeartbeats 1600000 in
theorem arRight_is (A B : Option Addr) (n m c d : Nat) (ns : List Nd) (fs : List Int) (w : World) (h : Ar w A n B m ns fs) (hn : n ≤ 1000) (hm : m ≤ 1000) (b : Bool) (hb : b = true ↔ ArMay ns fs) :
    Calls Try.prog 36 #[.agg #[.slice A n c, .slice B m d]] w fun e w' => e = .returned (.bool b) ∧ Ext w w' := by
  have HB := Lib.hid hb
  clear hb
  have HL := Lib.hid h.len
  obtain ⟨w1, hw1⟩ : ∃ w1, w1 = w.alloc (.cells #[.slice A n c, .slice B m d] 26) := ⟨_, rfl⟩
  obtain ⟨B1, hx1, hs1⟩ := box_made hw1
  have HB1 := Lib.hid B1
  have X1 := Lib.hid hx1
  have h1 := Lib.hid (h.to hx1)
  have H1 := Lib.hid hw1
  clear B1 hs1 hx1
  by_cases g1 : 1 ≤ n
  · by_cases g2 : n ≤ 512
    · have k0 : w1.cell? ⟨w.heap.size, 0, none⟩ = some (.slice A n c) := HB1.out.cell 0
      rw [hw1] at k0
      clear hw1
      go_enter Try.func36, Try.ntmps36
      go_wp2_with fail
      rw [← H1.out]
      rw [← H1.out] at k0
      go_loopw [4, 18] (fun _ j wr => Ext w1 wr ∧ ∃ k : Nat, k ≤ n ∧ j = .int .i64 k ∧ Hid (∀ (i : Nat) (x : Nd), i < k → ns[i]? = some x → x.Fits)) (fun _ j _ => n - (intOf j).toNat)
      case atStart => exact ⟨Ext.refl _, 0, Nat.zero_le _, rfl, fun i x hi => by omega⟩
      case round =>
        obtain ⟨hx, k, hk, rfl, hall⟩ := hrel
        rename World => w4
        have q0 : w4.cell? ⟨w.heap.size, 0, none⟩ = some (.slice A n c) := (HB1.out.to hx).cell 0
        have q1 : w4.cell? ⟨w.heap.size, 1, none⟩ = some (.slice B m d) := (HB1.out.to hx).cell 1
        clear k0
        by_cases hlt : k < n
        · obtain ⟨x, hxk⟩ : ∃ x, ns[k]? = some x := ⟨_, List.getElem?_eq_getElem (by have := HL.out; omega)⟩
          obtain ⟨ad, rfl, hn0⟩ := (h1.out.to hx).nodeAt hxk
          have HXK := Lib.hid hxk
          have hok := h1.out.ok x (List.mem_of_getElem? hxk)
          clear hxk
          obtain ⟨w5, hw5⟩ : ∃ w5, w5 = w4.alloc (.cells x.arr 68) := ⟨_, rfl⟩
          obtain ⟨B5, hx5, _⟩ := box_made hw5
          have hn5 := B5.node
          have HR := Lib.hid (rightNode_is x w5 hok)
          have H5 := Lib.hid hw5
          have X5 := Lib.hid hx5
          clear B5 hw5 hx5 hok
          obtain ⟨t, ht⟩ : ∃ t, t = decide x.Fits := ⟨_, rfl⟩
          rw [← ht] at HR
          have HT := Lib.hid ht
          clear ht
          go_wp2_with (first
            | (refine wpList_load_nd (by rfl) _ (by rfl) _ (by rfl) x hn0 ?_)
            | (refine wpList_load_nd (by rfl) _ (by rfl) _ (by rfl) x hn5 ?_)
            | (refine wpList_store_nd (W := w4) (by rfl) _ _ (by rfl) (by rfl) x (by rfl) _ (by rfl) (by rfl) ?_; rw [← H5.out]))
          refine HR.out.mono ?_; rintro e w6 ⟨rfl, hx6⟩
          have hx' := Lib.hid (hx.step (X5.out.step hx6))
          cases t
          · obtain rfl : b = false := by
              cases b
              · rfl
              · exact absurd ((HB.out.1 rfl).fits x (List.mem_of_getElem? HXK.out)) (of_decide_eq_false HT.out.symm)
            go_wp2_with fail
            go_ret
            exact ⟨rfl, X1.out.step hx'.out⟩
          · go_wp2_with fail
            go_roundw
            case rel => exact ⟨hx'.out, k + 1, by omega, by go_num, Lib.hid (fun i y hi hy => by
              by_cases e : i = k
              · subst e
                rw [HXK.out] at hy
                injection hy with hy
                subst hy
                exact of_decide_eq_true HT.out.symm
              · exact hall.out i y (by omega) hy)⟩
            case measure => simp [intOf]; omega
        · have hfit : ∀ x ∈ ns, x.Fits := fun x hx => by
            obtain ⟨i, hi⟩ := List.getElem?_of_mem hx
            have := (List.getElem?_eq_some_iff.1 hi).1
            exact hall.out i x (by have := HL.out; omega) hi
          have HR := Lib.hid (rightFree_is A B n m c d ns fs w4 (h1.out.to hx) hn hm b ⟨fun hb => (HB.out.1 hb).frees, fun hf => HB.out.2 ⟨by rw [HL.out]; exact g1, by rw [HL.out]; exact g2, hfit, hf⟩⟩)
          have hx' := Lib.hid hx
          clear hfit hall
          go_wp2_with fail
          refine HR.out.mono ?_; rintro e w6 ⟨rfl, hx6⟩
          go_wp2_with fail
          go_ret
          exact ⟨rfl, X1.out.step (hx'.out.step hx6)⟩
    · obtain rfl : b = false := by
        cases b
        · rfl
        · exact absurd (HB.out.1 rfl).le (by rw [HL.out]; exact g2)
      go_enter Try.func36, Try.ntmps36
      go_wp2_with fail
      go_ret
      exact ⟨rfl, (Ext.refl w).new _⟩
  · obtain rfl : b = false := by
      cases b
      · rfl
      · exact absurd (HB.out.1 rfl).pos (by rw [HL.out]; exact g1)
    go_enter Try.func36, Try.ntmps36
    go_wp2_with fail
    go_ret
    exact ⟨rfl, (Ext.refl w).new _⟩

end Go.Proofs.Ytfoifcbaadnigaa

/-
  Contract: which arenas may be, as the document tells it.
-/
set_option linter.unusedVariables false
set_option linter.unusedSimpArgs false
namespace Go.Proofs.Ytfoifcbaadnigaa
open Go.RowKit

/-- What the document asks of one node, at its place. -/
def NdMay (fs : List Int) (i : Nat) (x : Nd) : Prop := x.WellP ∧ cnt fs i ≤ 1 ∧ (cnt fs i = 1 ↔ x.k = 0) ∧ (cnt fs i = 1 → x = bare x.g)

theorem nodup_len {fs : List Int} {n : Nat} (h : fs.Nodup) (hin : ∀ y ∈ fs, In y n) : fs.length ≤ n := by
  have h2 : fs ⊆ (List.range n).map Int.ofNat := fun y hy => by
    have := hin y hy
    exact List.mem_map.2 ⟨y.toNat, by simp only [List.mem_range]; omega, by show ((y.toNat : Nat) : Int) = y; omega⟩
  have := h.length_le_of_subset h2
  simpa using this
theorem nodup_count {l : List Int} : l.Nodup ↔ ∀ y, l.count y ≤ 1 := List.nodup_iff_count

theorem armay_iff (ns : List Nd) (fs : List Int) : ArMay ns fs ↔ (1 ≤ ns.length ∧ ns.length ≤ 512 ∧ fs.length ≤ ns.length ∧ (∀ y ∈ fs, In y ns.length) ∧ ∀ (i : Nat) (x : Nd), ns[i]? = some x → NdMay fs i x) := by
  constructor
  · rintro ⟨h1, h2, h3, h4, h5, h6⟩
    refine ⟨h1, h2, nodup_len h5 h4, h4, fun i x hx => ?_⟩
    have hf := h3 x (List.mem_of_getElem? hx)
    have hc : cnt fs i ≤ 1 := nodup_count.1 h5 _
    have he : cnt fs i = 1 ↔ x.k = 0 := by
      rw [← h6 i x hx, ← List.count_pos_iff]
      show cnt fs i = 1 ↔ 0 < cnt fs i
      omega
    refine ⟨?_, hc, he, fun hq => ?_⟩
    · rcases hf.2 with ⟨hk, hb⟩ | ⟨hk, hp⟩
      · refine ⟨?_, hf.1, ?_, ?_⟩
        · rw [hb]; intro r hr; simp [bare, Nd.kids] at hr; exact .inl hr
        · rw [hb]; exact ⟨by simp [bare], by simp [bare]⟩
        · rw [hb]; exact ⟨by simp [bare], by simp [bare]⟩
      · exact ⟨hp.2.2, hf.1, hp.1, hp.2.1⟩
    · have hk := he.1 hq
      rcases hf.2 with ⟨_, hb⟩ | ⟨hk', _⟩
      · exact hb
      · exact absurd hk hk'
  · rintro ⟨h1, h2, h3, h4, h5⟩
    refine ⟨h1, h2, fun x hx => ?_, h4, nodup_count.2 fun y => ?_, fun i x hx => ?_⟩
    · obtain ⟨i, hi⟩ := List.getElem?_of_mem hx
      obtain ⟨⟨w1, w2, w3, w4⟩, hc, he, hb⟩ := h5 i x hi
      refine ⟨w2, ?_⟩
      by_cases hk : x.k = 0
      · exact .inl ⟨hk, hb (he.2 hk)⟩
      · exact .inr ⟨hk, w3, w4, w1⟩
    · by_cases hy : y ∈ fs
      · have hin := h4 y hy
        obtain ⟨x, hx⟩ : ∃ x, ns[y.toNat]? = some x := ⟨_, List.getElem?_eq_getElem (by have := hin.1; have := hin.2; omega)⟩
        have := (h5 _ x hx).2.1
        have e : ((y.toNat : Nat) : Int) = y := by have := hin.1; omega
        rw [e] at this
        exact this
      · rw [List.count_eq_zero_of_not_mem hy]
        omega
    · obtain ⟨_, hc, he, _⟩ := h5 i x hx
      rw [← he, ← List.count_pos_iff]
      show 0 < cnt fs i ↔ cnt fs i = 1
      omega

set_option maxHeartbeats 3200000 in
theorem want_right (A B : Option Addr) (n m c d : Nat) (ns : List Nd) (fs : List Int) (w : World) (h : Ar w A n B m ns fs) (hn : n ≤ 1000) (hm : m ≤ 1000) (b : Bool) (hb : b = true ↔ ArMay ns fs) :
    Calls Try.prog 15 #[.agg #[.slice A n c, .slice B m d]] w fun e w' => e = .returned (.bool b) ∧ Ext w w' := by
  rw [armay_iff, h.len, h.lenF] at hb
  have HB := Lib.hid hb
  clear hb
  have HL := Lib.hid h.len
  have HF := Lib.hid h.lenF
  obtain ⟨w1, hw1⟩ : ∃ w1, w1 = w.alloc (.cells #[.slice A n c, .slice B m d] 26) := ⟨_, rfl⟩
  obtain ⟨B1, hx1, hs1⟩ := box_made hw1
  have HB1 := Lib.hid B1
  have X1 := Lib.hid hx1
  have h1 := Lib.hid (h.to hx1)
  have H1 := Lib.hid hw1
  clear B1 hs1 hx1
  by_cases g1 : n = 0
  · obtain rfl : b = false := by
      cases b
      · rfl
      · exact absurd (HB.out.1 rfl).1 (by omega)
    subst g1
    go_enter Try.func15, Try.ntmps15
    go_wp2_with fail
    go_ret
    exact ⟨rfl, (Ext.refl w).new _⟩
  · have g1' : ((n : Int) == 0) = false := by simp; omega
    by_cases g2 : n ≤ 512
    · by_cases g3 : m ≤ n
      · have k0 : w1.cell? ⟨w.heap.size, 0, none⟩ = some (.slice A n c) := HB1.out.cell 0
        have k1 : w1.cell? ⟨w.heap.size, 1, none⟩ = some (.slice B m d) := HB1.out.cell 1
        rw [hw1] at k0 k1
        clear hw1
        have e2 : ¬ n < m := by omega
        have e3 : decide (n < m) = false := decide_eq_false e2
        have e4 : decide ((n : Int) < (m : Int)) = false := by simp; omega
        go_enter Try.func15, Try.ntmps15
        go_wp2_with fail
        rw [← H1.out]
        rw [← H1.out] at k0 k1
        go_loopw [4, 31] (fun _ j wr => wr = w1 ∧ ∃ k : Nat, k ≤ m ∧ j = .int .i64 k ∧ Hid (∀ y ∈ fs.take k, In y n)) (fun _ j _ => m - (intOf j).toNat)
        case atStart => exact ⟨rfl, 0, Nat.zero_le _, rfl, Lib.hid (by simp)⟩
        case round =>
          obtain ⟨rfl, k, hk, rfl, hI⟩ := hrel
          by_cases hlt : k < m
          · obtain ⟨y, hy⟩ : ∃ y, fs[k]? = some y := ⟨_, List.getElem?_eq_getElem (by have := HF.out; omega)⟩
            obtain ⟨ad, rfl, hc⟩ := h1.out.freeAt hy
            have HY := Lib.hid hy
            have hmem := Lib.hid (List.mem_of_getElem? hy)
            clear hy
            by_cases y1 : 0 ≤ y
            · by_cases y2 : y < n
              · go_wp2_with fail
                go_roundw
                case rel => exact ⟨trivial, k + 1, by omega, by go_num, Lib.hid (fun z hz => by
                  rw [List.take_add_one, HY.out] at hz
                  rcases List.mem_append.1 hz with hz | hz
                  · exact hI.out z hz
                  · simp at hz
                    subst hz
                    exact ⟨y1, y2⟩)⟩
                case measure => simp [intOf]; omega
              · obtain rfl : b = false := by
                  cases b
                  · rfl
                  · exact absurd ((HB.out.1 rfl).2.2.2.1 y hmem.out) (fun h => y2 h.2)
                go_wp2_with fail
                go_ret
                exact ⟨rfl, X1.out⟩
            · obtain rfl : b = false := by
                cases b
                · rfl
                · exact absurd ((HB.out.1 rfl).2.2.2.1 y hmem.out) (fun h => y1 h.1)
              go_wp2_with fail
              go_ret
              exact ⟨rfl, X1.out⟩
          · have hm' : fs.take k = fs := List.take_of_length_le (by have := HF.out; omega)
            rw [hm'] at hI
            clear hm'
            go_wp2_with fail
            rename World => w3
            go_loopw [5, 6, 7, 8, 48] (fun _ _ _ _ j wr => Ext w3 wr ∧ ∃ k : Nat, k ≤ n ∧ j = .int .i64 k ∧ Hid (∀ (i : Nat) (x : Nd), i < k → ns[i]? = some x → NdMay fs i x)) (fun _ _ _ _ j _ => n - (intOf j).toNat)
            case atStart => exact ⟨Ext.refl _, 0, Nat.zero_le _, rfl, fun i x hi => by omega⟩
            case round =>
              obtain ⟨hx3, k, hk, rfl, hall⟩ := hrel
              rename World => w4
              by_cases hlt : k < n
              · obtain ⟨x, hxk⟩ : ∃ x, ns[k]? = some x := ⟨_, List.getElem?_eq_getElem (by have := HL.out; omega)⟩
                have h4 := h1.out.to hx3
                obtain ⟨ad, rfl, hn0⟩ := h4.nodeAt hxk
                have HXK := Lib.hid hxk
                have hok := h4.ok x (List.mem_of_getElem? hxk)
                clear hxk
                obtain ⟨w5, hw5⟩ : ∃ w5, w5 = w4.alloc (.cells x.arr 68) := ⟨_, rfl⟩
                obtain ⟨B5, hx5, _⟩ := box_made hw5
                have hn5 := B5.node
                have HW := Lib.hid (well_is x w5 hok)
                have HH := Lib.hid (has_is B m d fs (k : Int) w5 hm (h4.to hx5).free)
                have q1 : w5.cell? ⟨w.heap.size, 1, none⟩ = some (.slice B m d) := ((HB1.out.to hx3).to hx5).cell 1
                have H5 := Lib.hid hw5
                have X5 := Lib.hid hx5
                have HB5 := Lib.hid B5
                obtain ⟨t, ht⟩ : ∃ t, t = decide x.WellP := ⟨_, rfl⟩
                rw [← ht] at HW
                have HT := Lib.hid ht
                obtain ⟨q, hq⟩ : ∃ q : Int, q = ((cnt fs k : Nat) : Int) := ⟨_, rfl⟩
                rw [← hq] at HH
                have HQ := Lib.hid hq
                obtain ⟨kk, hkk⟩ : ∃ kk, kk = x.k := ⟨_, rfl⟩
                have HK := Lib.hid hkk
                have HBad := Lib.hid (fun (h : ¬ NdMay fs k x) => show b = false by
                  cases b
                  · rfl
                  · exact absurd ((HB.out.1 rfl).2.2.2.2 k x HXK.out) h)
                have HGood := Lib.hid (fun (h : NdMay fs k x) (i : Nat) (y : Nd) (hi : i < k + 1) (hy : ns[i]? = some y) => show NdMay fs i y by
                  by_cases e : i = k
                  · subst e
                    rw [HXK.out] at hy
                    injection hy with hy
                    subst hy
                    exact h
                  · exact hall.out i y (by omega) hy)
                have hq0 : 0 ≤ q := by omega
                clear B5 hw5 hx5 hok ht hq hkk h4
                go_wp2_with (first
                  | (refine wpList_load_nd (by rfl) _ (by rfl) _ (by rfl) x hn0 ?_)
                  | (refine wpList_load_nd (by rfl) _ (by rfl) _ (by rfl) x hn5 ?_)
                  | (refine wpList_store_nd (W := w4) (by rfl) _ _ (by rfl) (by rfl) x (by rfl) _ (by rfl) (by rfl) ?_; rw [← H5.out]))
                refine HH.out.mono ?_; rintro e w6 ⟨rfl, rfl⟩
                go_wp2_with (refine wpList_load_nd (by rfl) _ (by rfl) _ (by rfl) x hn5 ?_)
                refine HW.out.mono ?_; rintro e w6 ⟨rfl, hx6⟩
                have B6 := HB5.out.to hx6
                have c0 : w6.cell? ⟨w4.heap.size, 0, none⟩ = some (.int .i64 kk) := by rw [HK.out]; exact (B6.cell 0).trans x.a0
                have c1 : w6.cell? ⟨w4.heap.size, 1, none⟩ = some (.int .i64 x.g) := (B6.cell 1).trans x.a1
                have X6 := Lib.hid (hx3.step (X5.out.step hx6))
                have HB6 := Lib.hid B6
                clear B6
                cases t
                · obtain rfl := HBad.out (fun h => of_decide_eq_false HT.out.symm h.1)
                  go_wp2_with fail
                  go_ret
                  exact ⟨rfl, X1.out.step X6.out⟩
                · have HWp := Lib.hid (of_decide_eq_true HT.out.symm)
                  rcases (by omega : q = 0 ∨ q = 1 ∨ 1 < q) with rfl | rfl | hq2
                  · have HC := Lib.hid (show cnt fs k = 0 by have := HQ.out; omega)
                    by_cases hz : kk = 0
                    · subst hz
                      obtain rfl := HBad.out (fun h => by have := h.2.2.1.2 HK.out.symm; have := HC.out; omega)
                      go_wp2_with fail
                      go_ret
                      exact ⟨rfl, X1.out.step X6.out⟩
                    · have hz0 : (kk == 0) = false := by simp [hz]
                      have HG := Lib.hid (HGood.out ⟨HWp.out, by have := HC.out; omega, ⟨fun h => by have := HC.out; omega, fun h => absurd (HK.out.trans h) hz⟩, fun h => by have := HC.out; omega⟩)
                      obtain ⟨w7, hw7⟩ : ∃ w7, w7 = w6.alloc (.cells (bare x.g).arr 68) := ⟨_, rfl⟩
                      obtain ⟨B7, hx7, _⟩ := box_made hw7
                      have hb7 := B7.node
                      have hn7 := (HB6.out.to hx7).node
                      have X7 := Lib.hid (X6.out.step hx7)
                      have H7 := Lib.hid hw7
                      clear B7 hw7 hx7
                      go_wp2_with (refine wpList_store_nd (W := w6) (by rfl) _ _ (by rfl) (by rfl) (bare x.g) (by rfl) _ (by rfl) (by rfl) ?_; rw [← H7.out])
                      go_wp2_with fail
                      go_roundw
                      case rel => exact ⟨X7.out, k + 1, by omega, by go_num, HG⟩
                      case measure => simp [intOf]; omega
                  · have HC := Lib.hid (show cnt fs k = 1 by have := HQ.out; omega)
                    by_cases hz : kk = 0
                    · subst hz
                      obtain ⟨u, hu⟩ : ∃ u, u = decide (x = bare x.g) := ⟨_, rfl⟩
                      have heq : ∀ W, (Op.equalIn 10000 68 (.agg x.arr) (.agg (bare x.g).arr)).run Try.prog W = .ok u W := fun W => by rw [hu]; exact nd_eq x (bare x.g) W
                      have HU := Lib.hid hu
                      clear hu
                      obtain ⟨w7, hw7⟩ : ∃ w7, w7 = w6.alloc (.cells (bare x.g).arr 68) := ⟨_, rfl⟩
                      obtain ⟨B7, hx7, _⟩ := box_made hw7
                      have hb7 := B7.node
                      have hn7 := (HB6.out.to hx7).node
                      have X7 := Lib.hid (X6.out.step hx7)
                      have H7 := Lib.hid hw7
                      clear B7 hw7 hx7
                      cases u
                      · obtain rfl := HBad.out (fun h => of_decide_eq_false HU.out.symm (h.2.2.2 HC.out))
                        go_wp2_with (first
                          | (refine wpList_store_nd (W := w6) (by rfl) _ _ (by rfl) (by rfl) (bare x.g) (by rfl) _ (by rfl) (by rfl) ?_; rw [← H7.out])
                          | (refine wpList_load_nd (by rfl) _ (by rfl) _ (by rfl) x hn7 ?_)
                          | (refine wpList_load_nd (by rfl) _ (by rfl) _ (by rfl) (bare x.g) hb7 ?_))
                        go_ret
                        exact ⟨rfl, X1.out.step X7.out⟩
                      · have HG := Lib.hid (HGood.out ⟨HWp.out, by have := HC.out; omega, ⟨fun _ => HK.out.symm, fun _ => HC.out⟩, fun _ => of_decide_eq_true HU.out.symm⟩)
                        go_wp2_with (first
                          | (refine wpList_store_nd (W := w6) (by rfl) _ _ (by rfl) (by rfl) (bare x.g) (by rfl) _ (by rfl) (by rfl) ?_; rw [← H7.out])
                          | (refine wpList_load_nd (by rfl) _ (by rfl) _ (by rfl) x hn7 ?_)
                          | (refine wpList_load_nd (by rfl) _ (by rfl) _ (by rfl) (bare x.g) hb7 ?_))
                        go_roundw
                        case rel => exact ⟨X7.out, k + 1, by omega, by go_num, HG⟩
                        case measure => simp [intOf]; omega
                    · have hz0 : (kk == 0) = false := by simp [hz]
                      obtain rfl := HBad.out (fun h => hz (HK.out.trans (h.2.2.1.1 HC.out)))
                      go_wp2_with fail
                      go_ret
                      exact ⟨rfl, X1.out.step X6.out⟩
                  · obtain rfl := HBad.out (fun h => by have := h.2.1; have := HQ.out; omega)
                    go_wp2_with fail
                    go_ret
                    exact ⟨rfl, X1.out.step X6.out⟩
              · obtain rfl : b = true := HB.out.2 ⟨by omega, g2, g3, hI.out, fun i x hi => hall.out i x (by
                  have := (List.getElem?_eq_some_iff.1 hi).1
                  have := HL.out
                  omega) hi⟩
                go_wp2_with fail
                go_ret
                exact ⟨rfl, X1.out.step hx3⟩
      · obtain rfl : b = false := by
          cases b
          · rfl
          · exact absurd (HB.out.1 rfl).2.2.1 g3
        go_enter Try.func15, Try.ntmps15
        go_wp2_with fail
        go_ret
        exact ⟨rfl, (Ext.refl w).new _⟩
    · obtain rfl : b = false := by
        cases b
        · rfl
        · exact absurd (HB.out.1 rfl).2.1 g2
      go_enter Try.func15, Try.ntmps15
      go_wp2_with fail
      go_ret
      exact ⟨rfl, (Ext.refl w).new _⟩

end Go.Proofs.Ytfoifcbaadnigaa

/-
  A region that draws its order, and whose callees only read and make: one walk, in the text's order, in whatever later world.
-/
set_option linter.unusedVariables false
set_option linter.unusedSimpArgs false
namespace Go.Proofs.Ytfoifcbaadnigaa
open Go.RowKit

/-- A world in which all of w0's blocks are as they were. -/
structure Later (w0 : World) where
  w : World
  ext : Ext w0 w

instance (w0 : World) : Nonempty (Later w0) := ⟨⟨w0, Ext.refl _⟩⟩

theorem wp_region_later {P : Program} {id : Nat} {Q : Exit → Act → World → Prop} {a : Act} {w : World} {l : List Oper} (w0 : World) (h0 : Ext w0 w) (hm : P.follows .mixedOrders = true) (hB : Region.lexB .any l.toArray = true)
    (h : wpQuiet P l.toArray (fun w' => ∃ q : Later w0, w' = q.w) (fun a' => ∀ w', (∃ q : Later w0, w' = q.w) → Q .normal a' w') l a) : (Code.region id l.toArray true).wp P Q a w :=
  wp_region_quiet (C := fun w' => ∃ q : Later w0, w' = q.w) hm hB ⟨⟨w.drew, h0.drew⟩, rfl⟩ (by simpa using h)

theorem later_call {P : Program} {f : FuncId} {args : Array Value} {w0 : World} {q : Later w0} {v : Value} (h : ∀ W, Ext w0 W → Calls P f args W fun e w' => e = .returned v ∧ Ext W w') :
    Calls P f args q.w fun e w'' => e = .returned v ∧ ∃ q' : Later w0, w'' = q'.w :=
  (h q.w q.ext).mono fun _ w' ⟨he, hx⟩ => ⟨he, ⟨w', q.ext.step hx⟩, rfl⟩
theorem later_same {P : Program} {f : FuncId} {args : Array Value} {w0 : World} {q : Later w0} {v : Value} (h : ∀ W, Ext w0 W → Calls P f args W fun e w' => e = .returned v ∧ W = w') :
    Calls P f args q.w fun e w'' => e = .returned v ∧ ∃ q' : Later w0, w'' = q'.w :=
  (h q.w q.ext).mono fun _ w' ⟨he, hx⟩ => ⟨he, q, hx.symm⟩

end Go.Proofs.Ytfoifcbaadnigaa

/-
  Contracts: what a reference has (taken, Get).
-/
set_option linter.unusedVariables false
set_option linter.unusedSimpArgs false
namespace Go.Proofs.Ytfoifcbaadnigaa
open Go.RowKit

/-- A reference has the node x, at place p. -/
structure Got (ns : List Nd) (r : Int) (p : Nat) (x : Nd) : Prop where
  node : Node r
  place : r % 65536 = p + 1
  at_ : ns[p]? = some x
  kind : x.k ≠ 0
  gen : x.g = r / 65536
def Gone (ns : List Nd) (r : Int) : Prop := ∀ p x, ¬ Got ns r p x

theorem setCells_only (b : Nat) : ∀ (cs : List Value) (o : Nat) (W W0 : World), Only b W0 W → Only b W0 (W.setCells b o cs)
  | [], _, _, _, h => h
  | c :: cs, o, W, W0, h => setCells_only b cs (o + 1) _ W0 (h.set o c)
theorem Bx.stored {w : World} {b : Nat} {cs : Array Value} (h : Bx w b cs) {ds : Array Value} (hs : cs.size = ds.size) : Bx (w.setCells b 0 ds.toList) b ds := by
  have hin : ∀ j, j < ds.toList.length → (w.cell? ⟨b, 0 + j, none⟩).isSome = true := fun j hj => by
    rw [Nat.zero_add, h.cell j, Array.getElem?_eq_getElem (by simpa [hs] using hj)]; rfl
  refine ⟨Nat.lt_of_lt_of_le h.lt (setCells_only b ds.toList 0 w w (Only.refl b w)).size, fun j => ?_, fun j => by rw [World.frozen?_setCells]; exact h.free j⟩
  by_cases hj : j < ds.size
  · have := World.cell?_setCells_in b ds.toList 0 w hin j (by simpa using hj)
    rw [Nat.zero_add] at this
    rw [this]
    simp [hj]
  · rw [World.cell?_setCells_out b ds.toList 0 w ⟨b, j, none⟩ (fun _ _ => by right; simpa using hj), h.cell j, Array.getElem?_eq_none (by omega), Array.getElem?_eq_none (by omega)]

/-- THE OPERATION: a whole node goes into a variable of the call's own. -/
theorem wpList_store_box {ops : Array Oper} {rest : List Oper} {o : Oper} {a : Act} {w : World} {Q : Exit → Act → World → Prop} (hgd : Region.wanted o (yielded ops a.tmps) = true) (x y : Operand) (ho : o.op = .store 68 x y)
    (b : Nat) (hx : a.eval x = .pointer (some ⟨b, 0, none⟩)) (n : Nd) (hy : a.eval y = .agg n.arr) (cs : Array Value) (hB : Bx w b cs) (hc : cs.size = 16)
    (h : ∀ W, Bx W b n.arr → Only b w W → wpList Try.prog ops Q rest (a.put o.dst undef) W) : wpList Try.prog ops Q (o :: rest) a w := by
  have ht : w.there b 0 n.arr.size := fun j hj => by
    rw [Nat.zero_add]
    refine ⟨?_, hB.free j⟩
    rw [hB.cell j, Array.getElem?_eq_getElem (by rw [hc]; exact hj)]; rfl
  exact Go.BigFrame.wpList_want hgd fun K hK => by
    unfold Oper.wp execOp
    simp only [ho, hx, hy, Sem.run_bind, run_storeAt_mid (P := Try.prog) w b 0 68 n.arr ht (by kernel_rfl) n.arr_one, Sem.run_pure, Result.andThen_ok]
    exact hK _ _ (h _ (hB.stored (by rw [hc]; rfl)) (setCells_only b _ 0 w w (Only.refl b w)))

/-- Two results, the first one a node in a variable. -/
theorem results_nd {fn : Func} {p u : Tmp} (h : fn.results = #[.cell p 68, .tmp u]) (tmps : Array Value) (w : World) (A : Addr) (x : Nd) (hp : tmps.getD p undef = .pointer (some A)) (hn : NdAt w A x) :
    (results fn tmps).run Try.prog w = .ok (.tuple #[.agg x.arr, tmps.getD u undef]) w := by
  have hl := run_loadVar_any (P := Try.prog) w A 68 x.arr _ (fun j v hv => hn j v (by rw [← Nd.arr_get]; exact hv)) Try.underlying68 rfl (by kernel_rfl)
  rw [results_cell_tmp h]
  simp only [hp]
  show (Result.ok A w).andThen _ = _
  simp only [Result.andThen_ok, hl]

theorem taken_no (A : Option Addr) (n c : Nat) (B : Value) (ns : List Nd) (y : Int) (w : World) (h : Rd w 16 A n (flat Nd.cells ns)) (hno : ∀ (p : Nat) (x : Nd), y = p → ns[p]? = some x → x.k = 0) :
    Calls Try.prog 71 #[.agg #[.slice A n c, B], .int .i64 y] w fun e w' => e = .returned (.bool false) ∧ Ext w w' := by
  have hl : ns.length = n := by
    have := h.1
    rw [flat_length Nd.cells_length] at this
    omega
  have HL := Lib.hid hl
  have hw := Lib.hid (fun W => within_is y n W)
  by_cases hin : In y n
  · rw [decide_eq_true hin] at hw
    obtain ⟨p, rfl⟩ : ∃ p : Nat, y = p := ⟨y.toNat, by have := hin.1; omega⟩
    have hp : p < n := by have := hin.2; omega
    obtain ⟨x, hx⟩ : ∃ x, ns[p]? = some x := ⟨_, List.getElem?_eq_getElem (by omega)⟩
    have hk := hno p x rfl hx
    obtain ⟨ad, rfl, hn⟩ := NdAt.of h hx
    have hn1 := hn.to ((Ext.refl w).new (.cells #[.slice (some ad) n c, B] 26))
    have c0 : (w.alloc (.cells #[.slice (some ad) n c, B] 26)).cell? (ad.add (p * 16)) = some (.int .i64 0) := by
      have := hn1 0 (.int .i64 x.k) rfl
      rw [hk] at this
      exact this
    clear hno hin hx hl h hn hn1 hk
    go_enter Try.func71, Try.ntmps71
    go_wp2_with fail
    refine (hw.out _).mono ?_; rintro e w1 ⟨rfl, rfl⟩
    go_wp2_with fail
    go_ret
    exact ⟨rfl, (Ext.refl w).new _⟩
  · rw [decide_eq_false hin] at hw
    clear hin hno
    go_enter Try.func71, Try.ntmps71
    go_wp2_with fail
    refine (hw.out _).mono ?_; rintro e w1 ⟨rfl, rfl⟩
    go_wp2_with fail
    go_ret
    exact ⟨rfl, (Ext.refl w).new _⟩

theorem taken_yes (A : Option Addr) (n c : Nat) (B : Value) (ns : List Nd) (p : Nat) (x : Nd) (w : World) (h : Rd w 16 A n (flat Nd.cells ns)) (hx : ns[p]? = some x) (hk : x.k ≠ 0) :
    Calls Try.prog 71 #[.agg #[.slice A n c, B], .int .i64 p] w fun e w' => e = .returned (.bool true) ∧ Ext w w' := by
  have hl : ns.length = n := by
    have := h.1
    rw [flat_length Nd.cells_length] at this
    omega
  have hp : p < n := by have := (List.getElem?_eq_some_iff.1 hx).1; omega
  have hw := Lib.hid (fun W => within_is (p : Int) n W)
  rw [decide_eq_true (show In (p : Int) n from ⟨by omega, by omega⟩)] at hw
  obtain ⟨ad, rfl, hn⟩ := NdAt.of h hx
  have hn1 := hn.to ((Ext.refl w).new (.cells #[.slice (some ad) n c, B] 26))
  have c0 : (w.alloc (.cells #[.slice (some ad) n c, B] 26)).cell? (ad.add (p * 16)) = some (.int .i64 x.k) := hn1 0 (.int .i64 x.k) rfl
  have hk0 : (x.k == 0) = false := by simp [hk]
  have hk1 : (x.k != 0) = true := by simp [hk]
  obtain ⟨kk, hkk⟩ : ∃ kk, kk = x.k := ⟨_, rfl⟩
  rw [← hkk] at c0 hk0 hk1 hk
  clear hx hl h hn hn1 hkk
  go_enter Try.func71, Try.ntmps71
  go_wp2_with fail
  refine (hw.out _).mono ?_; rintro e w1 ⟨rfl, rfl⟩
  go_wp2_with fail
  go_ret
  exact ⟨rfl, (Ext.refl w).new _⟩

set_option maxHeartbeats 1600000 in
theorem get_yes (A : Option Addr) (n c m d : Nat) (B : Option Addr) (ns : List Nd) (r : Int) (p : Nat) (x : Nd) (w : World) (h0 : 0 ≤ r) (h1 : r ≤ 18446744073709551615) (h : Rd w 16 A n (flat Nd.cells ns)) (hg : Got ns r p x) :
    Calls Try.prog 51 #[.agg #[.slice A n c, .slice B m d], .int .u64 r] w fun e w' => e = .returned (.tuple #[.agg x.arr, .int .i64 0]) ∧ Ext w w' := by
  obtain ⟨w1, hw1⟩ : ∃ w1, w1 = w.alloc (.cells #[.slice A n c, .slice B m d] 26) := ⟨_, rfl⟩
  obtain ⟨w2, hw2⟩ : ∃ w2, w2 = w1.alloc (.cells #[.int .i64 0, .int .i64 0, .int .i64 0, .int .i64 0, .int .i64 0, .int .u64 0, .int .u64 0, .int .u64 0, .int .u64 0, .int .u64 0, .int .u64 0, .int .u64 0, .int .u64 0, .int .u64 0, .int .i64 0, .int .i64 0] 68) := ⟨_, rfl⟩
  obtain ⟨B1, hx1, hs1⟩ := box_made hw1
  obtain ⟨B2, hx2, hs2⟩ := box_made hw2
  rw [hs1] at B2
  have hl : ns.length = n := by
    have := h.1
    rw [flat_length Nd.cells_length] at this
    omega
  have hp : p < n := by have := (List.getElem?_eq_some_iff.1 hg.at_).1; omega
  obtain ⟨ad, rfl, hn⟩ := NdAt.of (h.to (hx1.step hx2)) hg.at_
  have HT := Lib.hid (fun W (hW : Ext w2 W) => taken_yes (some ad) n c (.slice B m d) ns p x W ((h.to (hx1.step hx2)).to hW) hg.at_ hg.kind)
  have HP := Lib.hid (fun W => Place_yes r W h0 h1 hg.node)
  rw [show r % 65536 - 1 = (p : Int) by rw [hg.place]; omega] at HP
  have HG := Lib.hid (fun W => Gen_yes r W h0 h1 hg.node)
  rw [← hg.gen] at HG
  have H1 := Lib.hid hw1
  have H2 := Lib.hid hw2
  have X2 := Lib.hid (hx1.step hx2)
  have HS := Lib.hid (fun W (hW : Ext w2 W) => show W.cell? ⟨w.heap.size, 0, none⟩ = some (.slice (some ad) n c) ∧ W.cell? ⟨w.heap.size, 1, none⟩ = some (.slice B m d) ∧ W.cell? { block := (ad.add (p * 16)).block, off := (ad.add (p * 16)).off + 1 } = some (.int .i64 x.g) from
    ⟨((B1.to hx2).to hW).cell 0, ((B1.to hx2).to hW).cell 1, (hn.to hW) 1 _ rfl⟩)
  have HN := Lib.hid hn
  have HB := Lib.hid B2
  have HBA := Lib.hid (B1.to hx2)
  clear hw1 hw2 B1 B2 hx1 hx2 hs1 hs2 hl hg h hn
  go_enter Try.func51, Try.ntmps51
  go_wp2_with fail
  refine (HP.out _).mono ?_; rintro e w3 ⟨rfl, rfl⟩
  rw [← H1.out, ← H2.out]
  go_wp2_with fail
  go_cut [23] (fun t wx => t = .bool false ∧ Ext w2 wx)
  case first =>
    go_region_held3 (fun W => W.cell? ⟨w.heap.size, 0, none⟩ = some (.slice (some ad) n c) ∧ W.cell? ⟨w.heap.size, 1, none⟩ = some (.slice B m d) ∧ W.cell? { block := (ad.add (p * 16)).block, off := (ad.add (p * 16)).off + 1 } = some (.int .i64 x.g)) (first | exact HS.out _ (Ext.refl w2).drew | exact HS.out _ hx8) (first
      | (go_at_call 71; refine (HT.out _ (Ext.refl w2).drew).mono ?_; rintro e w8 ⟨rfl, hx8'⟩; have hx8 : Ext w2 w8 := hx8'.undrew; clear hx8')
      | (go_at_call 72; refine (HG.out _).mono ?_; rintro e w9 ⟨rfl, rfl⟩))
    all_goals go_wp2_with fail
    all_goals go_meet
    all_goals exact ⟨rfl, hx8⟩
  case rest =>
    obtain ⟨rfl, hx⟩ := hcut
    rename World => wq
    have q0 : wq.cell? ⟨w.heap.size, 0, none⟩ = some (.slice (some ad) n c) := (HBA.out.to hx).cell 0
    have hnq := HN.out.to hx
    have hbq := HB.out.to hx
    have HX := Lib.hid (X2.out.step hx)
    have HE := Lib.hid (X2.out)
    go_wp2_with (first
      | (refine wpList_load_nd (by rfl) _ (by rfl) _ (by rfl) x hnq ?_)
      | (refine wpList_store_box (by rfl) _ _ (by rfl) _ (by rfl) x (by rfl) _ hbq rfl ?_; intro wz hbz hoz))
    refine bodyPost_ret (results_nd rfl _ _ ⟨w.heap.size + 1, 0, none⟩ x (by rfl) hbz.node) rfl ⟨rfl, ?_⟩
    exact hoz.new HX.out (by omega)

theorem bare_zero : #[.int .i64 0, .int .i64 0, .int .i64 0, .int .i64 0, .int .i64 0, .int .u64 0, .int .u64 0, .int .u64 0, .int .u64 0, .int .u64 0, .int .u64 0, .int .u64 0, .int .u64 0, .int .u64 0, .int .i64 0, .int .i64 0] = (bare 0).arr := rfl

set_option maxHeartbeats 1600000 in
theorem get_no (A : Option Addr) (n c m d : Nat) (B : Option Addr) (ns : List Nd) (r : Int) (w : World) (h0 : 0 ≤ r) (h1 : r ≤ 18446744073709551615) (h : Rd w 16 A n (flat Nd.cells ns)) (hg : Gone ns r) :
    Calls Try.prog 51 #[.agg #[.slice A n c, .slice B m d], .int .u64 r] w fun e w' => e = .returned (.tuple #[.agg (bare 0).arr, .int .i64 4]) ∧ Ext w w' := by
  obtain ⟨w1, hw1⟩ : ∃ w1, w1 = w.alloc (.cells #[.slice A n c, .slice B m d] 26) := ⟨_, rfl⟩
  obtain ⟨w2, hw2⟩ : ∃ w2, w2 = w1.alloc (.cells #[.int .i64 0, .int .i64 0, .int .i64 0, .int .i64 0, .int .i64 0, .int .u64 0, .int .u64 0, .int .u64 0, .int .u64 0, .int .u64 0, .int .u64 0, .int .u64 0, .int .u64 0, .int .u64 0, .int .i64 0, .int .i64 0] 68) := ⟨_, rfl⟩
  obtain ⟨B1, hx1, hs1⟩ := box_made hw1
  obtain ⟨B2, hx2, hs2⟩ := box_made hw2
  rw [hs1] at B2
  have hl : ns.length = n := by
    have := h.1
    rw [flat_length Nd.cells_length] at this
    omega
  have H1 := Lib.hid hw1
  have H2 := Lib.hid hw2
  have X2 := Lib.hid (hx1.step hx2)
  have HR := Lib.hid (h.to (hx1.step hx2))
  have HB := Lib.hid B2
  have HBA := Lib.hid (B1.to hx2)
  have HL := Lib.hid hl
  clear hw1 hw2 B1 B2 hx1 hx2 hs1 hs2 hl h
  by_cases hr : Node r
  · have HP := Lib.hid (fun W => Place_yes r W h0 h1 hr)
    have HG := Lib.hid (fun W => Gen_yes r W h0 h1 hr)
    obtain ⟨p, hp⟩ : ∃ p : Nat, r % 65536 = p + 1 := ⟨(r % 65536 - 1).toNat, by have := hr.1; omega⟩
    rw [show r % 65536 - 1 = (p : Int) by rw [hp]; omega] at HP
    by_cases hx : ∃ x, ns[p]? = some x ∧ x.k ≠ 0
    · obtain ⟨x, hx, hk⟩ := hx
      have hgn : x.g ≠ r / 65536 := fun e => hg p x ⟨hr, hp, hx, hk, e⟩
      have HT := Lib.hid (fun W (hW : Ext w2 W) => taken_yes A n c (.slice B m d) ns p x W (HR.out.to hW) hx hk)
      obtain ⟨ad, rfl, hn⟩ := NdAt.of HR.out hx
      have HS := Lib.hid (fun W (hW : Ext w2 W) => show W.cell? ⟨w.heap.size, 0, none⟩ = some (.slice (some ad) n c) ∧ W.cell? ⟨w.heap.size, 1, none⟩ = some (.slice B m d) ∧ W.cell? { block := (ad.add (p * 16)).block, off := (ad.add (p * 16)).off + 1 } = some (.int .i64 x.g) from
        ⟨(HBA.out.to hW).cell 0, (HBA.out.to hW).cell 1, (hn.to hW) 1 _ rfl⟩)
      have hpn : p < n := by have := (List.getElem?_eq_some_iff.1 hx).1; have := HL.out; omega
      obtain ⟨g', hg'⟩ : ∃ g', g' = r / 65536 := ⟨_, rfl⟩
      rw [← hg'] at HG hgn
      obtain ⟨xg, hxg⟩ : ∃ xg, xg = x.g := ⟨_, rfl⟩
      rw [← hxg] at HS hgn
      have hne : (xg == g') = false := by simp [hgn]
      have hne' : (xg != g') = true := by simp [hgn]
      clear hx hk hn hg' hxg hr hp hg
      go_enter Try.func51, Try.ntmps51
      go_wp2_with fail
      refine (HP.out _).mono ?_; rintro e w3 ⟨rfl, rfl⟩
      rw [← H1.out, ← H2.out]
      go_wp2_with fail
      go_cut [23] (fun t wx => t = .bool true ∧ Ext w2 wx)
      case first =>
        have s0 := fun q : Later w2 => (HS.out q.w q.ext).1
        have s1 := fun q : Later w2 => (HS.out q.w q.ext).2.1
        have s2 := fun q : Later w2 => (HS.out q.w q.ext).2.2
        refine wp_region_later w2 (Ext.refl _) (by kernel_rfl) (by kernel_rfl) ?_
        repeat (go_big_quiet_step (first
          | (go_at_call 71; exact later_call HT.out)
          | (go_at_call 72; exact later_same (fun W _ => HG.out W))))
        refine wpQuiet_nil ?_
        rintro _ ⟨q, rfl⟩
        go_wp2_with fail
        go_meet
        exact ⟨rfl, q.ext⟩
      case rest =>
        obtain ⟨rfl, hx⟩ := hcut
        rename World => wq
        have hbq := HB.out.to hx
        have HX := Lib.hid (X2.out.step hx)
        go_wp2_with (first
          | (refine wpList_store_box (by rfl) _ _ (by rfl) _ (by rfl) (bare 0) (by rfl) _ hbq rfl ?_; intro wz hbz hoz))
        refine bodyPost_ret (results_nd rfl _ _ ⟨w.heap.size + 1, 0, none⟩ (bare 0) (by rfl) hbz.node) rfl ⟨rfl, ?_⟩
        exact hoz.new HX.out (by omega)
    · have HT := Lib.hid (fun W (hW : Ext w2 W) => taken_no A n c (.slice B m d) ns (p : Int) W (HR.out.to hW) (fun p' x e hx' => by
        have : p' = p := by omega
        subst this
        by_cases hk : x.k = 0
        · exact hk
        · exact absurd ⟨x, hx', hk⟩ hx))
      have HS := Lib.hid (fun W (hW : Ext w2 W) => show W.cell? ⟨w.heap.size, 0, none⟩ = some (.slice A n c) ∧ W.cell? ⟨w.heap.size, 1, none⟩ = some (.slice B m d) from
        ⟨(HBA.out.to hW).cell 0, (HBA.out.to hW).cell 1⟩)
      clear hg
      go_enter Try.func51, Try.ntmps51
      go_wp2_with fail
      refine (HP.out _).mono ?_; rintro e w3 ⟨rfl, rfl⟩
      rw [← H1.out, ← H2.out]
      go_wp2_with fail
      go_cut [23] (fun t wx => t = .bool true ∧ Ext w2 wx)
      case first =>
        have s0 := fun q : Later w2 => (HS.out q.w q.ext).1
        have s1 := fun q : Later w2 => (HS.out q.w q.ext).2
        refine wp_region_later w2 (Ext.refl _) (by kernel_rfl) (by kernel_rfl) ?_
        repeat (go_big_quiet_step (first
          | (go_at_call 71; exact later_call HT.out)))
        refine wpQuiet_nil ?_
        rintro _ ⟨q, rfl⟩
        go_wp2_with fail
        go_meet
        exact ⟨rfl, q.ext⟩
      case rest =>
        obtain ⟨rfl, hx⟩ := hcut
        rename World => wq
        have hbq := HB.out.to hx
        have HX := Lib.hid (X2.out.step hx)
        go_wp2_with (first
          | (refine wpList_store_box (by rfl) _ _ (by rfl) _ (by rfl) (bare 0) (by rfl) _ hbq rfl ?_; intro wz hbz hoz))
        refine bodyPost_ret (results_nd rfl _ _ ⟨w.heap.size + 1, 0, none⟩ (bare 0) (by rfl) hbz.node) rfl ⟨rfl, ?_⟩
        exact hoz.new HX.out (by omega)
  · have HP := Lib.hid (fun W => Place_no r W h0 h1 hr)
    obtain ⟨y, hy⟩ : ∃ y : Int, y = -1 := ⟨_, rfl⟩
    rw [← hy] at HP
    have HT := Lib.hid (fun W (hW : Ext w2 W) => taken_no A n c (.slice B m d) ns y W (HR.out.to hW) (fun p x e => by omega))
    clear hy
    have HS := Lib.hid (fun W (hW : Ext w2 W) => show W.cell? ⟨w.heap.size, 0, none⟩ = some (.slice A n c) ∧ W.cell? ⟨w.heap.size, 1, none⟩ = some (.slice B m d) from
      ⟨(HBA.out.to hW).cell 0, (HBA.out.to hW).cell 1⟩)
    clear hg
    go_enter Try.func51, Try.ntmps51
    go_wp2_with fail
    refine (HP.out _).mono ?_; rintro e w3 ⟨rfl, rfl⟩
    rw [← H1.out, ← H2.out]
    go_wp2_with fail
    go_cut [23] (fun t wx => t = .bool true ∧ Ext w2 wx)
    case first =>
      have s0 := fun q : Later w2 => (HS.out q.w q.ext).1
      have s1 := fun q : Later w2 => (HS.out q.w q.ext).2
      refine wp_region_later w2 (Ext.refl _) (by kernel_rfl) (by kernel_rfl) ?_
      repeat (go_big_quiet_step (first
        | (go_at_call 71; exact later_call HT.out)))
      refine wpQuiet_nil ?_
      rintro _ ⟨q, rfl⟩
      go_wp2_with fail
      go_meet
      exact ⟨rfl, q.ext⟩
    case rest =>
      obtain ⟨rfl, hx⟩ := hcut
      rename World => wq
      have hbq := HB.out.to hx
      have HX := Lib.hid (X2.out.step hx)
      go_wp2_with (first
        | (refine wpList_store_box (by rfl) _ _ (by rfl) _ (by rfl) (bare 0) (by rfl) _ hbq rfl ?_; intro wz hbz hoz))
      refine bodyPost_ret (results_nd rfl _ _ ⟨w.heap.size + 1, 0, none⟩ (bare 0) (by rfl) hbz.node) rfl ⟨rfl, ?_⟩
      exact hoz.new HX.out (by omega)

end Go.Proofs.Ytfoifcbaadnigaa

/-
  Contracts: the place of a reference's node, as the document tells it (At).
-/
set_option linter.unusedVariables false
set_option linter.unusedSimpArgs false
namespace Go.Proofs.Ytfoifcbaadnigaa
open Go.RowKit

theorem NdAt.kc {w : World} {a : Addr} {x : Nd} (h : NdAt w a x) : w.cell? a = some (.int .i64 x.k) := h 0 _ rfl
theorem NdAt.gc {w : World} {a : Addr} {x : Nd} (h : NdAt w a x) : w.cell? { block := a.block, off := a.off + 1 } = some (.int .i64 x.g) := h 1 _ rfl

set_option maxHeartbeats 1600000 in
theorem at_yes (A : Option Addr) (n c m d : Nat) (B : Option Addr) (ns : List Nd) (r : Int) (p : Nat) (x : Nd) (w : World) (h0 : 0 ≤ r) (h1 : r ≤ 18446744073709551615) (h : Rd w 16 A n (flat Nd.cells ns)) (hg : Got ns r p x) :
    Calls Try.prog 27 #[.agg #[.slice A n c, .slice B m d], .int .u64 r] w fun e w' => e = .returned (.int .i64 p) ∧ Ext w w' := by
  obtain ⟨w1, hw1⟩ : ∃ w1, w1 = w.alloc (.cells #[.slice A n c, .slice B m d] 26) := ⟨_, rfl⟩
  obtain ⟨B1, hx1, hs1⟩ := box_made hw1
  have hl : ns.length = n := by
    have := h.1
    rw [flat_length Nd.cells_length] at this
    omega
  have hpn : p < n := by have := (List.getElem?_eq_some_iff.1 hg.at_).1; omega
  have hnp : ¬ n ≤ p := by omega
  have hG := fun W => want_gen r W h0 h1
  rw [if_pos hg.node, ← hg.gen] at hG
  have HG := Lib.hid hG
  have hr0 : ¬ r = 0 := fun e => by have := hg.node.1; subst e; simp at this
  have hr0' : (r == 0) = false := by simp [hr0]
  have hr1 : r % 65536 = p + 1 := hg.place
  have hg0 : ¬ x.g < 0 := by rw [hg.gen]; omega
  obtain ⟨ad, rfl, hn⟩ := NdAt.of (h.to hx1) hg.at_
  have s0 := fun q : Later w1 => (B1.to q.ext).cell 0
  have s1 := fun q : Later w1 => (B1.to q.ext).cell 1
  have s2 := fun q : Later w1 => (hn.to q.ext).kc
  have s3 := fun q : Later w1 => (hn.to q.ext).gc
  simp only [List.getElem?_toArray, List.getElem?_cons_zero, List.getElem?_cons_succ] at s0 s1
  obtain ⟨kk, hkk⟩ : ∃ kk, kk = x.k := ⟨_, rfl⟩
  have hk0 := hg.kind
  rw [← hkk] at s2 hk0
  obtain ⟨gg, hgg⟩ : ∃ gg, gg = x.g := ⟨_, rfl⟩
  rw [← hgg] at s3 HG hg0
  have hk1 : (kk == 0) = false := by simp [hk0]
  have H1 := Lib.hid hw1
  have X1 := Lib.hid hx1
  have S := Lib.hid (And.intro s0 (And.intro s1 (And.intro s2 s3)))
  have HR := Lib.hid (show IntKind.i64.wrap (r % 65536 - 1) = (p : Int) by rw [hr1, IntKind.wrap_i64]; omega)
  clear hG hkk hgg hl hn B1 hw1 hx1 hg h s0 s1 s2 s3
  go_enter Try.func27, Try.ntmps27
  go_wp2_with fail
  refine (HG.out _).mono ?_; rintro e w3 ⟨rfl, rfl⟩
  rw [← H1.out]
  go_wp2_with fail
  obtain ⟨s0, s1, s2, s3⟩ := S.out
  go_cut [41] (fun t wx => t = .bool false ∧ Ext w1 wx)
  case first =>
    refine wp_region_later w1 (Ext.refl _) (by kernel_rfl) (by kernel_rfl) ?_
    repeat (go_big_quiet_step (first | (go_at_call 49; exact later_same (fun W _ => HG.out W))))
    refine wpQuiet_nil ?_
    rintro _ ⟨q, rfl⟩
    go_wp2_with fail
    go_meet
    exact ⟨rfl, q.ext⟩
  case rest =>
    obtain ⟨rfl, hx⟩ := hcut
    clear s0 s1 s2 s3
    go_wp2_with fail
    go_ret
    exact ⟨rfl, X1.out.step hx⟩

set_option maxHeartbeats 1600000 in
theorem at_no (A : Option Addr) (n c m d : Nat) (B : Option Addr) (ns : List Nd) (r : Int) (w : World) (h0 : 0 ≤ r) (h1 : r ≤ 18446744073709551615) (h : Rd w 16 A n (flat Nd.cells ns)) (hg : Gone ns r) :
    Calls Try.prog 27 #[.agg #[.slice A n c, .slice B m d], .int .u64 r] w fun e w' => e = .returned (.int .i64 (-1)) ∧ Ext w w' := by
  obtain ⟨w1, hw1⟩ : ∃ w1, w1 = w.alloc (.cells #[.slice A n c, .slice B m d] 26) := ⟨_, rfl⟩
  obtain ⟨B1, hx1, hs1⟩ := box_made hw1
  have H1 := Lib.hid hw1
  have X1 := Lib.hid hx1
  by_cases hr0 : r = 0
  · subst hr0
    clear hw1 hx1 hs1 B1 hg
    go_enter Try.func27, Try.ntmps27
    go_wp2_with fail
    go_ret
    exact ⟨rfl, (Ext.refl w).new _⟩
  · have hr0' : (r == 0) = false := by simp [hr0]
    have hG := fun W => want_gen r W h0 h1
    by_cases hr : Node r
    · rw [if_pos hr] at hG
      have HG := Lib.hid hG
      obtain ⟨p, hp⟩ : ∃ p : Nat, r % 65536 = p + 1 := ⟨(r % 65536 - 1).toNat, by have := hr.1; omega⟩
      have hl : ns.length = n := by
        have := h.1
        rw [flat_length Nd.cells_length] at this
        omega
      have HL := Lib.hid hl
      have hg0 : ¬ r / 65536 < 0 := by omega
      obtain ⟨gr, hgr⟩ : ∃ gr, gr = r / 65536 := ⟨_, rfl⟩
      rw [← hgr] at HG hg0
      have hr1 : r % 65536 = p + 1 := hp
      have HR := Lib.hid hr
      have HGR := Lib.hid hgr
      have HGo := Lib.hid hg
      have s0 := fun q : Later w1 => (B1.to q.ext).cell 0
      have s1 := fun q : Later w1 => (B1.to q.ext).cell 1
      simp only [List.getElem?_toArray, List.getElem?_cons_zero, List.getElem?_cons_succ] at s0 s1
      have h1' := Lib.hid (h.to hx1)
      have S := Lib.hid (And.intro s0 s1)
      clear hG hgr hr hp hl B1 hw1 hx1 hg h s0 s1
      by_cases hpn : p < n
      · have hnp : ¬ n ≤ p := by omega
        obtain ⟨x, hx⟩ : ∃ x, ns[p]? = some x := ⟨_, List.getElem?_eq_getElem (by have := HL.out; omega)⟩
        obtain ⟨ad, rfl, hn⟩ := NdAt.of h1'.out hx
        have s2 := fun q : Later w1 => (hn.to q.ext).kc
        have s3 := fun q : Later w1 => (hn.to q.ext).gc
        obtain ⟨kk, hkk⟩ : ∃ kk, kk = x.k := ⟨_, rfl⟩
        rw [← hkk] at s2
        obtain ⟨gg, hgg⟩ : ∃ gg, gg = x.g := ⟨_, rfl⟩
        rw [← hgg] at s3
        have S2 := Lib.hid (And.intro s2 s3)
        have HX := Lib.hid hx
        have HK := Lib.hid hkk
        have HGG := Lib.hid hgg
        clear hx hn s2 s3 hkk hgg
        by_cases hk : kk = 0
        · subst hk
          go_enter Try.func27, Try.ntmps27
          go_wp2_with fail
          refine (HG.out _).mono ?_; rintro e w3 ⟨rfl, rfl⟩
          rw [← H1.out]
          go_wp2_with fail
          obtain ⟨s0, s1⟩ := S.out
          obtain ⟨s2, s3⟩ := S2.out
          go_cut [41] (fun t wx => t = .bool true ∧ Ext w1 wx)
          case first =>
            refine wp_region_later w1 (Ext.refl _) (by kernel_rfl) (by kernel_rfl) ?_
            repeat (go_big_quiet_step (first | (go_at_call 49; exact later_same (fun W _ => HG.out W))))
            refine wpQuiet_nil ?_
            rintro _ ⟨q, rfl⟩
            go_wp2_with fail
            go_meet
            exact ⟨rfl, q.ext⟩
          case rest =>
            obtain ⟨rfl, hx⟩ := hcut
            clear s0 s1
            go_wp2_with fail
            go_ret
            exact ⟨rfl, X1.out.step hx⟩
        · have hk1 : (kk == 0) = false := by simp [hk]
          have hne : gg ≠ gr := fun e => HGo.out p x ⟨HR.out, hr1, HX.out, by rw [← HK.out]; exact hk, by rw [← HGG.out, e, HGR.out]⟩
          have hne1 : (gg == gr) = false := by simp [hne]
          have hne2 : (gg != gr) = true := by simp [hne]
          go_enter Try.func27, Try.ntmps27
          go_wp2_with fail
          refine (HG.out _).mono ?_; rintro e w3 ⟨rfl, rfl⟩
          rw [← H1.out]
          go_wp2_with fail
          obtain ⟨s0, s1⟩ := S.out
          obtain ⟨s2, s3⟩ := S2.out
          go_cut [41] (fun t wx => t = .bool true ∧ Ext w1 wx)
          case first =>
            refine wp_region_later w1 (Ext.refl _) (by kernel_rfl) (by kernel_rfl) ?_
            repeat (go_big_quiet_step (first | (go_at_call 49; exact later_same (fun W _ => HG.out W))))
            refine wpQuiet_nil ?_
            rintro _ ⟨q, rfl⟩
            go_wp2_with fail
            go_meet
            exact ⟨rfl, q.ext⟩
          case rest =>
            obtain ⟨rfl, hx⟩ := hcut
            clear s0 s1
            go_wp2_with fail
            go_ret
            exact ⟨rfl, X1.out.step hx⟩
      · have hnp : n ≤ p := by omega
        go_enter Try.func27, Try.ntmps27
        go_wp2_with fail
        refine (HG.out _).mono ?_; rintro e w3 ⟨rfl, rfl⟩
        rw [← H1.out]
        go_wp2_with fail
        obtain ⟨s0, s1⟩ := S.out
        go_cut [41] (fun t wx => t = .bool true ∧ Ext w1 wx)
        case first =>
          refine wp_region_later w1 (Ext.refl _) (by kernel_rfl) (by kernel_rfl) ?_
          repeat (go_big_quiet_step (first | (go_at_call 49; exact later_same (fun W _ => HG.out W))))
          refine wpQuiet_nil ?_
          rintro _ ⟨q, rfl⟩
          go_wp2_with fail
          go_meet
          exact ⟨rfl, q.ext⟩
        case rest =>
          obtain ⟨rfl, hx⟩ := hcut
          clear s0 s1
          go_wp2_with fail
          go_ret
          exact ⟨rfl, X1.out.step hx⟩
    · rw [if_neg hr] at hG
      have HG := Lib.hid hG
      clear hG hr hw1 hx1 hs1 B1 hg
      go_enter Try.func27, Try.ntmps27
      go_wp2_with fail
      refine (HG.out _).mono ?_; rintro e w3 ⟨rfl, rfl⟩
      go_wp2_with fail
      go_ret
      exact ⟨rfl, (Ext.refl w).new _⟩

end Go.Proofs.Ytfoifcbaadnigaa
