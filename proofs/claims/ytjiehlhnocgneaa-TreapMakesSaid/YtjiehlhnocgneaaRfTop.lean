/-
  Contracts of the document's answers on rows: the key above all others (top), whether a row is in order (Ordered), a key's place (At).
-/
import Derived.Test.YtjiehlhnocgneaaRfRow
set_option linter.unusedVariables false
set_option linter.unusedSimpArgs false
namespace Go.Proofs.Ytjiehlhnocgneaa
open Go.RowKit

/-- The two cells of an item. -/
def ItAt (w : World) (a : Addr) (x : Int × Int) : Prop := w.cell? a = some (.int .i64 x.1) ∧ w.cell? { block := a.block, off := a.off + 1 } = some (.int .i64 x.2)
theorem RdI.item {w : World} {A : Option Addr} {n : Nat} {l : Row} (h : RdI w A n l) {k : Nat} {x : Int × Int} (hx : l[k]? = some x) : ∃ ad, A = some ad ∧ ItAt w (ad.add (k * 2)) x := by
  obtain ⟨ad, ha, h0⟩ := h.2 (k * 2 + 0) (.int .i64 x.1) ((flat_get itc_length l k 0 x hx (by omega)).trans rfl)
  obtain ⟨ad', ha', h1⟩ := h.2 (k * 2 + 1) (.int .i64 x.2) ((flat_get itc_length l k 1 x hx (by omega)).trans rfl)
  rw [ha] at ha'
  injection ha' with ha'
  subst ha'
  refine ⟨ad, ha, h0, ?_⟩
  rw [← addr_add] at h1
  exact h1
theorem ItAt.to {w w' : World} {a : Addr} {x : Int × Int} (h : ItAt w a x) (hx : Ext w w') : ItAt w' a x := ⟨hx.cellOf h.1, hx.cellOf h.2⟩

def TopA (l : Row) (w : World) (e : Ending) (w' : World) : Prop :=
  ((l = [] ∧ e = .returned (.int .i64 (-1))) ∨ ∃ a k v b, l = a ++ (k, v) :: b ∧ (∀ y ∈ a, Bef k y.1) ∧ (∀ y ∈ b, Bef k y.1) ∧ e = .returned (.int .i64 (a.length : Nat))) ∧ Ext w w'
/-- Up to a place the j-th key is above all others. -/
def Best (l : Row) (k j : Nat) : Prop := ∀ (i : Nat) (x y : Int × Int), i < k → i ≠ j → l[j]? = some y → l[i]? = some x → Bef y.1 x.1
theorem srt_get {l : Row} (h : Srt l) {i j : Nat} {x y : Int × Int} (hx : l[i]? = some x) (hy : l[j]? = some y) (hij : i < j) : x.1 < y.1 := by
  obtain ⟨h1, e1⟩ := List.getElem?_eq_some_iff.1 hx
  obtain ⟨h2, e2⟩ := List.getElem?_eq_some_iff.1 hy
  rw [← e1, ← e2]
  exact List.pairwise_iff_getElem.1 h i j h1 h2 hij
theorem srt_ne {l : Row} (h : Srt l) {i j : Nat} {x y : Int × Int} (hx : l[i]? = some x) (hy : l[j]? = some y) (hij : i ≠ j) : x.1 ≠ y.1 := by
  rcases Nat.lt_or_gt_of_ne hij with h' | h'
  · have := srt_get h hx hy h'; omega
  · have := srt_get h hy hx h'; omega
theorem best_first (l : Row) : Best l 1 0 := fun i x y hi hij _ _ => by omega
theorem best_new {l : Row} {k j : Nat} {x y : Int × Int} (hb : Best l k j) (hj : j < k) (hx : l[k]? = some x) (hy : l[j]? = some y) (h : Bef x.1 y.1) : Best l (k + 1) k := by
  intro i z u hi hik hu hz
  rw [hx] at hu
  injection hu with hu
  subst hu
  by_cases e : i = j
  · subst e
    rw [hy] at hz
    injection hz with hz
    subst hz
    exact h
  · exact h.trans (hb i z y (by omega) e hy hz)
theorem best_old {l : Row} {k j : Nat} {x y : Int × Int} (hs : Srt l) (hb : Best l k j) (hj : j < k) (hx : l[k]? = some x) (hy : l[j]? = some y) (h : ¬ Bef x.1 y.1) : Best l (k + 1) j := by
  intro i z u hi hij hu hz
  rw [hy] at hu
  injection hu with hu
  subst hu
  by_cases e : i = k
  · subst e
    rw [hx] at hz
    injection hz with hz
    subst hz
    exact (Bef.total (srt_ne hs hx hy (by omega))).resolve_left h
  · exact hb i z y (by omega) hij hy hz
theorem best_all {l : Row} {j : Nat} (hj : j < l.length) (hb : Best l l.length j) : ∃ a k v b, l = a ++ (k, v) :: b ∧ (∀ y ∈ a, Bef k y.1) ∧ (∀ y ∈ b, Bef k y.1) ∧ a.length = j := by
  refine ⟨l.take j, l[j].1, l[j].2, l.drop (j + 1), ?_, ?_, ?_, by simp; omega⟩
  · conv => lhs; rw [← List.take_append_drop j l, List.drop_eq_getElem_cons hj]
  · intro y hy
    obtain ⟨i, hi⟩ := List.getElem?_of_mem hy
    rw [List.getElem?_take] at hi
    split at hi
    · exact hb i y l[j] (by omega) (by omega) (List.getElem?_eq_getElem hj) hi
    · cases hi
  · intro y hy
    obtain ⟨i, hi⟩ := List.getElem?_of_mem hy
    rw [List.getElem?_drop] at hi
    exact hb _ y l[j] (List.getElem?_eq_some_iff.1 hi).1 (by omega) (List.getElem?_eq_getElem hj) hi

set_option maxHeartbeats 2000000 in
theorem top_is (A : Option Addr) (n c : Nat) (l : Row) (w : World) (h : RdI w A n l) (hn : n ≤ 1000) (hs : Srt l) :
    Calls Try.prog 50 #[.slice A n c] w (TopA l w) := by
  have hl := Lib.hid h.len
  have HH := Lib.hid h
  have HS := Lib.hid hs
  clear h hs
  go_enter Try.func50, Try.ntmps50
  go_wp2_with fail
  go_loopw [3, 8, 4, 5] (fun b j _ _ wr => Hid (Ext w wr) ∧ ∃ k : Nat, k ≤ n ∧ j = .int .i64 k ∧ ((k = 0 ∧ b = .int .i64 (-1)) ∨ ∃ m : Nat, m < k ∧ b = .int .i64 m ∧ Hid (Best l k m))) (fun _ j _ _ _ => n - (intOf j).toNat)
  case atStart => exact ⟨Lib.hid (Ext.refl _), 0, Nat.zero_le _, rfl, .inl ⟨rfl, rfl⟩⟩
  case round =>
    obtain ⟨hx, k, hk, rfl, hb⟩ := hrel
    rename World => w4
    by_cases hlt : k < n
    · obtain ⟨x, hxk⟩ : ∃ x, l[k]? = some x := ⟨_, List.getElem?_eq_getElem (by have := hl.out; omega)⟩
      obtain ⟨ad, rfl, hit⟩ := HH.out.item hxk
      obtain ⟨x1, x2⟩ := x
      obtain ⟨c0, c1⟩ := hit.to hx.out
      have HX := Lib.hid hxk
      have hx1 := Lib.hid (hx.out.new (.cells #[.int .i64 x1, .int .i64 x2] 60))
      simp only at c0 c1
      clear hxk hit
      rcases hb with ⟨hk0, rfl⟩ | ⟨m, hm, rfl, hbest⟩
      · have HK0 := Lib.hid hk0
        clear hk0
        go_wp2_with fail
        refine wp_region_later _ (Ext.refl _) (by kernel_rfl) (by kernel_rfl) ?_
        repeat (go_big_quiet_step (fail))
        refine wpQuiet_nil ?_
        rintro _ ⟨q, rfl⟩
        go_wp2_with fail
        go_roundw
        case rel => exact ⟨Lib.hid (hx1.out.step q.ext), k + 1, by omega, by go_num, .inr ⟨k, by omega, rfl, Lib.hid (by rw [HK0.out]; exact best_first l)⟩⟩
        case measure => simp [intOf]; omega
      · obtain ⟨y, hym⟩ : ∃ y, l[m]? = some y := ⟨_, List.getElem?_eq_getElem (by have := hl.out; omega)⟩
        obtain ⟨ad', e', hit'⟩ := HH.out.item hym
        injection e' with e'
        obtain rfl : ad = ad' := e'
        obtain ⟨y1, y2⟩ := y
        have HY := Lib.hid hym
        have d0 := fun q : Later (w4.alloc (.cells #[.int .i64 x1, .int .i64 x2] 60)) => (hit'.to (hx1.out.step q.ext)).1
        have b0 := Bx.new w4 #[.int .i64 x1, .int .i64 x2] 60
        have d1 := fun q : Later (w4.alloc (.cells #[.int .i64 x1, .int .i64 x2] 60)) => (b0.to q.ext).cell 0
        simp only [List.getElem?_toArray, List.getElem?_cons_zero, List.getElem?_cons_succ] at d0 d1
        have hm0 : decide ((m : Int) < 0) = false := by simp
        have hmn : m < n := by omega
        have hnm : ¬ n ≤ m := by omega
        have HBf := Lib.hid (fun W => refBefore_is x1 y1 W)
        clear hym hit' b0
        cases hbb : bef x1 y1
        · rw [hbb] at HBf
          have HN := Lib.hid (best_old HS.out hbest.out hm HX.out HY.out (bef_not.1 hbb))
          clear hbb hbest
          go_wp2_with fail
          refine wp_region_later _ (Ext.refl _) (by kernel_rfl) (by kernel_rfl) ?_
          repeat (go_big_quiet_step (first | (go_at_call 73; exact later_same (fun W _ => HBf.out W))))
          refine wpQuiet_nil ?_
          rintro _ ⟨q, rfl⟩
          clear d0 d1
          go_wp2_with fail
          go_roundw
          case rel => exact ⟨Lib.hid (hx1.out.step q.ext), k + 1, by omega, by go_num, .inr ⟨m, by omega, rfl, HN⟩⟩
          case measure => simp [intOf]; omega
        · rw [hbb] at HBf
          have HN := Lib.hid (best_new hbest.out hm HX.out HY.out (bef_iff.1 hbb))
          clear hbb hbest
          go_wp2_with fail
          refine wp_region_later _ (Ext.refl _) (by kernel_rfl) (by kernel_rfl) ?_
          repeat (go_big_quiet_step (first | (go_at_call 73; exact later_same (fun W _ => HBf.out W))))
          refine wpQuiet_nil ?_
          rintro _ ⟨q, rfl⟩
          clear d0 d1
          go_wp2_with fail
          go_roundw
          case rel => exact ⟨Lib.hid (hx1.out.step q.ext), k + 1, by omega, by go_num, .inr ⟨k, by omega, rfl, HN⟩⟩
          case measure => simp [intOf]; omega
    · obtain rfl : k = n := by omega
      rcases hb with ⟨rfl, rfl⟩ | ⟨m, hm, rfl, hbest⟩
      · have hnil : l = [] := List.eq_nil_of_length_eq_zero hl.out
        have HF := Lib.hid (show TopA l w (.returned (.int .i64 (-1))) w4 from ⟨.inl ⟨hnil, rfl⟩, hx.out⟩)
        clear hnil
        go_wp2_with fail
        go_ret
        exact HF.out
      · have HF := Lib.hid (show TopA l w (.returned (.int .i64 m)) w4 from ⟨.inr (by
          obtain ⟨a, k', v, b, h1, h2, h3, h4⟩ := best_all (l := l) (j := m) (by rw [hl.out]; exact hm) (by rw [hl.out]; exact hbest.out)
          exact ⟨a, k', v, b, h1, h2, h3, by rw [h4]⟩), hx.out⟩)
        clear hbest
        go_wp2_with fail
        go_ret
        exact HF.out

end Go.Proofs.Ytjiehlhnocgneaa
