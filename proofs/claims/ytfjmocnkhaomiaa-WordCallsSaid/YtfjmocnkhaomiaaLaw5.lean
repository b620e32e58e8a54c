/-
  The document's own answer for one step (ref.Do), walked.
-/
import Derived.Test.YtfjmocnkhaomiaaLaw4
namespace Go.Proofs.Ytfjmocnkhaomiaa
open Go.RowKit


set_option maxHeartbeats 800000 in
theorem ref_no1 (A : Option Addr) (n c : Nat) (k at' a b : Int) (w : World) (h0 : 64 < n) :
    Calls Try.prog 15 #[.slice A n c, .agg #[.int .i64 k, .int .i64 at', .int .u64 a, .int .u64 b]] w fun e w' =>
      e = .returned (.agg #[.slice none 0 0, .int .u64 0, .int .i64 1]) ∧ Ext w w' := by
  go_enter Try.func15, Try.ntmps15
  go_wp2
  refine bodyPost_ret (v := .agg #[.slice none 0 0, .int .u64 0, .int .i64 1]) (by simp [results, Try.results15, go_sem]) rfl ⟨rfl, ?_⟩
  exact Ext.new (Ext.new (Ext.refl w) _) _

set_option maxHeartbeats 800000 in
theorem ref_no2 (A : Option Addr) (n c : Nat) (k at' a b : Int) (w : World) (h0 : n ≤ 64) (h1 : at' < 0) :
    Calls Try.prog 15 #[.slice A n c, .agg #[.int .i64 k, .int .i64 at', .int .u64 a, .int .u64 b]] w fun e w' =>
      e = .returned (.agg #[.slice none 0 0, .int .u64 0, .int .i64 1]) ∧ Ext w w' := by
  go_enter Try.func15, Try.ntmps15
  go_wp2
  refine bodyPost_ret (v := .agg #[.slice none 0 0, .int .u64 0, .int .i64 1]) (by simp [results, Try.results15, go_sem]) rfl ⟨rfl, ?_⟩
  exact Ext.new (Ext.new (Ext.refl w) _) _

set_option maxHeartbeats 800000 in
theorem ref_no3 (A : Option Addr) (n c : Nat) (k at' a b : Int) (w : World) (h0 : n ≤ 64) (h1 : 0 ≤ at') (h2 : n ≤ at') :
    Calls Try.prog 15 #[.slice A n c, .agg #[.int .i64 k, .int .i64 at', .int .u64 a, .int .u64 b]] w fun e w' =>
      e = .returned (.agg #[.slice none 0 0, .int .u64 0, .int .i64 1]) ∧ Ext w w' := by
  go_enter Try.func15, Try.ntmps15
  go_wp2
  refine bodyPost_ret (v := .agg #[.slice none 0 0, .int .u64 0, .int .i64 1]) (by simp [results, Try.results15, go_sem]) rfl ⟨rfl, ?_⟩
  exact Ext.new (Ext.new (Ext.refl w) _) _

set_option maxHeartbeats 800000 in
theorem ref_no4 (A : Option Addr) (n c : Nat) (k at' a b : Int) (w : World) (h0 : n ≤ 64) (h1 : 0 ≤ at') (h2 : at' < n) (h3 : k < 1) :
    Calls Try.prog 15 #[.slice A n c, .agg #[.int .i64 k, .int .i64 at', .int .u64 a, .int .u64 b]] w fun e w' =>
      e = .returned (.agg #[.slice none 0 0, .int .u64 0, .int .i64 1]) ∧ Ext w w' := by
  go_enter Try.func15, Try.ntmps15
  go_wp2
  refine bodyPost_ret (v := .agg #[.slice none 0 0, .int .u64 0, .int .i64 1]) (by simp [results, Try.results15, go_sem]) rfl ⟨rfl, ?_⟩
  exact Ext.new (Ext.new (Ext.refl w) _) _

set_option maxHeartbeats 800000 in
theorem ref_no5 (A : Option Addr) (n c : Nat) (k at' a b : Int) (w : World) (h0 : n ≤ 64) (h1 : 0 ≤ at') (h2 : at' < n) (h3 : 4 < k) :
    Calls Try.prog 15 #[.slice A n c, .agg #[.int .i64 k, .int .i64 at', .int .u64 a, .int .u64 b]] w fun e w' =>
      e = .returned (.agg #[.slice none 0 0, .int .u64 0, .int .i64 1]) ∧ Ext w w' := by
  go_enter Try.func15, Try.ntmps15
  go_wp2
  refine bodyPost_ret (v := .agg #[.slice none 0 0, .int .u64 0, .int .i64 1]) (by simp [results, Try.results15, go_sem]) rfl ⟨rfl, ?_⟩
  exact Ext.new (Ext.new (Ext.refl w) _) _

theorem ref_no (A : Option Addr) (n c : Nat) (k at' a b : Int) (w : World) (h : ¬ (n ≤ 64 ∧ 0 ≤ at' ∧ at' < n ∧ 1 ≤ k ∧ k ≤ 4)) :
    Calls Try.prog 15 #[.slice A n c, .agg #[.int .i64 k, .int .i64 at', .int .u64 a, .int .u64 b]] w fun e w' =>
      e = .returned (.agg #[.slice none 0 0, .int .u64 0, .int .i64 1]) ∧ Ext w w' := by
  by_cases h1 : n ≤ 64
  · by_cases h2 : 0 ≤ at'
    · by_cases h3 : at' < n
      · by_cases h4 : 1 ≤ k
        · exact ref_no5 A n c k at' a b w h1 h2 h3 (by omega)
        · exact ref_no4 A n c k at' a b w h1 h2 h3 (by omega)
      · exact ref_no3 A n c k at' a b w h1 h2 (by omega)
    · exact ref_no2 A n c k at' a b w h1 (by omega)
  · exact ref_no1 A n c k at' a b w (by omega)

theorem box_cells2 {w w1 : World} {cs : Array Value} {t : TypeId} {o : Obj} (hx : Ext ((w.alloc o).alloc (.cells cs t)) w1) (j : Nat) : w1.cell? ⟨w.heap.size + 1, j, none⟩ = cs[j]? := by
  have := box_cells hx j
  simpa using this
theorem box_frozen2 {w w1 : World} {cs : Array Value} {t : TypeId} {o : Obj} (hx : Ext ((w.alloc o).alloc (.cells cs t)) w1) (j : Nat) : w1.frozen? ⟨w.heap.size + 1, j, none⟩ = false :=
  (hx.frozen (p := ⟨w.heap.size + 1, j, none⟩) (by simp)).trans (World.frozen?_alloc_at _ _ _ _ (by simp))
theorem box_cells1 {w w1 : World} {cs : Array Value} {t : TypeId} {o : Obj} (hx : Ext ((w.alloc (.cells cs t)).alloc o) w1) (j : Nat) : w1.cell? ⟨w.heap.size, j, none⟩ = cs[j]? :=
  (hx.cell (p := ⟨w.heap.size, j, none⟩) (by simp; omega)).trans (cell_new2 w cs t o j)

set_option maxHeartbeats 800000 in
theorem ref_1 (ad : Addr) (n c : Nat) (zs : List Int) (a b : Int) (i : Nat) (w : World) (h : Rd w 1 (some ad) n (Us zs)) (h1 : n ≤ 64) (h3 : i < n) :
    Calls Try.prog 15 #[.slice (some ad) n c, .agg #[.int .i64 1, .int .i64 i, .int .u64 a, .int .u64 b]] w fun e w' =>
      ∃ A' c', e = .returned (.agg #[.slice A' n c', .int .u64 (ith zs i), .int .i64 0]) ∧ Rd w' 1 A' n (Us (zs)) ∧ Ext w w' := by
  have hx0 := Ext.new (Ext.new (Ext.refl w) (.cells #[.int .i64 1, .int .i64 i, .int .u64 a, .int .u64 b] 25)) (.cells #[.slice none 0 0, .int .u64 0, .int .i64 0] 38)
  have hc := hx0.cellOf (h.u64 h3)
  have e1 : decide ((64 : Int) < (n : Int)) = false := by simp; omega
  have e2 : decide ((i : Int) < 0) = false := by simp
  have e3 : decide (n ≤ i) = false := by simp; omega
  go_enter Try.func15, Try.ntmps15
  go_wp2
  refine bodyPost_ret (v := .agg #[.slice (some ad) n c, .int .u64 (ith zs i), .int .i64 0]) (by simp [results, Try.results15, go_sem]) rfl ?_
  exact ⟨_, _, rfl, h.to (Ext.new (Ext.new (Ext.refl w) _) _), Ext.new (Ext.new (Ext.refl w) _) _⟩

set_option maxHeartbeats 800000 in
theorem ref_2 (ad : Addr) (n c : Nat) (zs : List Int) (a b : Int) (i : Nat) (w : World) (h : Rd w 1 (some ad) n (Us zs)) (h1 : n ≤ 64) (h3 : i < n) :
    Calls Try.prog 15 #[.slice (some ad) n c, .agg #[.int .i64 2, .int .i64 i, .int .u64 a, .int .u64 b]] w fun e w' =>
      ∃ A' c', e = .returned (.agg #[.slice A' n c', .int .u64 0, .int .i64 0]) ∧ Rd w' 1 A' n (Us (zs.set i a)) ∧ Ext w w' := by
  have hx0 := Ext.new (Ext.new (Ext.refl w) (.cells #[.int .i64 2, .int .i64 i, .int .u64 a, .int .u64 b] 25)) (.cells #[.slice none 0 0, .int .u64 0, .int .i64 0] 38)
  have hc := hx0.cellOf (h.u64 h3)
  have e1 : decide ((64 : Int) < (n : Int)) = false := by simp; omega
  have e2 : decide ((i : Int) < 0) = false := by simp
  have e3 : decide (n ≤ i) = false := by simp; omega
  go_enter Try.func15, Try.ntmps15
  go_wp2_with fail
  refine (with_any (some ad) n c zs i _ _ (h.to hx0) (by omega)).mono ?_; rintro e w1 ⟨A1, c1, rfl, hr1, hq1, hx1⟩
  have hb := box_cells1 hx1
  have hd := box_cells2 hx1
  have hf := box_frozen2 hx1
  have hz : w.heap.size + 1 < w1.heap.size := by have := hx1.size; simp at this; omega
  go_wp2_with fail
  refine bodyPost_ret (v := .agg #[.slice A1 n c1, .int .u64 0, .int .i64 0]) (by simp [results, Try.results15, go_sem, hd, hz]) rfl ?_
  have hne : ∀ j q, A1 = some q → q.block ≠ (⟨w.heap.size + 1, j, none⟩ : Addr).block := fun j q hq => by
    have := hq1 q hq
    simp at this ⊢
    omega
  exact ⟨_, _, rfl, ((hr1.apart (hne 0)).apart (hne 1)).apart (hne 2), (((hx0.step hx1).setCell (by simp) _).setCell (by simp) _).setCell (by simp) _⟩

set_option maxHeartbeats 800000 in
theorem ref_3 (ad : Addr) (n c : Nat) (zs : List Int) (a b : Int) (i : Nat) (w : World) (h : Rd w 1 (some ad) n (Us zs)) (h1 : n ≤ 64) (h3 : i < n) (ho : (ith zs i != a) = false) :
    Calls Try.prog 15 #[.slice (some ad) n c, .agg #[.int .i64 3, .int .i64 i, .int .u64 a, .int .u64 b]] w fun e w' =>
      ∃ A' c', e = .returned (.agg #[.slice A' n c', .int .u64 1, .int .i64 0]) ∧ Rd w' 1 A' n (Us (zs.set i b)) ∧ Ext w w' := by
  have hx0 := Ext.new (Ext.new (Ext.refl w) (.cells #[.int .i64 3, .int .i64 i, .int .u64 a, .int .u64 b] 25)) (.cells #[.slice none 0 0, .int .u64 0, .int .i64 0] 38)
  have hc := hx0.cellOf (h.u64 h3)
  have e1 : decide ((64 : Int) < (n : Int)) = false := by simp; omega
  have e2 : decide ((i : Int) < 0) = false := by simp
  have e3 : decide (n ≤ i) = false := by simp; omega
  go_enter Try.func15, Try.ntmps15
  go_wp2_with fail
  refine (with_any (some ad) n c zs i _ _ (h.to hx0) (by omega)).mono ?_; rintro e w1 ⟨A1, c1, rfl, hr1, hq1, hx1⟩
  have hb := box_cells1 hx1
  have hd := box_cells2 hx1
  have hf := box_frozen2 hx1
  have hz : w.heap.size + 1 < w1.heap.size := by have := hx1.size; simp at this; omega
  go_wp2_with fail
  refine bodyPost_ret (v := .agg #[.slice A1 n c1, .int .u64 1, .int .i64 0]) (by simp [results, Try.results15, go_sem, hd, hz]) rfl ?_
  have hne : ∀ j q, A1 = some q → q.block ≠ (⟨w.heap.size + 1, j, none⟩ : Addr).block := fun j q hq => by
    have := hq1 q hq
    simp at this ⊢
    omega
  exact ⟨_, _, rfl, ((hr1.apart (hne 0)).apart (hne 1)).apart (hne 2), (((hx0.step hx1).setCell (by simp) _).setCell (by simp) _).setCell (by simp) _⟩

set_option maxHeartbeats 800000 in
theorem ref_3n (ad : Addr) (n c : Nat) (zs : List Int) (a b : Int) (i : Nat) (w : World) (h : Rd w 1 (some ad) n (Us zs)) (h1 : n ≤ 64) (h3 : i < n) (ho : (ith zs i != a) = true) :
    Calls Try.prog 15 #[.slice (some ad) n c, .agg #[.int .i64 3, .int .i64 i, .int .u64 a, .int .u64 b]] w fun e w' =>
      ∃ A' c', e = .returned (.agg #[.slice A' n c', .int .u64 0, .int .i64 0]) ∧ Rd w' 1 A' n (Us (zs)) ∧ Ext w w' := by
  have hx0 := Ext.new (Ext.new (Ext.refl w) (.cells #[.int .i64 3, .int .i64 i, .int .u64 a, .int .u64 b] 25)) (.cells #[.slice none 0 0, .int .u64 0, .int .i64 0] 38)
  have hc := hx0.cellOf (h.u64 h3)
  have e1 : decide ((64 : Int) < (n : Int)) = false := by simp; omega
  have e2 : decide ((i : Int) < 0) = false := by simp
  have e3 : decide (n ≤ i) = false := by simp; omega
  go_enter Try.func15, Try.ntmps15
  go_wp2
  refine bodyPost_ret (v := .agg #[.slice (some ad) n c, .int .u64 0, .int .i64 0]) (by simp [results, Try.results15, go_sem]) rfl ?_
  exact ⟨_, _, rfl, h.to (Ext.new (Ext.new (Ext.refl w) _) _), Ext.new (Ext.new (Ext.refl w) _) _⟩

set_option maxHeartbeats 800000 in
theorem ref_4 (ad : Addr) (n c : Nat) (zs : List Int) (a b : Int) (i : Nat) (w : World) (h : Rd w 1 (some ad) n (Us zs)) (h1 : n ≤ 64) (h3 : i < n) :
    Calls Try.prog 15 #[.slice (some ad) n c, .agg #[.int .i64 4, .int .i64 i, .int .u64 a, .int .u64 b]] w fun e w' =>
      ∃ A' c', e = .returned (.agg #[.slice A' n c', .int .u64 (ith zs i), .int .i64 0]) ∧ Rd w' 1 A' n (Us (zs.set i (IntKind.u64.wrap (ith zs i + a)))) ∧ Ext w w' := by
  have hx0 := Ext.new (Ext.new (Ext.refl w) (.cells #[.int .i64 4, .int .i64 i, .int .u64 a, .int .u64 b] 25)) (.cells #[.slice none 0 0, .int .u64 0, .int .i64 0] 38)
  have hc := hx0.cellOf (h.u64 h3)
  have e1 : decide ((64 : Int) < (n : Int)) = false := by simp; omega
  have e2 : decide ((i : Int) < 0) = false := by simp
  have e3 : decide (n ≤ i) = false := by simp; omega
  go_enter Try.func15, Try.ntmps15
  go_wp2_with fail
  refine (with_any (some ad) n c zs i _ _ (h.to hx0) (by omega)).mono ?_; rintro e w1 ⟨A1, c1, rfl, hr1, hq1, hx1⟩
  have hb := box_cells1 hx1
  have hd := box_cells2 hx1
  have hf := box_frozen2 hx1
  have hz : w.heap.size + 1 < w1.heap.size := by have := hx1.size; simp at this; omega
  go_wp2_with fail
  refine bodyPost_ret (v := .agg #[.slice A1 n c1, .int .u64 (ith zs i), .int .i64 0]) (by simp [results, Try.results15, go_sem, hd, hz]) rfl ?_
  have hne : ∀ j q, A1 = some q → q.block ≠ (⟨w.heap.size + 1, j, none⟩ : Addr).block := fun j q hq => by
    have := hq1 q hq
    simp at this ⊢
    omega
  exact ⟨_, _, rfl, ((hr1.apart (hne 0)).apart (hne 1)).apart (hne 2), (((hx0.step hx1).setCell (by simp) _).setCell (by simp) _).setCell (by simp) _⟩

theorem ref_yes (ad : Addr) (n c : Nat) (zs : List Int) (k a b : Int) (i : Nat) (w : World) (h : Rd w 1 (some ad) n (Us zs)) (h1 : n ≤ 64) (h3 : i < n) (now ans : Int)
    (hk : change k a b (ith zs i) = some (now, ans)) :
    Calls Try.prog 15 #[.slice (some ad) n c, .agg #[.int .i64 k, .int .i64 i, .int .u64 a, .int .u64 b]] w fun e w' =>
      ∃ A' c', e = .returned (.agg #[.slice A' n c', .int .u64 ans, .int .i64 0]) ∧ Rd w' 1 A' n (Us (zs.set i now)) ∧ Ext w w' := by
  have hs : zs.set i (ith zs i) = zs := by
    have := set_back zs i (ith zs i) (by rw [h.u64len]; exact h3)
    rwa [List.set_set] at this
  unfold change at hk
  split at hk
  · subst_vars
    simp only [Option.some.injEq, Prod.mk.injEq] at hk
    obtain ⟨rfl, rfl⟩ := hk
    rw [hs]
    exact ref_1 ad n c zs a b i w h h1 h3
  split at hk
  · subst_vars
    simp only [Option.some.injEq, Prod.mk.injEq] at hk
    obtain ⟨rfl, rfl⟩ := hk
    exact ref_2 ad n c zs _ b i w h h1 h3
  split at hk
  · subst_vars
    split at hk
    · simp only [Option.some.injEq, Prod.mk.injEq] at hk
      obtain ⟨rfl, rfl⟩ := hk
      exact ref_3 ad n c zs a _ i w h h1 h3 (by simpa using ‹_›)
    · rename_i hne
      simp only [Option.some.injEq, Prod.mk.injEq] at hk
      obtain ⟨rfl, rfl⟩ := hk
      rw [hs]
      exact ref_3n ad n c zs a b i w h h1 h3 (by simpa using hne)
  split at hk
  · subst_vars
    simp only [Option.some.injEq, Prod.mk.injEq] at hk
    obtain ⟨rfl, rfl⟩ := hk
    exact ref_4 ad n c zs a b i w h h1 h3
  · cases hk

end Go.Proofs.Ytfjmocnkhaomiaa
