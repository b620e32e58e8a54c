/-
  The walks of WordDoes: a step does what the call of its kind does.
-/
import Derived.Test.YtfjmocnkhaomiaaLaw2
namespace Go.Proofs.Ytfjmocnkhaomiaa
open Go.RowKit

theorem box_cells {w w1 : World} {cs : Array Value} {t : TypeId} (hx : Ext (w.alloc (.cells cs t)) w1) (j : Nat) : w1.cell? ⟨w.heap.size, j, none⟩ = cs[j]? :=
  (hx.cell (p := ⟨w.heap.size, j, none⟩) (by simp)).trans (cell_new w cs t j)

set_option maxHeartbeats 800000 in
theorem does_1 (ad : Addr) (n c m : Nat) (zs : List Int) (i : Nat) (a b : Int) (w : World) (hn : n ≤ c) (hm : Hid (min n 66 = m)) (h : Rd w 1 (some ad) m (Us zs)) (h1 : m ≤ 64) (h3 : i < m) :
    Calls Try.prog 8 #[.slice (some ad) n c, .agg #[.int .i64 1, .int .i64 i, .int .u64 a, .int .u64 b]] w fun e w' => e = .returned (.bool true) ∧ Ext w w' := by
  have hs : zs.set i (ith zs i) = zs := by
    have := set_back zs i (ith zs i) (by rw [h.u64len]; exact h3)
    rwa [List.set_set] at this
  have hx0 := Ext.new (Ext.refl w) (.cells #[.int .i64 1, .int .i64 i, .int .u64 a, .int .u64 b] 25)
  have h0 := do_yes ad m c zs 1 a b i _ (h.to hx0) h1 h3 _ _ rfl
  rw [hs] at h0
  have H0 := Lib.hid h0
  clear h0 hs
  go_enter Try.func8, Try.ntmps8
  go_wp2_with fail
  refine (few_any _ _ _ _ hn).mono ?_; rintro e w' ⟨rfl, rfl⟩
  rw [hm.out]
  go_wp2_with fail
  refine (H0.out).mono ?_; rintro e w1 ⟨A1, c1, rfl, hr1, hx1⟩
  have hb := box_cells hx1
  go_wp2_with fail
  refine (load_yes ad m c zs i _ (h.to (hx0.step hx1)) h1 h3).mono ?_; rintro e w' ⟨rfl, rfl⟩
  clear hb
  go_wp2_with fail
  refine (alive_yes _).mono ?_; rintro e w2 ⟨rfl, hx2⟩
  go_wp2_with fail
  refine (same_yes _ _ _ _ _ zs _ (hr1.to hx2) (h.to ((hx0.step hx1).step hx2)) (by omega)).mono ?_; rintro e w3 ⟨rfl, hx3⟩
  go_wp2_with fail
  go_ret
  exact ⟨rfl, ((hx0.step hx1).step hx2).step hx3⟩

set_option maxHeartbeats 800000 in
theorem does_2 (ad : Addr) (n c m : Nat) (zs : List Int) (i : Nat) (a b : Int) (w : World) (hn : n ≤ c) (hm : Hid (min n 66 = m)) (h : Rd w 1 (some ad) m (Us zs)) (h1 : m ≤ 64) (h3 : i < m) :
    Calls Try.prog 8 #[.slice (some ad) n c, .agg #[.int .i64 2, .int .i64 i, .int .u64 a, .int .u64 b]] w fun e w' => e = .returned (.bool true) ∧ Ext w w' := by
  have hx0 := Ext.new (Ext.refl w) (.cells #[.int .i64 2, .int .i64 i, .int .u64 a, .int .u64 b] 25)
  have H0 := Lib.hid (do_yes ad m c zs 2 a b i _ (h.to hx0) h1 h3 _ _ rfl)
  go_enter Try.func8, Try.ntmps8
  go_wp2_with fail
  refine (few_any _ _ _ _ hn).mono ?_; rintro e w' ⟨rfl, rfl⟩
  rw [hm.out]
  go_wp2_with fail
  refine (H0.out).mono ?_; rintro e w1 ⟨A1, c1, rfl, hr1, hx1⟩
  have hb := box_cells hx1
  go_wp2_with fail
  refine (store_yes ad m c zs a i _ (h.to (hx0.step hx1)) h1 h3).mono ?_; rintro e w2 ⟨A2, c2, rfl, hr2, hx2⟩
  clear hb
  go_wp2_with fail
  refine (alive_yes _).mono ?_; rintro e w3 ⟨rfl, hx3⟩
  go_wp2_with fail
  refine (same_yes _ _ _ _ _ _ _ (hr1.to (hx2.step hx3)) (hr2.to hx3) (by omega)).mono ?_; rintro e w4 ⟨rfl, hx4⟩
  go_wp2_with fail
  go_ret
  exact ⟨rfl, (((hx0.step hx1).step hx2).step hx3).step hx4⟩

set_option maxHeartbeats 800000 in
theorem does_3 (ad : Addr) (n c m : Nat) (zs : List Int) (i : Nat) (a b : Int) (w : World) (hn : n ≤ c) (hm : Hid (min n 66 = m)) (h : Rd w 1 (some ad) m (Us zs)) (h1 : m ≤ 64) (h3 : i < m) :
    Calls Try.prog 8 #[.slice (some ad) n c, .agg #[.int .i64 3, .int .i64 i, .int .u64 a, .int .u64 b]] w fun e w' => e = .returned (.bool true) ∧ Ext w w' := by
  have hx0 := Ext.new (Ext.refl w) (.cells #[.int .i64 3, .int .i64 i, .int .u64 a, .int .u64 b] 25)
  by_cases ho : ith zs i = a
  · have H0 := Lib.hid (do_yes ad m c zs 3 a b i _ (h.to hx0) h1 h3 b 1 (by simp [change, ho]))
    have HO := Lib.hid ho
    clear ho
    go_enter Try.func8, Try.ntmps8
    go_wp2_with fail
    refine (few_any _ _ _ _ hn).mono ?_; rintro e w' ⟨rfl, rfl⟩
    rw [hm.out]
    go_wp2_with fail
    refine (H0.out).mono ?_; rintro e w1 ⟨A1, c1, rfl, hr1, hx1⟩
    have hb := box_cells hx1
    go_wp2_with fail
    refine (cas_yes ad m c zs a b i _ (h.to (hx0.step hx1)) h1 h3 HO.out).mono ?_; rintro e w2 ⟨A2, c2, rfl, hr2, hx2⟩
    clear hb
    go_wp2_with fail
    refine (alive_yes _).mono ?_; rintro e w3 ⟨rfl, hx3⟩
    go_wp2_with fail
    refine (same_yes _ _ _ _ _ _ _ (hr1.to (hx2.step hx3)) (hr2.to hx3) (by omega)).mono ?_; rintro e w4 ⟨rfl, hx4⟩
    go_wp2_with fail
    go_ret
    exact ⟨rfl, (((hx0.step hx1).step hx2).step hx3).step hx4⟩
  · have hs : zs.set i (ith zs i) = zs := by
      have := set_back zs i (ith zs i) (by rw [h.u64len]; exact h3)
      rwa [List.set_set] at this
    have h0 := do_yes ad m c zs 3 a b i _ (h.to hx0) h1 h3 (ith zs i) 0 (by simp [change, ho])
    rw [hs] at h0
    have H0 := Lib.hid h0
    have HO := Lib.hid ho
    clear ho h0 hs
    go_enter Try.func8, Try.ntmps8
    go_wp2_with fail
    refine (few_any _ _ _ _ hn).mono ?_; rintro e w' ⟨rfl, rfl⟩
    rw [hm.out]
    go_wp2_with fail
    refine (H0.out).mono ?_; rintro e w1 ⟨A1, c1, rfl, hr1, hx1⟩
    have hb := box_cells hx1
    go_wp2_with fail
    refine (cas_not ad m c zs a b i _ (h.to (hx0.step hx1)) h1 h3 HO.out).mono ?_; rintro e w2 ⟨A2, c2, rfl, hr2, hx2⟩
    clear hb
    go_wp2_with fail
    refine (alive_yes _).mono ?_; rintro e w3 ⟨rfl, hx3⟩
    go_wp2_with fail
    refine (same_yes _ _ _ _ _ _ _ (hr1.to (hx2.step hx3)) (hr2.to hx3) (by omega)).mono ?_; rintro e w4 ⟨rfl, hx4⟩
    go_wp2_with fail
    go_ret
    exact ⟨rfl, (((hx0.step hx1).step hx2).step hx3).step hx4⟩

set_option maxHeartbeats 800000 in
theorem does_4 (ad : Addr) (n c m : Nat) (zs : List Int) (i : Nat) (a b : Int) (w : World) (hn : n ≤ c) (hm : Hid (min n 66 = m)) (h : Rd w 1 (some ad) m (Us zs)) (h1 : m ≤ 64) (h3 : i < m) :
    Calls Try.prog 8 #[.slice (some ad) n c, .agg #[.int .i64 4, .int .i64 i, .int .u64 a, .int .u64 b]] w fun e w' => e = .returned (.bool true) ∧ Ext w w' := by
  have hx0 := Ext.new (Ext.refl w) (.cells #[.int .i64 4, .int .i64 i, .int .u64 a, .int .u64 b] 25)
  have H0 := Lib.hid (do_yes ad m c zs 4 a b i _ (h.to hx0) h1 h3 _ _ rfl)
  go_enter Try.func8, Try.ntmps8
  go_wp2_with fail
  refine (few_any _ _ _ _ hn).mono ?_; rintro e w' ⟨rfl, rfl⟩
  rw [hm.out]
  go_wp2_with fail
  refine (H0.out).mono ?_; rintro e w1 ⟨A1, c1, rfl, hr1, hx1⟩
  have hb := box_cells hx1
  go_wp2_with fail
  refine (add_yes ad m c zs a i _ (h.to (hx0.step hx1)) h1 h3).mono ?_; rintro e w2 ⟨A2, c2, rfl, hr2, hx2⟩
  clear hb
  go_wp2_with fail
  refine (alive_yes _).mono ?_; rintro e w3 ⟨rfl, hx3⟩
  go_wp2_with fail
  refine (same_yes _ _ _ _ _ _ _ (hr1.to (hx2.step hx3)) (hr2.to hx3) (by omega)).mono ?_; rintro e w4 ⟨rfl, hx4⟩
  go_wp2_with fail
  go_ret
  exact ⟨rfl, (((hx0.step hx1).step hx2).step hx3).step hx4⟩

set_option maxHeartbeats 800000 in
theorem does_none (A : Option Addr) (n c : Nat) (k at' a b : Int) (w : World) (hn : n ≤ c) (hk : k < 1 ∨ 4 < k) :
    Calls Try.prog 8 #[.slice A n c, .agg #[.int .i64 k, .int .i64 at', .int .u64 a, .int .u64 b]] w fun e w' => e = .returned (.bool true) ∧ Ext w w' := by
  have hx0 := Ext.new (Ext.refl w) (.cells #[.int .i64 k, .int .i64 at', .int .u64 a, .int .u64 b] 25)
  have H0 := Lib.hid (fun m => do_no A m c k at' a b (w.alloc (.cells #[.int .i64 k, .int .i64 at', .int .u64 a, .int .u64 b] 25)) (by omega))
  have k1 : (k == 1) = false := by simp; omega
  have k2 : (k == 2) = false := by simp; omega
  have k3 : (k == 3) = false := by simp; omega
  have k4 : (k == 4) = false := by simp; omega
  clear hk
  go_enter Try.func8, Try.ntmps8
  go_wp2_with fail
  refine (few_any _ _ _ _ hn).mono ?_; rintro e w' ⟨rfl, rfl⟩
  go_wp2_with fail
  refine (H0.out _).mono ?_; rintro e w1 ⟨rfl, hx1⟩
  have hb := box_cells hx1
  go_wp2_with fail
  refine (alive_yes _).mono ?_; rintro e w2 ⟨rfl, hx2⟩
  go_wp2_with fail
  go_ret
  exact ⟨rfl, (hx0.step hx1).step hx2⟩

set_option maxHeartbeats 800000 in
theorem does_1_no (A : Option Addr) (n c m : Nat) (at' a b : Int) (w : World) (hn : n ≤ c) (hm : Hid (min n 66 = m)) (hno : Hid (¬ (m ≤ 64 ∧ 0 ≤ at' ∧ at' < m))) :
    Calls Try.prog 8 #[.slice A n c, .agg #[.int .i64 1, .int .i64 at', .int .u64 a, .int .u64 b]] w fun e w' => e = .returned (.bool true) ∧ Ext w w' := by
  have hx0 := Ext.new (Ext.refl w) (.cells #[.int .i64 1, .int .i64 at', .int .u64 a, .int .u64 b] 25)
  have H0 := Lib.hid (do_no A m c 1 at' a b (w.alloc (.cells #[.int .i64 1, .int .i64 at', .int .u64 a, .int .u64 b] 25)) (by have := hno.out; omega))
  go_enter Try.func8, Try.ntmps8
  go_wp2_with fail
  refine (few_any _ _ _ _ hn).mono ?_; rintro e w' ⟨rfl, rfl⟩
  rw [hm.out]
  go_wp2_with fail
  refine (H0.out).mono ?_; rintro e w1 ⟨rfl, hx1⟩
  have hb := box_cells hx1
  go_wp2_with fail
  refine (load_no A m c at' _ hno.out).mono ?_; rintro e w' ⟨rfl, rfl⟩
  clear hb
  go_wp2_with fail
  refine (alive_yes _).mono ?_; rintro e w2 ⟨rfl, hx2⟩
  go_wp2_with fail
  go_ret
  exact ⟨rfl, (hx0.step hx1).step hx2⟩

set_option maxHeartbeats 800000 in
theorem does_2_no (A : Option Addr) (n c m : Nat) (at' a b : Int) (w : World) (hn : n ≤ c) (hm : Hid (min n 66 = m)) (hno : Hid (¬ (m ≤ 64 ∧ 0 ≤ at' ∧ at' < m))) :
    Calls Try.prog 8 #[.slice A n c, .agg #[.int .i64 2, .int .i64 at', .int .u64 a, .int .u64 b]] w fun e w' => e = .returned (.bool true) ∧ Ext w w' := by
  have hx0 := Ext.new (Ext.refl w) (.cells #[.int .i64 2, .int .i64 at', .int .u64 a, .int .u64 b] 25)
  have H0 := Lib.hid (do_no A m c 2 at' a b (w.alloc (.cells #[.int .i64 2, .int .i64 at', .int .u64 a, .int .u64 b] 25)) (by have := hno.out; omega))
  go_enter Try.func8, Try.ntmps8
  go_wp2_with fail
  refine (few_any _ _ _ _ hn).mono ?_; rintro e w' ⟨rfl, rfl⟩
  rw [hm.out]
  go_wp2_with fail
  refine (H0.out).mono ?_; rintro e w1 ⟨rfl, hx1⟩
  have hb := box_cells hx1
  go_wp2_with fail
  refine (store_no A m c at' _ _ hno.out).mono ?_; rintro e w2 ⟨rfl, hx2⟩
  clear hb
  go_wp2_with fail
  refine (alive_yes _).mono ?_; rintro e w3 ⟨rfl, hx3⟩
  go_wp2_with fail
  refine (same_yes none none 0 0 0 [] _ (Rd.nil _ _ _) (Rd.nil _ _ _) (by omega)).mono ?_; rintro e w4 ⟨rfl, hx4⟩
  go_wp2_with fail
  go_ret
  exact ⟨rfl, (((hx0.step hx1).step hx2).step hx3).step hx4⟩

set_option maxHeartbeats 800000 in
theorem does_3_no (A : Option Addr) (n c m : Nat) (at' a b : Int) (w : World) (hn : n ≤ c) (hm : Hid (min n 66 = m)) (hno : Hid (¬ (m ≤ 64 ∧ 0 ≤ at' ∧ at' < m))) :
    Calls Try.prog 8 #[.slice A n c, .agg #[.int .i64 3, .int .i64 at', .int .u64 a, .int .u64 b]] w fun e w' => e = .returned (.bool true) ∧ Ext w w' := by
  have hx0 := Ext.new (Ext.refl w) (.cells #[.int .i64 3, .int .i64 at', .int .u64 a, .int .u64 b] 25)
  have H0 := Lib.hid (do_no A m c 3 at' a b (w.alloc (.cells #[.int .i64 3, .int .i64 at', .int .u64 a, .int .u64 b] 25)) (by have := hno.out; omega))
  go_enter Try.func8, Try.ntmps8
  go_wp2_with fail
  refine (few_any _ _ _ _ hn).mono ?_; rintro e w' ⟨rfl, rfl⟩
  rw [hm.out]
  go_wp2_with fail
  refine (H0.out).mono ?_; rintro e w1 ⟨rfl, hx1⟩
  have hb := box_cells hx1
  go_wp2_with fail
  refine (cas_no A m c at' _ _ _ hno.out).mono ?_; rintro e w2 ⟨rfl, hx2⟩
  clear hb
  go_wp2_with fail
  refine (alive_yes _).mono ?_; rintro e w3 ⟨rfl, hx3⟩
  go_wp2_with fail
  refine (same_yes none none 0 0 0 [] _ (Rd.nil _ _ _) (Rd.nil _ _ _) (by omega)).mono ?_; rintro e w4 ⟨rfl, hx4⟩
  go_wp2_with fail
  go_ret
  exact ⟨rfl, (((hx0.step hx1).step hx2).step hx3).step hx4⟩

set_option maxHeartbeats 800000 in
theorem does_4_no (A : Option Addr) (n c m : Nat) (at' a b : Int) (w : World) (hn : n ≤ c) (hm : Hid (min n 66 = m)) (hno : Hid (¬ (m ≤ 64 ∧ 0 ≤ at' ∧ at' < m))) :
    Calls Try.prog 8 #[.slice A n c, .agg #[.int .i64 4, .int .i64 at', .int .u64 a, .int .u64 b]] w fun e w' => e = .returned (.bool true) ∧ Ext w w' := by
  have hx0 := Ext.new (Ext.refl w) (.cells #[.int .i64 4, .int .i64 at', .int .u64 a, .int .u64 b] 25)
  have H0 := Lib.hid (do_no A m c 4 at' a b (w.alloc (.cells #[.int .i64 4, .int .i64 at', .int .u64 a, .int .u64 b] 25)) (by have := hno.out; omega))
  go_enter Try.func8, Try.ntmps8
  go_wp2_with fail
  refine (few_any _ _ _ _ hn).mono ?_; rintro e w' ⟨rfl, rfl⟩
  rw [hm.out]
  go_wp2_with fail
  refine (H0.out).mono ?_; rintro e w1 ⟨rfl, hx1⟩
  have hb := box_cells hx1
  go_wp2_with fail
  refine (add_no A m c at' _ _ hno.out).mono ?_; rintro e w2 ⟨rfl, hx2⟩
  clear hb
  go_wp2_with fail
  refine (alive_yes _).mono ?_; rintro e w3 ⟨rfl, hx3⟩
  go_wp2_with fail
  refine (same_yes none none 0 0 0 [] _ (Rd.nil _ _ _) (Rd.nil _ _ _) (by omega)).mono ?_; rintro e w4 ⟨rfl, hx4⟩
  go_wp2_with fail
  go_ret
  exact ⟨rfl, (((hx0.step hx1).step hx2).step hx3).step hx4⟩

theorem WordDoes_walk (w : World) (A : Option Addr) (n c : Nat) (zs : List Int) (h : Rd w 1 A n (Us zs)) (hn : n ≤ c) (_ : c ≤ maxLen) (_ : ∀ z ∈ zs, (Lit.int .u64 z).wf = true)
    (k at' a b : Int) (_ : (Lit.int .i64 k).wf = true) (_ : (Lit.int .i64 at').wf = true) (_ : (Lit.int .u64 a).wf = true) (_ : (Lit.int .u64 b).wf = true) :
    Calls Try.prog 8 #[.slice A n c, .agg #[.int .i64 k, .int .i64 at', .int .u64 a, .int .u64 b]] w fun e w' => e = .returned (.bool true) ∧ Ext w w' := by
  by_cases hk : k < 1 ∨ 4 < k
  · exact does_none A n c k at' a b w hn hk
  have hk : k = 1 ∨ k = 2 ∨ k = 3 ∨ k = 4 := by omega
  obtain ⟨m, hm⟩ : ∃ m, Hid (min n 66 = m) := ⟨_, Lib.hid rfl⟩
  have hmn : m ≤ n := by have := hm.out; omega
  have hr := h.take hmn
  rw [Nat.mul_one, Us_take] at hr
  by_cases hv : m ≤ 64 ∧ 0 ≤ at' ∧ at' < m
  · obtain ⟨h1, h2, h3⟩ := hv
    obtain ⟨i, rfl⟩ := Int.eq_ofNat_of_zero_le h2
    obtain ⟨ad, rfl⟩ := h.some_ (by omega) (by omega)
    rcases hk with rfl | rfl | rfl | rfl
    · exact does_1 ad n c m _ i a b w hn hm hr h1 (by omega)
    · exact does_2 ad n c m _ i a b w hn hm hr h1 (by omega)
    · exact does_3 ad n c m _ i a b w hn hm hr h1 (by omega)
    · exact does_4 ad n c m _ i a b w hn hm hr h1 (by omega)
  · rcases hk with rfl | rfl | rfl | rfl
    · exact does_1_no A n c m at' a b w hn hm (Lib.hid hv)
    · exact does_2_no A n c m at' a b w hn hm (Lib.hid hv)
    · exact does_3_no A n c m at' a b w hn hm (Lib.hid hv)
    · exact does_4_no A n c m at' a b w hn hm (Lib.hid hv)

end Go.Proofs.Ytfjmocnkhaomiaa
