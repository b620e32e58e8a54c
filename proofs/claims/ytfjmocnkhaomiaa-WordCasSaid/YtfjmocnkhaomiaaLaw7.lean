/-
  The walk of WordApart: a step changes no other word, and not what it was handed.
-/
import Derived.Test.YtfjmocnkhaomiaaLaw6
namespace Go.Proofs.Ytfjmocnkhaomiaa
open Go.RowKit

set_option maxRecDepth 100000 in
set_option maxHeartbeats 2000000 in
theorem apart_yes (ad : Addr) (n c m : Nat) (zs : List Int) (k a b : Int) (i : Nat) (w : World) (hn : n ≤ c) (hm : Hid (min n 66 = m)) (h : Rd w 1 (some ad) m (Us zs)) (h1 : m ≤ 64) (h3 : i < m) (now ans : Int)
    (hk : Hid (change k a b (ith zs i) = some (now, ans))) :
    Calls Try.prog 4 #[.slice (some ad) n c, .agg #[.int .i64 k, .int .i64 i, .int .u64 a, .int .u64 b]] w fun e w' => e = .returned (.bool true) ∧ Ext w w' := by
  have hl : i < zs.length := by rw [h.u64len]; exact h3
  have HI := Lib.hid (fun v => ith_set (zs.set i now) i v (by simpa using hl))
  have HL := Lib.hid (fun k (hne : i ≠ k) => ith_set_ne zs i k now hne)
  obtain ⟨i0, hi0, hz0, hz1, hz2⟩ := info_parts u64_info
  have hx0 := Ext.new (Ext.refl w) (.cells #[.int .i64 k, .int .i64 i, .int .u64 a, .int .u64 b] 25)
  have hx00 := Ext.new hx0 (.cells #[] 23)
  have ho : ((w.alloc (.cells #[.int .i64 k, .int .i64 i, .int .u64 a, .int .u64 b] 25)).alloc (.cells #[] 23)).ownsRow w.heap.size 23 1 (.slice (some ⟨w.heap.size + 1, 0, none⟩) 0 0) 0 [] := by
    have := World.ownsRow_lit (base := w.heap.size) (e := 23) (size := 1) (w.alloc (.cells #[.int .i64 k, .int .i64 i, .int .u64 a, .int .u64 b] 25)) #[] 0 (by simp) (by simp only [maxLen]; omega) rfl
    simpa using this
  have ho' : ∀ q, (Value.slice (some ⟨w.heap.size + 1, 0, none⟩) 0 0).ownBlock = some q → w.heap.size + 1 ≤ q := fun q hq => by simp [Value.ownBlock] at hq; omega
  have hr := h.to hx00
  have q0 := (Box.new w #[.int .i64 k, .int .i64 i, .int .u64 a, .int .u64 b] 25)
  go_enter Try.func4, Try.ntmps4
  go_wp2_with fail
  refine (few_any _ _ _ _ hn).mono ?_; rintro e w' ⟨rfl, rfl⟩
  rw [hm.out]
  go_wp2_with (first
    | (at_builtin
       refine wpList_append_rd _ rfl (.tmp 16) (.tmp 17) _ rfl w.heap.size 23 i0 _ 1 8 Try.underlying22 hi0 hz0 hz1 hz2 rfl (by omega) (.slice (some ⟨w.heap.size + 1, 0, none⟩) 0 0) 0 [] rfl ho (some ad) m c (Us zs) rfl hr (Us_one zs) (by simp only [maxLen]; omega) (by omega) (by simp; omega) ?_
       intro v1 w1 hown1 hg1 hat1
       obtain ⟨A1, c1, rfl⟩ := own_slice hown1
       have f1 : Ext (w.alloc (.cells #[.int .i64 k, .int .i64 i, .int .u64 a, .int .u64 b] 25)) w1 := own_back (Ext.new (Ext.refl _) _) (by simp) hg1 (fun q hq => by have := ho' q hq; simpa using this)
       replace q0 := q0.to f1
       have r0 := q0.2))
  clear r0 ho ho' hg1 hat1 hr
  have hb1 := Rd.own hown1
  rw [List.nil_append, Nat.zero_add] at hb1
  have E1 := hx0.step f1
  refine (do_yes ad m c zs k a b i _ (h.to E1) h1 h3 now ans hk.out).mono ?_; rintro e w2 ⟨A2, c2, rfl, hr2, hx2⟩
  replace q0 := q0.to hx2
  replace hb1 := hb1.to hx2
  have E2 := E1.step hx2
  clear f1 E1 hx0 hx00 hown1
  go_wp2_with fail
  refine (same_yes _ _ _ _ _ zs _ (h.to E2) hb1 (by omega)).mono ?_; rintro e w3 ⟨rfl, hx3⟩
  replace q0 := q0.to hx3
  replace hr2 := hr2.to hx3
  have E3 := E2.step hx3
  clear E2 hx2 hx3 hb1
  go_wp2_with fail
  refine (alive_yes _).mono ?_; rintro e w4 ⟨rfl, hx4⟩
  replace q0 := q0.to hx4
  replace hr2 := hr2.to hx4
  have E4 := E3.step hx4
  clear E3 hx4
  obtain ⟨ad2, rfl⟩ := hr2.some_ (by omega) (by omega)
  have hm4 := h.to E4
  go_wp2_with fail
  go_loopw [9, 51] (fun _ j wr => Ext w4 wr ∧ ∃ t : Nat, t ≤ m ∧ j = .int .i64 t) (fun _ j _ => m - (intOf j).toNat)
  case atStart => exact ⟨Ext.refl _, 0, Nat.zero_le _, rfl⟩
  case round =>
    obtain ⟨hx, t, ht, rfl⟩ := hrel
    have r0 := (q0.to hx).2
    by_cases hlt : t < m
    · have ca := (hm4.to hx).u64 hlt
      have cb := (hr2.to hx).u64 hlt
      by_cases hti : i = t
      · subst hti
        have hd : ((i : Int) != (i : Int)) = false := by simp
        go_wp2
        go_quiet (fail)
        go_wp2
        go_roundw
        case rel => exact ⟨hx.drewN _, i + 1, by omega, by go_num⟩
        case measure => simp [intOf]; omega
      · have hd : ((t : Int) != (i : Int)) = true := by simp; omega
        rw [HL.out t hti] at cb
        have hti' := Lib.hid hti
        clear hti
        go_wp2
        go_quiet (fail)
        go_wp2
        go_roundw
        case rel => exact ⟨hx.drewN _, t + 1, by omega, by go_num⟩
        case measure => simp [intOf]; omega
    · have E5 := E4.step hx
      have hr3 := hr2.to hx
      replace q0 := q0.to hx
      go_wp2_with fail
      clear r0
      refine (store_yes ad2 m c2 _ b i _ hr3 h1 h3).mono ?_; rintro e w5 ⟨A5, c5, rfl, hr5, hx5⟩
      obtain ⟨ad5, rfl⟩ := hr5.some_ (by omega) (by omega)
      have r0 := (q0.to hx5).2
      go_wp2_with fail
      refine (load_yes ad5 m c5 _ i _ hr5 h1 h3).mono ?_; rintro e w' ⟨rfl, rfl⟩
      rw [HI.out]
      go_wp2_with fail
      go_ret
      exact ⟨rfl, E5.step hx5⟩

set_option maxRecDepth 100000 in
set_option maxHeartbeats 2000000 in
theorem apart_no (A : Option Addr) (n c m : Nat) (zs : List Int) (k at' a b : Int) (w : World) (hn : n ≤ c) (hm : Hid (min n 66 = m)) (h : Rd w 1 A m (Us zs)) (hno : Hid (¬ (m ≤ 64 ∧ 0 ≤ at' ∧ at' < m ∧ 1 ≤ k ∧ k ≤ 4))) (h66 : m ≤ 66) :
    Calls Try.prog 4 #[.slice A n c, .agg #[.int .i64 k, .int .i64 at', .int .u64 a, .int .u64 b]] w fun e w' => e = .returned (.bool true) ∧ Ext w w' := by
  obtain ⟨i0, hi0, hz0, hz1, hz2⟩ := info_parts u64_info
  have hx0 := Ext.new (Ext.refl w) (.cells #[.int .i64 k, .int .i64 at', .int .u64 a, .int .u64 b] 25)
  have hx00 := Ext.new hx0 (.cells #[] 23)
  have ho : ((w.alloc (.cells #[.int .i64 k, .int .i64 at', .int .u64 a, .int .u64 b] 25)).alloc (.cells #[] 23)).ownsRow w.heap.size 23 1 (.slice (some ⟨w.heap.size + 1, 0, none⟩) 0 0) 0 [] := by
    have := World.ownsRow_lit (base := w.heap.size) (e := 23) (size := 1) (w.alloc (.cells #[.int .i64 k, .int .i64 at', .int .u64 a, .int .u64 b] 25)) #[] 0 (by simp) (by simp only [maxLen]; omega) rfl
    simpa using this
  have ho' : ∀ q, (Value.slice (some ⟨w.heap.size + 1, 0, none⟩) 0 0).ownBlock = some q → w.heap.size + 1 ≤ q := fun q hq => by simp [Value.ownBlock] at hq; omega
  have hr := h.to hx00
  have q0 := (Box.new w #[.int .i64 k, .int .i64 at', .int .u64 a, .int .u64 b] 25)
  go_enter Try.func4, Try.ntmps4
  go_wp2_with fail
  refine (few_any _ _ _ _ hn).mono ?_; rintro e w' ⟨rfl, rfl⟩
  rw [hm.out]
  go_wp2_with (first
    | (at_builtin
       refine wpList_append_rd _ rfl (.tmp 16) (.tmp 17) _ rfl w.heap.size 23 i0 _ 1 8 Try.underlying22 hi0 hz0 hz1 hz2 rfl (by omega) (.slice (some ⟨w.heap.size + 1, 0, none⟩) 0 0) 0 [] rfl ho A m c (Us zs) rfl hr (Us_one zs) (by simp only [maxLen]; omega) (by omega) (by simp; omega) ?_
       intro v1 w1 hown1 hg1 hat1
       have f1 : Ext (w.alloc (.cells #[.int .i64 k, .int .i64 at', .int .u64 a, .int .u64 b] 25)) w1 := own_back (Ext.new (Ext.refl _) _) (by simp) hg1 (fun q hq => by have := ho' q hq; simpa using this)
       replace q0 := q0.to f1
       have r0 := q0.2))
  clear r0 ho ho' hg1 hat1 hr hown1
  have E1 := hx0.step f1
  refine (do_no A m c k at' a b _ hno.out).mono ?_; rintro e w2 ⟨rfl, hx2⟩
  have E2 := E1.step hx2
  go_wp2_with fail
  refine (alive_yes _).mono ?_; rintro e w4 ⟨rfl, hx4⟩
  go_wp2_with fail
  go_ret
  exact ⟨rfl, E2.step hx4⟩

theorem change_some {k a b old : Int} (h1 : 1 ≤ k) (h4 : k ≤ 4) : ∃ now ans, change k a b old = some (now, ans) := by
  have : k = 1 ∨ k = 2 ∨ k = 3 ∨ k = 4 := by omega
  unfold change
  rcases this with rfl | rfl | rfl | rfl
  · exact ⟨_, _, rfl⟩
  · exact ⟨_, _, rfl⟩
  · by_cases h : old = a
    · exact ⟨b, 1, by simp [h]⟩
    · exact ⟨old, 0, by simp [h]⟩
  · exact ⟨_, _, rfl⟩

theorem WordApart_walk (w : World) (A : Option Addr) (n c : Nat) (zs0 : List Int) (h0 : Rd w 1 A n (Us zs0)) (hn : n ≤ c) (_ : c ≤ maxLen) (_ : ∀ z ∈ zs0, (Lit.int .u64 z).wf = true)
    (k at' a b : Int) (_ : (Lit.int .i64 k).wf = true) (_ : (Lit.int .i64 at').wf = true) (_ : (Lit.int .u64 a).wf = true) (_ : (Lit.int .u64 b).wf = true) :
    Calls Try.prog 4 #[.slice A n c, .agg #[.int .i64 k, .int .i64 at', .int .u64 a, .int .u64 b]] w fun e w' => e = .returned (.bool true) ∧ Ext w w' := by
  obtain ⟨m, hm⟩ : ∃ m, Hid (min n 66 = m) := ⟨_, Lib.hid rfl⟩
  have hmn : m ≤ n := by have := hm.out; omega
  have h := h0.take hmn
  rw [Nat.mul_one, Us_take] at h
  generalize zs0.take m = zs at h
  by_cases hv : m ≤ 64 ∧ 0 ≤ at' ∧ at' < m ∧ 1 ≤ k ∧ k ≤ 4
  · obtain ⟨h1, h2, h3, h4, h5⟩ := hv
    obtain ⟨i, rfl⟩ := Int.eq_ofNat_of_zero_le h2
    obtain ⟨ad, rfl⟩ := h.some_ (by omega) (by omega)
    obtain ⟨now, ans, hk⟩ := change_some (a := a) (b := b) (old := ith zs i) h4 h5
    exact apart_yes ad n c m zs k a b i w hn hm h h1 (by omega) now ans (Lib.hid hk)
  · exact apart_no A n c m zs k at' a b w hn hm h (Lib.hid hv) (by have := hm.out; omega)

end Go.Proofs.Ytfjmocnkhaomiaa
