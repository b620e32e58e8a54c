/-
  The walks of WordSwaps.
-/
import Derived.Test.YtfjmocnkhaomiaaLaw1
import Derived.Test.YtfjmocnkhaomiaaOpen
import Derived.OpenShut
namespace Go.Proofs.Ytfjmocnkhaomiaa
open Go.RowKit

theorem set_back (zs : List Int) (i : Nat) (v : Int) (h : i < zs.length) : (zs.set i v).set i (ith zs i) = zs := by
  have he := ith_of zs h
  rw [List.getElem?_eq_getElem h, Option.some.injEq] at he
  rw [List.set_set, ← he, List.set_getElem_self]
theorem ith_set (zs : List Int) (i : Nat) (v : Int) (h : i < zs.length) : ith (zs.set i v) i = v := by
  unfold ith
  simp [List.getD_eq_getElem?_getD, h]

set_option maxHeartbeats 800000 in
theorem swaps_yes (ad : Addr) (n c : Nat) (zs : List Int) (i : Nat) (v : Int) (w : World) (h : Rd w 1 (some ad) n (Us zs)) (hn : n ≤ c) (h1 : n ≤ 64) (h3 : i < n)
    (hwrap : ith zs i ≠ IntKind.u64.wrap (ith zs i + 1)) :
    Calls Try.prog 7 #[.slice (some ad) n c, .int .i64 i, .int .u64 v] w fun e w' => e = .returned (.bool true) ∧ Ext w w' := by
  have hl : i < zs.length := by rw [h.u64len]; exact h3
  have HB := Lib.hid (set_back zs i v hl)
  have HI := Lib.hid (ith_set zs i v hl)
  have HW := Lib.hid hwrap
  clear hwrap
  have Hmin := Lib.hid (show min n 66 = n by omega)
  go_enter Try.func7, Try.ntmps7
  go_wp2_with fail
  refine (few_any _ _ _ _ hn).mono ?_; rintro e w' ⟨rfl, rfl⟩
  rw [Hmin.out]
  go_wp2_with fail
  refine (load_yes ad n c zs i _ h h1 h3).mono ?_; rintro e w' ⟨rfl, rfl⟩
  go_wp2_with fail
  refine (cas_yes ad n c zs (ith zs i) v i _ h h1 h3 rfl).mono ?_; rintro e w1 ⟨A1, c1, rfl, hr1, hx1⟩
  obtain ⟨ad1, rfl⟩ := hr1.some_ (by omega) (by omega)
  go_wp2_with fail
  refine (cas_yes ad1 n c1 (zs.set i v) v (ith zs i) i _ hr1 h1 h3 HI.out).mono ?_; rintro e w2 ⟨A2, c2, rfl, hr2, hx2⟩
  rw [HB.out] at hr2
  have h2 := h.to (hx1.step hx2)
  go_wp2_with fail
  refine (cas_not ad n c zs _ v i _ h2 h1 h3 HW.out).mono ?_; rintro e w3 ⟨A3, c3, rfl, hr3, hx3⟩
  go_wp2_with fail
  refine (alive_yes _).mono ?_; rintro e w4 ⟨rfl, hx4⟩
  have h4 := h2.to (hx3.step hx4)
  have hb4 := hr2.to (hx3.step hx4)
  have hc4 := hr3.to hx4
  go_wp2_with fail
  refine (same_yes _ _ _ _ _ zs _ hb4 h4 (by omega)).mono ?_; rintro e w5 ⟨rfl, hx5⟩
  go_wp2_with fail
  refine (same_yes _ _ _ _ _ zs _ (hc4.to hx5) (h4.to hx5) (by omega)).mono ?_; rintro e w6 ⟨rfl, hx6⟩
  go_wp2_with fail
  go_ret
  exact ⟨rfl, ((((hx1.step hx2).step hx3).step hx4).step hx5).step hx6⟩

set_option maxHeartbeats 800000 in
theorem swaps_no (A : Option Addr) (n c : Nat) (at' v : Int) (w : World) (hn : n ≤ c) (hno : ¬ (n ≤ 64 ∧ 0 ≤ at' ∧ at' < n)) :
    Calls Try.prog 7 #[.slice A n c, .int .i64 at', .int .u64 v] w fun e w' => e = .returned (.bool true) ∧ Ext w w' := by
  have HN := Lib.hid (show ¬ (min n 66 ≤ 64 ∧ 0 ≤ at' ∧ at' < ((min n 66 : Nat) : Int)) by omega)
  clear hno
  generalize hm : min n 66 = m at HN
  have Hm := Lib.hid hm
  clear hm
  go_enter Try.func7, Try.ntmps7
  go_wp2_with fail
  refine (few_any _ _ _ _ hn).mono ?_; rintro e w' ⟨rfl, rfl⟩
  rw [Hm.out]
  go_wp2_with fail
  refine (load_no A m c at' _ HN.out).mono ?_; rintro e w' ⟨rfl, rfl⟩
  go_wp2_with fail
  refine (cas_no A m c at' _ _ _ HN.out).mono ?_; rintro e w1 ⟨rfl, hx1⟩
  go_wp2_with fail
  refine (alive_yes _).mono ?_; rintro e w4 ⟨rfl, hx4⟩
  go_wp2_with fail
  go_ret
  exact ⟨rfl, hx1.step hx4⟩

theorem wraps_on {z : Int} (h : (Lit.int .u64 z).wf = true) : z ≠ IntKind.u64.wrap (z + 1) := by
  obtain ⟨h1, h2⟩ := bounds_u64 h
  rw [IntKind.wrap_u64]
  omega

theorem WordSwaps_walk (w : World) (A : Option Addr) (n c : Nat) (zs : List Int) (h : Rd w 1 A n (Us zs)) (hn : n ≤ c) (_ : c ≤ maxLen) (hw : ∀ z ∈ zs, (Lit.int .u64 z).wf = true) (at' : Int) (_ : (Lit.int .i64 at').wf = true) (v : Int) (_ : (Lit.int .u64 v).wf = true) :
    Calls Try.prog 7 #[.slice A n c, .int .i64 at', .int .u64 v] w fun e w' => e = .returned (.bool true) ∧ Ext w w' := by
  by_cases hv : n ≤ 64 ∧ 0 ≤ at' ∧ at' < n
  · obtain ⟨h1, h2, h3⟩ := hv
    obtain ⟨i, rfl⟩ := Int.eq_ofNat_of_zero_le h2
    obtain ⟨ad, rfl⟩ := h.some_ (by omega) (by omega)
    have hi : i < zs.length := by rw [h.u64len]; omega
    exact swaps_yes ad n c zs i v w h hn h1 (by omega) (wraps_on (hw _ (List.mem_of_getElem? (ith_of zs hi))))
  · exact swaps_no A n c at' v w hn hv

end Go.Proofs.Ytfjmocnkhaomiaa
