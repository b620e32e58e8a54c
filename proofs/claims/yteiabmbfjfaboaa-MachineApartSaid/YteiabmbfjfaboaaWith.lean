/-
  The document's own words with one turned (ref.With), and rows that are the same (ref.Same), walked.
-/
import Derived.Test.YteiabmbfjfaboaaWord2
import Derived.Test.YteiabmbfjfaboaaBox
import Derived.RegionTactic
import Derived.LoopTactic
set_option linter.unusedVariables false
set_option linter.unusedSimpArgs false
namespace Go.Proofs.Yteiabmbfjfaboaa
open Go.RowKit

theorem ith_set (zs : List Int) (i : Nat) (v : Int) (h : i < zs.length) : ith (zs.set i v) i = v := by
  unfold ith
  simp [List.getD_eq_getElem?_getD, h]
theorem take_snoc (zs : List Int) (k : Nat) (h : k < zs.length) : zs.take (k + 1) = zs.take k ++ [ith zs k] := by
  have he := ith_of zs h
  rw [List.getElem?_eq_getElem h, Option.some.injEq] at he
  rw [List.take_succ_eq_append_getElem h, he]
theorem ith_set_ne (zs : List Int) (i k : Nat) (v : Int) (h : i ≠ k) : ith (zs.set i v) k = ith zs k := by
  unfold ith
  simp [List.getD_eq_getElem?_getD, List.getElem?_set_ne h]
theorem Us_append (xs ys : List Int) : Us xs ++ Us ys = Us (xs ++ ys) := by simp [Us]

theorem Rd.apart {w : World} {size n : Nat} {A : Option Addr} {xs : List Value} (h : Rd w size A n xs) {p : Addr} {u : Value} (hne : ∀ q, A = some q → q.block ≠ p.block) : Rd (w.setCell p u) size A n xs :=
  ⟨h.1, fun j u' hu => by
    obtain ⟨ad, ha, hc⟩ := h.2 j u' hu
    refine ⟨ad, ha, ?_⟩
    rw [World.cell?_setCell_other _ _ _ _ (fun e => hne ad ha (by rw [← addr_block ad j]; exact congrArg Addr.block e.symm))]
    exact hc⟩

theorem with_step {w : World} {n k i : Nat} {zs : List Int} {v x : Int} {A : Option Addr} (h : Rd w 1 A n (Us zs)) (hk : k < n)
    (hx : x = if k = i then v else ith zs k) : Us ((zs.set i v).take k) ++ [Value.int .u64 x] = Us ((zs.set i v).take (k + 1)) := by
  have hl := h.u64len
  have e : ith (zs.set i v) k = x := by
    rw [hx]
    split
    · subst_vars; exact ith_set zs _ v (by omega)
    · exact ith_set_ne zs i k v (by omega)
  rw [take_snoc _ k (by simp; omega), e, ← Us_append]
  rfl

set_option maxHeartbeats 800000 in
theorem with_any (A : Option Addr) (n c : Nat) (zs : List Int) (i : Nat) (v : Int) (w : World) (h : Rd w 1 A n (Us zs)) (hn : n ≤ 1000) :
    Calls Try.prog 23 #[.slice A n c, .int .i64 i, .int .u64 v] w fun e w' =>
      ∃ A' c', e = .returned (.slice A' n c') ∧ Rd w' 1 A' n (Us (zs.set i v)) ∧ (∀ q, A' = some q → w.heap.size ≤ q.block) ∧ Ext w w' := by
  obtain ⟨i0, hi0, hz0, hz1, hz2⟩ := info_parts u64_info
  go_enter Try.func23, Try.ntmps23
  go_wp2
  go_loopw [7, 13] (fun u j wr => Ext w wr ∧ ∃ k : Nat, k ≤ n ∧ j = .int .i64 k ∧ wr.ownsRow w.heap.size 24 1 u k (Us ((zs.set i v).take k))) (fun _ j _ => n - (intOf j).toNat)
  case atStart => exact ⟨Ext.new (Ext.refl _) _, 0, Nat.zero_le _, rfl, World.ownsRow_lit w #[] 0 (Nat.le_refl _) (by simp only [maxLen]; omega) rfl⟩
  case round =>
    obtain ⟨hx, k, hk, rfl, hown⟩ := hrel
    by_cases hlt : k < n
    · obtain ⟨ad, rfl⟩ := h.some_ (by omega) (by omega)
      have ca := (h.to hx).u64 hlt
      have hb0 : w.heap.size ≤ wr.heap.size := hx.size
      by_cases hki : k = i
      · subst hki
        have hr := Rd.lit wr #[.int .u64 v] 24 1 (size := 1) rfl
        have ho := hown.alloc (.cells #[.int .u64 v] 24)
        have hs := Lib.hid (with_step (i := k) (v := v) h hlt (x := v) (by rw [if_pos rfl]))
        go_wp2_with (first
          | (at_builtin
             refine wpList_append_rd _ rfl (.tmp 22) (.tmp 24) _ rfl w.heap.size 24 i0 _ 1 8 Try.underlying22 hi0 hz0 hz1 hz2 rfl (by omega) _ k _ rfl ho _ 1 1 _ rfl hr (Us_one [v]) (by simp only [maxLen]; omega) (by omega) (by simp; omega) ?_
             intro v1 w1 hown1 hg1 hat1))
        go_roundw
        case rel => exact ⟨own_back (hx.new _) (by simp; omega) hg1 (fun q hq => (ho.lt q hq).1), k + 1, by omega, by go_num, by rw [← hs.out]; exact hown1⟩
        case measure => simp [intOf]; omega
      · have hne : ((k : Int) == (i : Int)) = false := by simp; omega
        have hr := Rd.lit wr #[.int .u64 (ith zs k)] 24 1 (size := 1) rfl
        have ho := hown.alloc (.cells #[.int .u64 (ith zs k)] 24)
        have hs := Lib.hid (with_step (i := i) (v := v) h hlt (x := ith zs k) (by rw [if_neg hki]))
        clear hki
        go_wp2_with (first
          | (at_builtin
             refine wpList_append_rd _ rfl (.tmp 22) (.tmp 24) _ rfl w.heap.size 24 i0 _ 1 8 Try.underlying22 hi0 hz0 hz1 hz2 rfl (by omega) _ k _ rfl ho _ 1 1 _ rfl hr (Us_one [ith zs k]) (by simp only [maxLen]; omega) (by omega) (by simp; omega) ?_
             intro v1 w1 hown1 hg1 hat1))
        go_roundw
        case rel => exact ⟨own_back (hx.new _) (by simp; omega) hg1 (fun q hq => (ho.lt q hq).1), k + 1, by omega, by go_num, by rw [← hs.out]; exact hown1⟩
        case measure => simp [intOf]; omega
    · have hk' : k = n := by omega
      subst hk'
      have ht : (zs.set i v).take k = zs.set i v := List.take_of_length_le (by simp [h.u64len])
      rw [ht] at hown
      clear ht
      go_wp2
      go_ret
      obtain ⟨A', c', rfl⟩ := own_slice hown
      exact ⟨A', c', rfl, Rd.own hown, fun q hq => (hown.lt q.block (by rw [hq]; rfl)).1, hx⟩

set_option maxHeartbeats 400000 in
theorem same_yes (A B : Option Addr) (n c d : Nat) (zs : List Int) (w : World) (ha : Rd w 1 A n (Us zs)) (hb : Rd w 1 B n (Us zs)) (hn : n ≤ 1000) :
    Calls Try.prog 18 #[.slice A n c, .slice B n d] w fun e w' => e = .returned (.bool true) ∧ Ext w w' := by
  go_enter Try.func18, Try.ntmps18
  go_wp2
  go_loopw [5, 13] (fun _ i wr => Ext w wr ∧ ∃ k : Nat, k ≤ n ∧ i = .int .i64 k) (fun _ i _ => n - (intOf i).toNat)
  case atStart => exact ⟨Ext.refl _, 0, Nat.zero_le _, rfl⟩
  case round =>
    obtain ⟨hx, k, hk, rfl⟩ := hrel
    by_cases hlt : k < n
    · obtain ⟨ad, rfl⟩ := ha.some_ (by omega) (by omega)
      obtain ⟨bd, rfl⟩ := hb.some_ (by omega) (by omega)
      have ca := (ha.to hx).u64 hlt
      have cb := (hb.to hx).u64 hlt
      go_wp2
      go_quiet (fail)
      go_wp2
      go_roundw
      case rel => exact ⟨hx.drewN _, k + 1, by omega, by go_num⟩
      case measure => simp [intOf]; omega
    · go_wp2
      go_ret
      exact ⟨rfl, hx⟩

end Go.Proofs.Yteiabmbfjfaboaa
