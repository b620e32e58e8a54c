/-
  Contracts: next, following, New.
-/
import Derived.Test.YtmfpgbiicncpcaaCopied
set_option linter.unusedVariables false
set_option linter.unusedSimpArgs false
namespace Go.Proofs.Ytmfpgbiicncpcaa
open Go.RowKit

theorem next_is (B : Option Addr) (m d : Nat) (fs : List Int) (y : Int) (w : World) (h : Rd w 1 B (m + 1) (Ks .i64 fs)) (hm : m ≤ 1000) (hd : m + 1 ≤ d) (hd2 : d ≤ maxLen) (hy : fs[m]? = some y) :
    Calls Try.prog 29 #[.slice B (m + 1 : Nat) d] w fun e w' => e = .returned (.tuple #[.int .i64 y, .slice B m m]) ∧ Ext w w' := by
  obtain ⟨ad, rfl, hc⟩ := h.2 m (.int .i64 y) (by simp [Ks, hy])
  have e1 : IntKind.i64.wrap (((m + 1 : Nat) : Int) - 1) = (m : Int) := by rw [IntKind.wrap_i64]; omega
  have e2 : ¬ d < m := by omega
  have hdm : m ≤ d := by omega
  simp only [maxLen] at hd2
  clear hy h
  go_enter Try.func29, Try.ntmps29
  go_wp2_with fail
  go_quiet (fail)
  go_wp2_with fail
  go_ret2
  exact ⟨rfl, (Ext.refl w).drewN _⟩

/-- The generation of a node that was dropped. -/
def foll (g : Int) : Int := if g < 1048576 then g + 1 else 0
theorem foll_may {g : Int} (h : GenMay g) : GenMay (foll g) := by
  unfold foll
  split <;> constructor <;> omega
theorem following_is (g : Int) (w : World) (h : GenMay g) :
    Calls Try.prog 36 #[.int .i64 g] w fun e w' => e = .returned (.int .i64 (foll g)) ∧ w = w' := by
  obtain ⟨h0, h1⟩ := h
  have e1 : (g + 1) % 1048577 = foll g := by
    unfold foll
    split <;> omega
  have HE := Lib.hid e1
  clear e1
  go_enter Try.func36, Try.ntmps36
  go_wp2_with fail
  go_ret
  exact ⟨by rw [← HE.out]; rfl, rfl⟩

theorem new_no (n : Int) (w : World) (h : ¬ (1 ≤ n ∧ n ≤ 512)) :
    Calls Try.prog 10 #[.int .i64 n] w fun e w' => e = .returned (.tuple #[.agg #[.slice none 0 0, .slice none 0 0], .int .i64 1]) ∧ Ext w w' := by
  have B := Bx.new w #[.slice none 0 0, .slice none 0 0] 25
  have hb := B.two (.slice none 0 0) (.slice none 0 0)
  have ho := (Only.two (w.alloc (.cells #[.slice none 0 0, .slice none 0 0] 25)) w.heap.size (.slice none 0 0) (.slice none 0 0)).new ((Ext.refl w).new _) (Nat.le_refl _)
  by_cases h1 : 1 ≤ n
  · have h2 : ¬ n ≤ 512 := fun k => h ⟨h1, k⟩
    clear h
    go_enter Try.func10, Try.ntmps10
    go_wp2_with fail
    refine bodyPost_ret (results_ar2 rfl _ _ w.heap.size #[.slice none 0 0, .slice none 0 0] (by rfl) ?_ rfl) rfl ⟨rfl, ?_⟩
    · first | exact hb | exact B
    · first | exact ho | exact (Ext.refl w).new _
  · clear h
    go_enter Try.func10, Try.ntmps10
    go_wp2_with fail
    refine bodyPost_ret (results_ar2 rfl _ _ w.heap.size #[.slice none 0 0, .slice none 0 0] (by rfl) ?_ rfl) rfl ⟨rfl, ?_⟩
    · first | exact hb | exact B
    · first | exact ho | exact (Ext.refl w).new _

/-- The first k of n places, from the last one down. -/
def downs (n k : Nat) : List Int := (List.range n).map fun (i : Nat) => if i < k then (n : Int) - 1 - i else 0
def down (n : Nat) : List Int := (List.range n).map fun (i : Nat) => (n : Int) - 1 - i
theorem downs_all (n : Nat) : downs n n = down n := by
  unfold downs down
  apply List.map_congr_left
  intro i hi
  simp at hi
  simp [hi]
theorem downs_length (n k : Nat) : (downs n k).length = n := by simp [downs]
def Cs (l : List Int) : Array Value := (Ks .i64 l).toArray
theorem Cs_size (l : List Int) : (Cs l).size = l.length := by simp [Cs, Ks]
theorem Cs_get (l : List Int) (i : Nat) : (Cs l)[i]? = (l[i]?).map (Value.int .i64) := by simp [Cs, Ks]
theorem made_ints (n : Nat) : madeCells #[.int .i64 0] n = Cs (downs n 0) := by
  apply Array.ext'
  rw [toList_madeCells_one]
  apply List.ext_getElem
  · simp [Cs, Ks, downs]
  · intro i h1 h2
    simp [Cs, Ks, downs]
theorem downs_set (n : Nat) {k : Nat} (hk : k < n) : (Cs (downs n k)).setIfInBounds k (.int .i64 ((n : Int) - 1 - k)) = Cs (downs n (k + 1)) := by
  apply Array.ext_getElem?
  intro i
  rw [Array.getElem?_setIfInBounds, Cs_size, downs_length, Cs_get, Cs_get]
  by_cases hi : i < n
  · by_cases e : k = i
    · subst e
      simp [downs, hi]
    · have : (i < k + 1) = (i < k) := by simp; omega
      simp [downs, hi, e, this]
  · have e : ¬ k = i := by omega
    rw [if_neg e, List.getElem?_eq_none (by rw [downs_length]; omega), List.getElem?_eq_none (by rw [downs_length]; omega)]
theorem Bx.ints {W : World} {b : Nat} {l : List Int} (h : Bx W b (Cs l)) {m : Nat} (hm : l.length = m) : Rd W 1 (some ⟨b, 0, none⟩) m (Ks .i64 l) := by
  subst hm
  refine ⟨by simp [Ks], fun j u hu => ⟨_, rfl, ?_⟩⟩
  rw [addr_zero, h.cell j]
  simpa [Cs] using hu
theorem made_nodes (n : Nat) : (madeCells (bare 0).arr (n * 16)).toList = flat Nd.cells (List.replicate n (bare 0)) := by
  have hb : (bare 0).arr.size = 16 := rfl
  have hsz : (madeCells (bare 0).arr (n * 16)).toList.length = n * 16 := by rw [Array.length_toList, size_madeCells]
  have hfl : (flat Nd.cells (List.replicate n (bare 0))).length = n * 16 := by rw [flat_length Nd.cells_length]; simp
  apply List.ext_getElem?
  intro k
  by_cases hk : k < n * 16
  · have e : k = k / 16 * 16 + k % 16 := by omega
    have hm := Nat.mod_lt k (show 0 < 16 by omega)
    have h1 : (flat Nd.cells (List.replicate n (bare 0)))[k]? = (bare 0).cells[k % 16]? := by
      have := flat_get Nd.cells_length (List.replicate n (bare 0)) (k / 16) (k % 16) (bare 0) (by
        rw [List.getElem?_replicate, if_pos (by omega)]) hm
      rw [← e] at this
      exact this
    have h2 : (madeCells (bare 0).arr (n * 16)).toList[k]? = some ((bare 0).arr[k % 16]!) := by
      rw [Array.getElem?_toList]
      unfold madeCells
      rw [hb, Array.getElem?_map, Array.getElem?_range, if_pos hk]
      rfl
    rw [h1, h2, getElem!_pos _ _ (by rw [hb]; exact hm), ← Nd.arr_get, Array.getElem?_eq_getElem (by rw [hb]; exact hm)]
  · rw [List.getElem?_eq_none (by omega), List.getElem?_eq_none (by omega)]

def NewA (w : World) (n : Nat) (e : Ending) (w' : World) : Prop :=
  ∃ g c h d, e = .returned (.tuple #[.agg #[.slice (some ⟨g, 0, none⟩) n c, .slice (some ⟨h, 0, none⟩) n d], .int .i64 0]) ∧ n ≤ d ∧ d ≤ maxLen ∧ Ar w' (some ⟨g, 0, none⟩) n (some ⟨h, 0, none⟩) n (List.replicate n (bare 0)) (down n) ∧ Ext w w' ∧ FrA w g (some ⟨h, 0, none⟩)

set_option maxHeartbeats 1600000 in
theorem new_yes (n : Nat) (w : World) (h1 : 1 ≤ n) (h2 : n ≤ 512) :
    Calls Try.prog 10 #[.int .i64 n] w (NewA w n) := by
  obtain ⟨i0, hi0, hz0, hz1, hz2⟩ := info_parts int_info
  obtain ⟨i1, hi1, hy0, hy1, hy2⟩ := info_parts node_info
  obtain ⟨w1, hw1⟩ : ∃ w1, w1 = w.alloc (.cells #[.slice none 0 0, .slice none 0 0] 25) := ⟨_, rfl⟩
  obtain ⟨w2, hw2⟩ : ∃ w2, w2 = w1.alloc (.cells (madeCells #[.int .i64 0] n) 3) := ⟨_, rfl⟩
  obtain ⟨B1, hx1, hs1⟩ := box_made hw1
  obtain ⟨B2, hx2, hs2⟩ := box_made hw2
  rw [made_ints] at B2
  have H1 := Lib.hid hw1
  have H2 := Lib.hid hw2
  have HB1 := Lib.hid B1
  have HB2 := Lib.hid B2
  have X1 := Lib.hid hx1
  have X2 := Lib.hid hx2
  have S1 := Lib.hid hs1
  clear hw1 hw2 B1 B2 hx1 hx2 hs1 hs2
  go_enter Try.func10, Try.ntmps10
  go_wp2_with (at_make; rw [← H1.out]; refine wpList_make_row _ rfl _ _ 23 rfl 3 i0 (.int .i64 0) Try.underlying23 hi0 hz0 hz1 rfl .i64 .i64 n rfl rfl (by rw [hz2]; omega) (by omega) ?_; rw [← H2.out])
  go_loopw [5, 17] (fun _ j wr => Ext w1 wr ∧ ∃ k : Nat, k ≤ n ∧ j = .int .i64 k ∧ Hid (Bx wr w1.heap.size (Cs (downs n k)))) (fun _ j _ => n - (intOf j).toNat)
  case atStart => exact ⟨X2.out, 0, Nat.zero_le _, rfl, HB2⟩
  case round =>
    obtain ⟨hx, k, hk, rfl, hB⟩ := hrel
    by_cases hlt : k < n
    · have c0 := (hB.out.cell k).trans ((Cs_get _ k).trans (congrArg _ (List.getElem?_eq_getElem (by rw [downs_length]; exact hlt))))
      have f0 := hB.out.free k
      simp only [Option.map_some] at c0
      generalize (downs n k)[k]'(by rw [downs_length]; exact hlt) = old at c0
      go_wp2_with fail
      go_roundw
      case rel => exact ⟨hx.set _ (Nat.le_refl _), k + 1, by omega, by go_num, Lib.hid (by
        have := hB.out.set (j := k) (by rw [Cs_size, downs_length]; exact hlt) (.int .i64 ((n : Int) - 1 - k))
        rw [downs_set n hlt] at this
        exact this)⟩
      case measure => simp [intOf]; omega
    · obtain rfl : k = n := by omega
      rw [downs_all] at hB
      have hR := hB.out.ints (m := k) (by simp [down])
      have HR := Lib.hid hR
      have HX := Lib.hid hx
      clear hR hx
      rename World => w4
      go_wp2_with
        (at_make
         refine wpList_make_full w4 rfl _ _ 22 rfl w.heap.size 30 i1 _ 16 Try.underlying22 hi1 hy0 hy1 .i64 .i64 _ _ k rfl rfl rfl rfl (by rw [hy2]; omega) (by unfold maxLen; omega) (by have := HX.out.size; have := S1.out; omega) ?_
         intro w5 hown hgr
         have X5 : Ext w4 w5 := ⟨hgr.os, hgr.tape, hgr.output, hgr.size, fun k hk => hgr.block k hk (by simp)⟩
         have B5 := HB1.out.to (HX.out.step X5)
         have f0 : w5.cell? ⟨w.heap.size, 0, none⟩ = some (.slice none 0 0) := B5.cell 0
         have f1 : w5.cell? ⟨w.heap.size, 1, none⟩ = some (.slice none 0 0) := B5.cell 1
         have f2 : w5.frozen? ⟨w.heap.size, 0, none⟩ = false := B5.free 0
         have f3 : w5.frozen? ⟨w.heap.size, 1, none⟩ = false := B5.free 1)
      rw [show (Value.agg #[.int .i64 0, .int .i64 0, .int .i64 0, .int .i64 0, .int .i64 0, .int .u64 0, .int .u64 0, .int .u64 0, .int .u64 0, .int .u64 0, .int .u64 0, .int .u64 0, .int .u64 0, .int .u64 0, .int .i64 0, .int .i64 0]) = .agg (bare 0).arr from rfl] at hown
      simp only [Value.cells] at hown
      rw [made_nodes] at hown
      obtain ⟨g, c, hv, hg, hO⟩ := OwnN.of_own hown (by omega)
      obtain ⟨rfl, _⟩ : g = w4.heap.size ∧ c = k := by
        injection hv with h1 _ h2
        injection h1 with h1
        injection h1 with h1
        exact ⟨h1.symm, h2.symm⟩
      have ho := Only.two w5 w.heap.size (.slice (some ⟨w4.heap.size, 0, none⟩) k k) (.slice (some ⟨w1.heap.size, 0, none⟩) k k)
      have hXX := (X1.out.step HX.out).step X5
      have hs := HX.out.size
      have hs1 := S1.out
      refine bodyPost_ret (results_ar2 rfl _ _ w.heap.size #[.slice (some ⟨w4.heap.size, 0, none⟩) k k, .slice (some ⟨w1.heap.size, 0, none⟩) k k] (by rfl) (B5.two _ _) rfl) rfl ?_
      exact ⟨w4.heap.size, k, w1.heap.size, k, rfl, Nat.le_refl _, by unfold maxLen; omega, ⟨(hO.only ho (by omega)).rd (by simp), ho.rd (HR.out.to X5) (fun q hq e => by injection hq with hq; subst hq; simp at e; omega), fun x hx => by rw [List.eq_of_mem_replicate hx]; intro r hr; simp [bare, Nd.kids] at hr; subst hr; omega⟩, ho.new hXX (Nat.le_refl _), by omega, fun q hq => by injection hq with hq; subst hq; show w.heap.size ≤ w1.heap.size; omega⟩

end Go.Proofs.Ytmfpgbiicncpcaa
