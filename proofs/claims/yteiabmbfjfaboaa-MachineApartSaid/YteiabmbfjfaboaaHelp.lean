/-
  Contracts of the statements' helpers: few, words.
-/
import Derived.Test.YteiabmbfjfaboaaLike
import Derived.Test.YteiabmbfjfaboaaWith
import Derived.Laws.CopyOwn
import Derived.Laws.MakeOwn
set_option linter.unusedVariables false
set_option linter.unusedSimpArgs false
namespace Go.Proofs.Yteiabmbfjfaboaa
open Go.RowKit

/-- A process with the first 66 instructions of its program. -/
def Pc.cut (p : Pc) : Pc := { p with prog := p.prog.take 66 }
theorem Prg.cut {w : World} {A : Option Addr} {p : Pc} (h : Prg w A p.prog) : Prg w A p.cut.prog := by
  have hr : Rd w 5 A (min 66 p.prog.length) ((flat Ins.cells p.prog).take (min 66 p.prog.length * 5)) := Rd.take h (Nat.min_le_right _ _)
  rw [flat_take Ins.cells_length] at hr
  have e : p.cut.prog = p.prog.take 66 := rfl
  have e2 : p.prog.take (min 66 p.prog.length) = p.prog.take 66 := by
    rcases Nat.le_total 66 p.prog.length with h' | h'
    · rw [Nat.min_eq_left h']
    · rw [Nat.min_eq_right h', List.take_of_length_le (Nat.le_refl _), List.take_of_length_le h']
  rw [e2] at hr
  unfold Prg
  rw [e, List.length_take]
  exact hr

set_option maxHeartbeats 800000 in
theorem few_is (A : Option Addr) (c : Nat) (p : Pc) (w : World) (hc : p.prog.length ≤ c) :
    Calls Try.prog 10 #[.agg #[.slice A p.prog.length c, .int .i64 p.at_, .int .u64 (p.rs 0), .int .u64 (p.rs 1), .int .u64 (p.rs 2), .int .u64 (p.rs 3), .bool p.done, .int .i64 p.took]] w fun e w' => e = .returned (.agg #[.slice A p.cut.prog.length c, .int .i64 p.cut.at_, .int .u64 (p.cut.rs 0), .int .u64 (p.cut.rs 1), .int .u64 (p.cut.rs 2), .int .u64 (p.cut.rs 3), .bool p.cut.done, .int .i64 p.cut.took]) ∧ Ext w w' := by
  have hcl : p.cut.prog.length = min 66 p.prog.length := by simp [Pc.cut]
  by_cases h : p.prog.length ≤ 66
  · have e : p.cut.prog.length = p.prog.length := by omega
    rw [e]
    go_enter Try.func10, Try.ntmps10
    go_wp2_with fail
    all_goals refine bodyPost_ret (v := .agg #[.slice A p.prog.length c, .int .i64 p.at_, .int .u64 (p.rs 0), .int .u64 (p.rs 1), .int .u64 (p.rs 2), .int .u64 (p.rs 3), .bool p.done, .int .i64 p.took]) (by first | (simp [results, Try.results10, go_sem]; done) | (simp [results, Try.results10, go_sem]; omega)) rfl ⟨rfl, ((Ext.refl w).new _).new _⟩
  · have e : p.cut.prog.length = 66 := by omega
    rw [e]
    go_enter Try.func10, Try.ntmps10
    go_wp2_with fail
    all_goals refine bodyPost_ret (v := .agg #[.slice A 66 c, .int .i64 p.at_, .int .u64 (p.rs 0), .int .u64 (p.rs 1), .int .u64 (p.rs 2), .int .u64 (p.rs 3), .bool p.done, .int .i64 p.took]) (by first | (simp [results, Try.results10, go_sem]; done) | (simp [results, Try.results10, go_sem]; omega)) rfl ⟨rfl, ((Ext.refl w).new _).new _⟩

/-- 64 words, of some. -/
def fill (zs : List Int) : List Int := zs.take 64 ++ List.replicate (64 - (zs.take 64).length) 0
theorem fill_length (zs : List Int) : (fill zs).length = 64 := by simp [fill]; omega

theorem splice_fill (N : Nat) (ys : List Int) : splice (Us (List.replicate N 0)) 0 (Us ys) = Us (ys ++ List.replicate (N - ys.length) 0) := by simp [splice, Us]
theorem made_row {w : World} {base g n : Nat} {e : TypeId} {xs : List Value} (h : w.ownsRow base e 1 (.slice (some ⟨g, 0, none⟩) n n) n xs) : w.heap[g]? = some (.cells xs.toArray e (0, 0)) := by
  rcases h.2 with ⟨h', _⟩ | ⟨g', cap, cur, h', _, hg, _, _, hs, ht⟩
  · simp at h'
  · simp only [Value.slice.injEq, Option.some.injEq, Addr.mk.injEq, and_true, true_and] at h'
    obtain ⟨rfl, rfl⟩ := h'
    rw [List.take_of_length_le (by simp [hs])] at ht
    rw [← ht, hg]

set_option maxHeartbeats 800000 in
theorem words_is (A : Option Addr) (n c : Nat) (zs : List Int) (w : World) (h : Rd w 1 A n (Us zs)) :
    Calls Try.prog 11 #[.slice A n c] w fun e w' => ∃ g, e = .returned (.slice (some ⟨g, 0, none⟩) 64 64) ∧ w.heap.size ≤ g ∧ Rd w' 1 (some ⟨g, 0, none⟩) 64 (Us (fill zs)) ∧ Ext w w' := by
  obtain ⟨i0, hi0, hz0, hz1, hz2⟩ := info_parts u64_info
  have hlen := h.u64len
  have hsz : (Try.prog.info? 24).map (·.size) = some 1 := by rw [hi0]; simp [hz1]
  obtain ⟨cs, hcs⟩ : ∃ cs, cs = Us (zs.take 64) := ⟨_, rfl⟩
  have hcl : cs.length = Nat.min n 64 := by rw [hcs]; simp [Us, hlen]; exact Nat.min_comm _ _
  have hcell : ∀ j v, cs[j]? = some v → ∃ ad, A = some ad ∧ w.cell? (ad.add j) = some v := fun j v hj => by
    rw [hcs, Us_get, List.getElem?_take] at hj
    split at hj
    · exact h.2 j v (by rw [Us_get]; exact hj)
    · cases hj
  have hone : ∀ v ∈ cs, v.oneCell' = true := by rw [hcs]; exact Us_one _
  have HC := Lib.hid hcs
  clear hcs
  go_enter Try.func11, Try.ntmps11
  go_wp2_with (first
    | (at_make
       refine wpList_make_full _ rfl _ _ _ rfl w.heap.size 24 i0 _ 1 Try.underlying22 hi0 hz0 hz1 .i64 .i64 _ _ 64 rfl rfl rfl rfl (by rw [hz2]; omega) (by simp only [maxLen]; omega) (Nat.le_refl _) ?_
       intro w1 hown1 hg1
       have hrow := made_row hown1
       rw [show (madeCells (Value.int .u64 0).cells (64 * 1)).toList = Us (List.replicate 64 0) by simp [Us, Value.cells, toList_madeCells_one]] at hrow
       have E1 : Ext w w1 := (Ext.refl w).grown hg1 (Nat.le_refl _) (by simp)
       have hcell1 : ∀ j v, cs[j]? = some v → ∃ ad, A = some ad ∧ w1.cell? (ad.add j) = some v := fun j v hj => by
         obtain ⟨ad, ha, hc⟩ := hcell j v hj
         exact ⟨ad, ha, E1.cellOf hc⟩
       have hpos : 0 < cs.length → (some (⟨w.heap.size, 0, none⟩ : Addr)) = some ⟨w.heap.size, 0, none⟩ ∧ ∃ ad, A = some ad ∧ ∀ j v, cs[j]? = some v → w1.cell? (ad.add j) = some v := fun h0 => by
         obtain ⟨ad, ha, _⟩ := hcell1 0 _ (List.getElem?_eq_getElem h0)
         refine ⟨rfl, ad, ha, fun j v hj => ?_⟩
         obtain ⟨ad', ha', hc⟩ := hcell1 j v hj
         rw [ha] at ha'
         injection ha' with ha'
         rw [ha']
         exact hc
       have hfit : 0 + cs.length ≤ (Us (List.replicate 64 0)).length := by
         have : Nat.min n 64 ≤ 64 := Nat.min_le_right _ _
         simp [Us]; omega)
    | (with_reducible refine wpList_copy_splice rfl (.tmp 5) (.tmp 6) 22 22 rfl 24 Try.underlying22 hsz (some ⟨w.heap.size, 0, none⟩) A 64 64 n c rfl rfl w.heap.size 0 (Us (List.replicate 64 0)) 24 hrow cs hcl hpos hfit hone w.heap.size w E1 (Nat.le_refl _) ?_
       intro w2 HG2 hB2))
  go_ret
  refine ⟨_, rfl, Nat.le_refl _, ?_, hB2⟩
  have hg2 := HG2.out
  have hspl : splice (Us (List.replicate 64 0)) 0 cs = Us (fill zs) := by
    rw [HC.out]
    exact splice_fill 64 _
  rw [hspl] at hg2
  refine ⟨by simp [Us, fill_length], fun j u hu => ⟨_, rfl, ?_⟩⟩
  rw [addr_zero, cell_of_row _ _ _ _ _ _ hg2]
  simpa using hu

end Go.Proofs.Yteiabmbfjfaboaa
