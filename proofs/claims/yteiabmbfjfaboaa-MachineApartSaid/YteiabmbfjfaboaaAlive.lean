/-
  The contract of alive.
-/
import Derived.Test.YteiabmbfjfaboaaMStep
import Derived.Deep.DrawnRows
import Derived.Deep.OwnRows
set_option linter.unusedVariables false
set_option linter.unusedSimpArgs false
namespace Go.Proofs.Yteiabmbfjfaboaa
open Go.RowKit
attribute [local go_sem ↓] Go.wp_at_zero Go.wp_at_succ

theorem Rd.litAt {W : World} {cs : Array Value} {e : TypeId} {n size b : Nat} {xs : List Value} (hs : cs.size = n * size) (hx : cs.toList = xs) (hb : b = W.heap.size) : Rd (W.alloc (.cells cs e)) size (some ⟨b, 0, none⟩) n xs := by
  subst hb hx
  exact Rd.lit W cs e n hs
theorem Rd.new {W : World} {size n : Nat} {A : Option Addr} {xs : List Value} (o : Obj) (h : Rd W size A n xs) : Rd (W.alloc o) size A n xs := h.to ((Ext.refl W).new o)
/-- The cells of 64 new words. -/
def cells64 : Array Value := madeCells #[.int .u64 0] 64
theorem cells64_list : cells64.toList = Us (List.replicate 64 0) := by simp [cells64, Us, toList_madeCells_one]
theorem make64 (w : World) : (Instr.makeSlice 22 (.int .i64 64) (.int .i64 64)).run Try.prog w = .ok (.slice (some ⟨w.heap.size, 0, none⟩) 64 64) (w.alloc (.cells cells64 24)) := by
  have h := run_make_row' (P := Try.prog) 22 24 (.int .u64 0) 8 Try.underlying22 u64_info rfl .i64 .i64 64 (by omega) (by omega) w
  exact h
theorem Rd.zeros {W : World} {b : Nat} (hb : b = W.heap.size) : Rd (W.alloc (.cells cells64 24)) 1 (some ⟨b, 0, none⟩) 64 (Us (List.replicate 64 0)) := Rd.litAt (by rw [← Array.length_toList, cells64_list]; simp [Us]) cells64_list hb
theorem made_zeros (n : Nat) : (madeCells (Value.int .u64 0).cells (n * 1)).toList = Us (List.replicate n 0) := by simp [Us, Value.cells, toList_madeCells_one]

def aliveS : List Int × List Pc := runs (List.replicate 64 0, [addsP 3 1]) [0, 0, 0]
theorem alive_words : aliveS.1.length = 64 := by rw [aliveS, runs_words]; rfl
theorem alive_three : ith aliveS.1 3 = 1 := by decide +kernel
theorem alive_procs : ∃ p, aliveS.2 = [p] ∧ p.done = true ∧ p.took = 2 := ⟨_, rfl, by decide +kernel, by decide +kernel⟩

set_option maxHeartbeats 2000000 in
theorem alive_yes (w : World) : Calls Try.prog 15 #[] w fun e w' => e = .returned (.bool true) ∧ Ext w w' := by
  obtain ⟨i0, hi0, hz0, hz1, hz2⟩ := info_parts u64_info
  have hmk := make64
  go_enter Try.func15, Try.ntmps15
  go_upto_region 1 with fail
  go_cut [1, 2, 3] (fun s1 s2 s3 wx => Ext w wx ∧ ∃ ad c B d v, s1 = .slice (some ad) 64 c ∧ s2 = .slice B 1 d ∧ s3 = .int .i64 0 ∧ Rd wx 1 (some ad) 64 (Us aliveS.1) ∧ Row wx B [v] ∧ [v.p] = aliveS.2)
  case first =>
    go_region_with (first
      | (go_at_call 21; refine (adds_is 3 1 (by omega) _).mono ?_; rintro e w1 ⟨B1, c1, rfl, hp1, hx1, hf1⟩)
      | (go_at_call 19
         refine (run_by _ _ (List.replicate 64 0) _ 1 _ [⟨B1, c1, addsP 3 1⟩] _ 3 _ [0, 0, 0] _ ?_ ?_ rfl (by omega) ?_ ?_ (by omega) (List.replicate 64 0, [addsP 3 1]) rfl).mono ?_
         · repeat (first | exact Rd.zeros (by simp) | with_reducible refine Rd.drew ?_ | with_reducible refine Rd.new _ ?_ | refine Rd.to ?_ hx1)
         · refine ⟨?_, fun v hv => ?_⟩
           · repeat (first | exact Rd.litAt rfl rfl (by simp) | with_reducible refine Rd.drew ?_ | with_reducible refine Rd.new _ ?_ | refine Rd.to ?_ hx1)
           · rw [List.mem_singleton.1 hv]
             show Rd _ _ _ _ _
             repeat (first | exact hp1 | with_reducible refine Rd.drew ?_ | with_reducible refine Rd.new _ ?_)
         · intro v hv
           rw [List.mem_singleton.1 hv]
           exact addsP_may 3 1 (by omega) (by omega) (by omega)
         · repeat (first | exact Rd.litAt rfl rfl (by simp) | with_reducible refine Rd.drew ?_ | with_reducible refine Rd.new _ ?_ | refine Rd.to ?_ hx1)
         rintro e w2 ⟨A2, c2, B2, d2, vs2, rfl, hr2, hv2, hmap2, hx2, hfa2, hfv2⟩
         have E2 : Ext w w2 := by
           refine Ext.step ?_ hx2
           repeat (first | exact Ext.refl w | with_reducible refine Ext.drew ?_ | with_reducible refine Ext.new ?_ _ | refine Ext.step ?_ hx1)
         obtain ⟨ad2, rfl⟩ := hr2.some_ (by omega) (by omega)
         obtain ⟨v2, rfl⟩ : ∃ v2, vs2 = [v2] := List.length_eq_one_iff.1 (by have := congrArg List.length hmap2; rw [runs_procs] at this; simpa using this)
         clear hx2 hfa2 hfv2 hx1 hp1 hf1))
    all_goals go_wp2_with fail
    all_goals go_meet
    all_goals exact ⟨E2, _, _, _, _, v2, rfl, rfl, rfl, hr2, hv2, hmap2⟩
  case rest =>
    obtain ⟨E1, ad, c, B, d, v, rfl, rfl, rfl, hr, hv, hm⟩ := hcut
    obtain ⟨p, hp, hd, ht⟩ := alive_procs
    obtain rfl : v.p = p := by rw [hp] at hm; simpa using hm
    obtain ⟨bd, rfl, g0, g1, g2, g3, g4, g5, g6, g7⟩ := hv.1.eight (i := 0) rfl
    rw [show bd.add (0 * 8) = bd by simp [Addr.add]] at g0 g1 g2 g3 g4 g5 g6 g7
    have h3 := hr.u64 (j := 3) (by omega)
    rw [alive_three] at h3
    replace h3 : wc.cell? { block := ad.block, off := ad.off + 3 } = some (.int .u64 1) := h3
    clear hm hp
    go_wp2_with fail
    go_ret
    exact ⟨rfl, E1⟩

end Go.Proofs.Yteiabmbfjfaboaa
