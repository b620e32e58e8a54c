/-
  Contracts: which nodes may be (rightNode; the document's Well).
-/
import Derived.Test.YtmfpgbiicncpcaaEq
set_option linter.unusedVariables false
set_option linter.unusedSimpArgs false
namespace Go.Proofs.Ytmfpgbiicncpcaa
open Go.RowKit

abbrev GenMay (g : Int) : Prop := 0 ≤ g ∧ g ≤ 1048576
def Nd.Fits (x : Nd) : Prop := GenMay x.g ∧ ((x.k = 0 ∧ x = bare x.g) ∨ (x.k ≠ 0 ∧ x.Parts))
instance (x : Nd) : Decidable x.Fits := inferInstanceAs (Decidable (_ ∧ (_ ∨ _)))

set_option maxHeartbeats 800000 in
theorem rightNode_is (x : Nd) (w : World) (hx : x.Ok) :
    Calls Try.prog 32 #[.agg x.arr] w fun e w' => e = .returned (.bool (decide x.Fits)) ∧ Ext w w' := by
  have B := Bx.new w x.arr 30
  have k0 : (w.alloc (.cells x.arr 30)).cell? ⟨w.heap.size, 0, none⟩ = some (.int .i64 x.k) := (B.cell 0).trans x.a0
  have k1 : (w.alloc (.cells x.arr 30)).cell? ⟨w.heap.size, 1, none⟩ = some (.int .i64 x.g) := (B.cell 1).trans x.a1
  have hn := B.node
  have heq := fun W => nd_eq x (bare x.g) W
  have heq' : ∀ W, (Op.equalIn 10000 30 (.agg x.arr) (.agg #[.int .i64 0, .int .i64 x.g, .int .i64 0, .int .i64 0, .int .i64 0, .int .u64 0, .int .u64 0, .int .u64 0, .int .u64 0, .int .u64 0, .int .u64 0, .int .u64 0, .int .u64 0, .int .u64 0, .int .i64 0, .int .i64 0])).run Try.prog W = .ok (decide (x = bare x.g)) W := heq
  have HR := Lib.hid (fun W => rightParts_is x W hx)
  have hxt : Ext w (w.alloc (.cells x.arr 30)) := (Ext.refl w).new _
  clear B heq hx
  obtain ⟨b, hb⟩ : ∃ b, b = decide x.Fits := ⟨_, rfl⟩
  have HB := Lib.hid hb
  rw [← hb]
  clear hb
  obtain ⟨b1, e1⟩ : ∃ b, b = decide x.Parts := ⟨_, rfl⟩
  obtain ⟨b2, e2⟩ : ∃ b, b = decide (x = bare x.g) := ⟨_, rfl⟩
  rw [← e1] at HR
  rw [← e2] at heq'
  have E1 := Lib.hid e1
  have E2 := Lib.hid e2
  clear e1 e2
  by_cases g1 : 0 ≤ x.g
  · by_cases g2 : x.g ≤ 1048576
    · by_cases hk : x.k = 0
      · obtain rfl : b = b2 := by
          rw [HB.out, E2.out, Bool.eq_iff_iff, decide_eq_true_eq, decide_eq_true_eq]
          exact ⟨fun h => h.2.elim (·.2) (fun k => absurd hk k.1), fun h => ⟨⟨g1, g2⟩, .inl ⟨hk, h⟩⟩⟩
        rw [hk] at k0
        clear hk
        go_enter Try.func32, Try.ntmps32
        go_wp2_with (refine wpList_load_nd (by rfl) _ (by rfl) _ (by rfl) x hn ?_)
        go_ret
        exact ⟨rfl, hxt⟩
      · obtain rfl : b = b1 := by
          rw [HB.out, E1.out, Bool.eq_iff_iff, decide_eq_true_eq, decide_eq_true_eq]
          exact ⟨fun h => h.2.elim (fun k => absurd k.1 hk) (·.2), fun h => ⟨⟨g1, g2⟩, .inr ⟨hk, h⟩⟩⟩
        go_enter Try.func32, Try.ntmps32
        go_wp2_with (refine wpList_load_nd (by rfl) _ (by rfl) _ (by rfl) x hn ?_)
        refine (HR.out _).mono ?_; rintro e w1 ⟨rfl, hx1⟩
        go_wp2_with fail
        go_ret
        exact ⟨rfl, hxt.step hx1⟩
    · obtain rfl : b = false := by
        rw [HB.out, decide_eq_false_iff_not]
        exact fun h => g2 h.1.2
      go_enter Try.func32, Try.ntmps32
      go_wp2_with fail
      go_ret
      exact ⟨rfl, hxt⟩
  · obtain rfl : b = false := by
      rw [HB.out, decide_eq_false_iff_not]
      exact fun h => g1 h.1.1
    go_enter Try.func32, Try.ntmps32
    go_wp2_with fail
    go_ret
    exact ⟨rfl, hxt⟩

end Go.Proofs.Ytmfpgbiicncpcaa
