/-
  The contract of alive.
-/
import Derived.Test.YtfjmocnkhaomiaaLaw0
namespace Go.Proofs.Ytfjmocnkhaomiaa
open Go.RowKit

set_option maxHeartbeats 400000 in
theorem alive_yes (w : World) :
    Calls Try.prog 18 #[] w fun e w' => e = .returned (.bool true) ∧ Ext w w' := by
  have hr : Rd (w.alloc (.cells #[.int .u64 5, .int .u64 7] 23)) 1 (some ⟨w.heap.size, 0, none⟩) 2 (Us [5, 7]) := Rd.lit w _ 23 2 rfl
  have hx0 := Ext.new (Ext.refl w) (.cells #[.int .u64 5, .int .u64 7] 23)
  have H := Lib.hid (fun c => cas_yes ⟨w.heap.size, 0, none⟩ 2 c [5, 7] 7 9 1 _ hr (by omega) (by omega) rfl)
  go_enter Try.func18, Try.ntmps18
  go_wp2_with (first
    | (go_at_call 12; refine (H.out _).mono ?_; rintro e w1 ⟨A', c', rfl, hr1, hx1⟩; obtain ⟨ad, rfl⟩ := hr1.some_ (by omega) (by omega); have c1 : w1.cell? { block := ad.block, off := ad.off + 1 } = some (.int .u64 9) := hr1.u64 (j := 1) (by omega)))
  go_ret
  exact ⟨rfl, hx0.step hx1⟩

end Go.Proofs.Ytfjmocnkhaomiaa
