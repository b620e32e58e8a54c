/-
  The statements' own trial of package arena.
-/
import Derived.Test.YtmfpgbiicncpcaaArMath
import Derived.Test.YtmfpgbiicncpcaaDrop2
set_option linter.unusedVariables false
set_option linter.unusedSimpArgs false
namespace Go.Proofs.Ytmfpgbiicncpcaa
open Go.RowKit

def seven : Nd := ⟨1, 0, 7, 0, 0, 0, 0, 0, 0, 0, 0, 0, 0, 0, 0, 0⟩
theorem seven_makes : seven.Makes := ⟨by decide, by decide, by decide⟩
theorem seven_ok : seven.Ok := by intro r hr; simp [seven, Nd.kids] at hr; subst hr; omega
theorem seven_gen : seven.gen (bare 0).g = seven := rfl

set_option maxHeartbeats 1600000 in
theorem alive4 (w : World) :
    Calls Try.prog 16 #[] w fun e w' => e = .returned (.bool true) ∧ Ext w w' := by
  have hmay2 := new_may (n := 2) (by omega) (by omega)
  have hmk := make_may (m := 1) (p := 0) (x := seven) hmay2 rfl rfl rfl seven_makes
  have HN := Lib.hid (new_yes 2 w (by omega) (by omega))
  go_enter Try.func16, Try.ntmps16
  go_wp2_with fail
  refine HN.out.mono ?_; rintro e w1 ⟨g, c, hh, d, rfl, hd1, hd2, hA1, hx1, hf1⟩
  have HA1 := Lib.hid hA1
  have HM := Lib.hid (fun W (hW : Ext w1 W) => make_yes (some ⟨g, 0, none⟩) (some ⟨hh, 0, none⟩) 2 1 c d (List.replicate 2 (bare 0)) (down 2) seven 0 (bare 0) W (hA1.to hW) (by omega) seven_ok hmay2 seven_makes rfl rfl)
  have X1 := Lib.hid hx1
  clear hA1 hx1
  go_wp2_with fail
  refine (HM.out _ ((Ext.refl w1).new _)).mono ?_; rintro e w2 ⟨g2, c2, B2, rfl, hA2, hx2, hf2, hf3⟩
  rw [show (65536 * (seven.gen (bare 0).g).g + ((0 : Nat) : Int) + 1) = 1 from rfl]
  have b1 := (Bx.new w1 #[.slice (some ⟨g, 0, none⟩) 2 c, .slice (some ⟨hh, 0, none⟩) 2 d] 25).to hx2
  have f0 : w2.cell? ⟨w1.heap.size, 0, none⟩ = some (.slice (some ⟨g, 0, none⟩) 2 c) := b1.cell 0
  have f1 : w2.cell? ⟨w1.heap.size, 1, none⟩ = some (.slice (some ⟨hh, 0, none⟩) 2 d) := b1.cell 1
  have f2 : w2.frozen? ⟨w1.heap.size, 0, none⟩ = false := b1.free 0
  have f3 : w2.frozen? ⟨w1.heap.size, 1, none⟩ = false := b1.free 1
  obtain ⟨w3, hw3⟩ : ∃ w3, w3 = (w2.setCell ⟨w1.heap.size, 0, none⟩ (.slice (some ⟨g2, 0, none⟩) 2 c2)).setCell ⟨w1.heap.size, 1, none⟩ (.slice B2 1 1) := ⟨_, rfl⟩
  have O3 : Only w1.heap.size w2 w3 := by rw [hw3]; exact Only.two _ _ _ _
  have B3 : Bx w3 w1.heap.size #[.slice (some ⟨g2, 0, none⟩) 2 c2, .slice B2 1 1] := by rw [hw3]; exact b1.two _ _
  have hA3 : Ar w3 (some ⟨g2, 0, none⟩) 2 B2 1 _ _ := ⟨O3.rd hA2.nodes (fun q hq => by injection hq with hq; subst hq; simp at hf2 ⊢; omega), O3.rd hA2.free (fun q hq => by have := hf3 q hq; simp at this; omega), hA2.ok⟩
  have E3 : Ext w w3 := (O3.new (((Ext.refl w1).new _).step hx2) (Nat.le_refl _)) |> X1.out.step
  have H3 := Lib.hid hw3
  have HA3 := Lib.hid hA3
  have HE3 := Lib.hid E3
  have HB3 := Lib.hid B3
  clear hA2 hx2 b1 hw3 O3 hA3 E3 hf2 hf3
  go_wp2_with fail
  rw [← H3.out]
  refine (get_yes (some ⟨g2, 0, none⟩) 2 c2 1 1 B2 _ 1 0 seven _ (by omega) (by omega) HA3.out.nodes ⟨⟨by decide, by decide, by decide⟩, by decide, rfl, by decide, by decide⟩).mono ?_; rintro e w4 ⟨rfl, hx4⟩
  have B4 := HB3.out.to hx4
  have u0 : w4.cell? ⟨w1.heap.size, 0, none⟩ = some (.slice (some ⟨g2, 0, none⟩) 2 c2) := B4.cell 0
  have u1 : w4.cell? ⟨w1.heap.size, 1, none⟩ = some (.slice B2 1 1) := B4.cell 1
  obtain ⟨w5, hw5⟩ : ∃ w5, w5 = w4.alloc (.cells seven.arr 30) := ⟨_, rfl⟩
  obtain ⟨B5, hx5, _⟩ := box_made hw5
  have v0 : w5.cell? ⟨w1.heap.size, 0, none⟩ = some (.slice (some ⟨g2, 0, none⟩) 2 c2) := (B4.to hx5).cell 0
  have v1 : w5.cell? ⟨w1.heap.size, 1, none⟩ = some (.slice B2 1 1) := (B4.to hx5).cell 1
  have v2 : w5.cell? ⟨w4.heap.size, 2, none⟩ = some (.int .i64 7) := B5.cell 2
  have H5 := Lib.hid hw5
  have HX := Lib.hid (hx4.step hx5)
  have HR := Lib.hid (arRight_is (some ⟨g2, 0, none⟩) B2 2 1 c2 1 _ _ w5 (HA3.out.to (hx4.step hx5)) (by omega) (by omega) true ⟨fun _ => hmk, fun _ => rfl⟩)
  clear hw5 hx4 hx5 B4 B5 hmk
  go_wp2_with (first
    | (refine wpList_store_nd (W := w4) (by rfl) _ _ (by rfl) (by rfl) seven (by rfl) _ (by rfl) (by rfl) ?_; rw [← H5.out]))
  refine HR.out.mono ?_; rintro e w6 ⟨rfl, hx6⟩
  go_wp2_with fail
  go_ret
  exact ⟨rfl, HE3.out.step (HX.out.step hx6)⟩

end Go.Proofs.Ytmfpgbiicncpcaa
