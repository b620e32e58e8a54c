/-
  Contract: a key that is put is got (alive of the statements of layer 9).
-/
import Derived.Test.YtfoifcbaadnigaaHtV
set_option linter.unusedVariables false
set_option linter.unusedSimpArgs false
namespace Go.Proofs.Ytfoifcbaadnigaa
open Go.RowKit

set_option maxHeartbeats 4000000 in
set_option maxRecDepth 100000 in
theorem alive9_is (w : World) : Calls Try.prog 14 #[] w fun e w' => e = .returned (.bool true) ∧ Ext w w' := by
  have HN := Lib.hid (new_yes 90 w (by omega) (by omega))
  rw [show ((90 : Nat) : Int) = 90 from rfl] at HN
  have hmay : ArMay (List.replicate 90 (bare 0)) (down 90) := new_may (by omega) (by omega)
  have hln : (down 90).length = 90 := by simp [down]
  obtain ⟨ns, hns⟩ : ∃ ns, ns = List.replicate 90 (bare 0) := ⟨_, rfl⟩
  obtain ⟨fs, hfs⟩ : ∃ fs, fs = down 90 := ⟨_, rfl⟩
  rw [← hns, ← hfs] at hmay
  rw [← hfs] at hln
  have HNS := Lib.hid hns
  have HFS := Lib.hid hfs
  clear hns hfs
  have HMay := Lib.hid hmay
  have HLn := Lib.hid hln
  clear hmay hln
  go_enter Try.func14, Try.ntmps14
  go_wp2_with fail
  unfold NewA at HN
  refine HN.out.mono ?_; rintro e w1 ⟨g, c, hh, d, rfl, hd1, hd2, hA1, hx1, hf1⟩
  rw [← HNS.out, ← HFS.out] at hA1
  have HA1 := Lib.hid hA1
  have X1 := Lib.hid hx1
  have B2 := Bx.new w1 #[.slice (some ⟨g, 0, none⟩) 90 c, .slice (some ⟨hh, 0, none⟩) 90 d] 26
  have HP := Lib.hid (tv_put (n := 90) (m := 90) (c := c) (d := d) ⟨hA1, HMay.out⟩ (TabV.nil ns) Sm.nil 5 7 (by omega) (by have := HLn.out; omega) (w1.alloc (.cells #[.slice (some ⟨g, 0, none⟩) 90 c, .slice (some ⟨hh, 0, none⟩) 90 d] 26)) ((Ext.refl w1).new _))
  rw [show putR [] 5 7 = [(5, 7)] from rfl] at HP
  have HB2 := Lib.hid B2
  have hge := Lib.hid hx1.size
  clear hA1 hx1 hf1 hd1 hd2 B2
  go_wp2_with fail
  unfold MadeT at HP
  refine HP.out.mono ?_
  rintro e w3 ⟨A', n', c', B', m', d', ns', fs', z, rfl, hA3, hG3, hT3, hx3⟩
  have HA3 := Lib.hid hA3
  have b3 := HB2.out.to hx3
  have X3 := Lib.hid ((Ext.refl w1).new (.cells #[.slice (some ⟨g, 0, none⟩) 90 c, .slice (some ⟨hh, 0, none⟩) 90 d] 26) |>.step hx3)
  have HT3 := Lib.hid hT3
  have hMay3 := Lib.hid hA3.may
  have HGt := Lib.hid (fun W (hW : Ar W A' n' B' m' ns' fs') => tv_get (c := c') (d := d') ⟨hW, hMay3.out⟩ HT3.out (by simp [Srt]) (by simp) 5 W (Ext.refl W))
  rw [show getR [((5 : Int), (7 : Int))] 5 = (7, 0) from rfl] at HGt
  simp only at HGt
  clear hx3 hA3 hG3 hT3
  go_wp2_with (first
    | (refine wpList_store_ar (by rfl) (.tmp 1) (.tmp 14) (by rfl) w1.heap.size (by rfl) (.slice A' n' c') (.slice B' m' d') (by rfl) rfl rfl _ b3 (by simp) ?_
       intro w4 B4 O4
       have HA4 := Lib.hid (HA3.out.ar.past b3 (noInt (by simp) (by simp)) O4)
       have X4 := Lib.hid (X1.out.step (O4.new X3.out (Nat.le_refl _)))
       have q0 : w4.cell? ⟨w1.heap.size, 0, none⟩ = some (.slice A' n' c') := B4.cell 0
       have q1 : w4.cell? ⟨w1.heap.size, 1, none⟩ = some (.slice B' m' d') := B4.cell 1
       clear O4 B4))
  refine (HGt.out _ HA4.out).mono ?_; rintro e w5 ⟨rfl, hx5⟩
  go_wp2_with fail
  go_ret
  exact ⟨rfl, X4.out.step hx5⟩

end Go.Proofs.Ytfoifcbaadnigaa
