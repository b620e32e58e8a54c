/-
  Contract: a key that is put is got (alive of the statements of layer 6).
-/
import Derived.Test.YtjiehlhnocgneaaTrPut
import Derived.Test.YtjiehlhnocgneaaTrGet
set_option linter.unusedVariables false
set_option linter.unusedSimpArgs false
namespace Go.Proofs.Ytjiehlhnocgneaa
open Go.RowKit

theorem mp_nil (ns : List Nd) : Mp ns .nil := ⟨trivial, by simp [Srt, T.row], trivial, Nat.zero_le _⟩
theorem isP_mp {ns : List Nd} {z : Int} {l : Row} (h : IsP ns z l) (hs : Srt l) (hl : l.length ≤ 200) : ∃ t, Mp ns t ∧ t.ref = z ∧ t.row = l := by
  obtain ⟨t, h1, h2, h3, h4⟩ := h
  exact ⟨t, ⟨h1, by rw [h3]; exact hs, h4, by rw [← T.row_length, h3]; exact hl⟩, h2, h3⟩
theorem getT_row {t : T} {key v : Int} (hs : Srt t.row) (h : (key, v) ∈ t.row) : getT t key = (v, 0) := by
  rcases sub_is hs key with ⟨_, hn⟩ | ⟨r, l, v', u, e, hm⟩
  · exact absurd ⟨v, h⟩ hn
  · have : v' = v := by
      obtain ⟨i, hi⟩ := List.getElem?_of_mem h
      obtain ⟨j, hj⟩ := List.getElem?_of_mem hm
      by_cases e : i = j
      · subst e
        rw [hi] at hj
        injection hj with hj
        injection hj with _ hj
        exact hj.symm
      · exfalso
        have hp := List.pairwise_iff_getElem.1 hs
        obtain ⟨i1, i2⟩ := List.getElem?_eq_some_iff.1 hi
        obtain ⟨j1, j2⟩ := List.getElem?_eq_some_iff.1 hj
        rcases Nat.lt_or_gt_of_ne e with h' | h'
        · have := hp i j i1 j1 h'
          rw [i2, j2] at this
          simp at this
        · have := hp j i j1 i1 h'
          rw [i2, j2] at this
          simp at this
    subst this
    unfold getT
    rw [e]
    rfl
theorem getT_none {t : T} {key : Int} (hs : Srt t.row) (h : ¬ HasK t.row key) : getT t key = (0, 3) := by
  rcases sub_is hs key with ⟨e, _⟩ | ⟨r, l, v', u, e, hm⟩
  · unfold getT
    rw [e]
    rfl
  · exact absurd ⟨v', hm⟩ h

set_option maxHeartbeats 4000000 in
set_option maxRecDepth 100000 in
theorem alive6_is (w : World) : Calls Try.prog 13 #[] w fun e w' => e = .returned (.bool true) ∧ Ext w w' := by
  have HN := Lib.hid (new_yes 400 w (by omega) (by omega))
  rw [show ((400 : Nat) : Int) = 400 from rfl] at HN
  have hmay : ArMay (List.replicate 400 (bare 0)) (down 400) := new_may (by omega) (by omega)
  have hln : (down 400).length = 400 := by simp [down]
  obtain ⟨ns, hns⟩ : ∃ ns, ns = List.replicate 400 (bare 0) := ⟨_, rfl⟩
  obtain ⟨fs, hfs⟩ : ∃ fs, fs = down 400 := ⟨_, rfl⟩
  rw [← hns, ← hfs] at hmay
  rw [← hfs] at hln
  have HNS := Lib.hid hns
  have HFS := Lib.hid hfs
  clear hns hfs
  have HMay := Lib.hid hmay
  have HLn := Lib.hid hln
  clear hmay hln
  go_enter Try.func13, Try.ntmps13
  go_wp2_with fail
  unfold NewA at HN
  refine HN.out.mono ?_; rintro e w1 ⟨g, c, hh, d, rfl, hd1, hd2, hA1, hx1, hf1⟩
  rw [← HNS.out, ← HFS.out] at hA1
  have HA1 := Lib.hid hA1
  have X1 := Lib.hid hx1
  have B2 := Bx.new w1 #[.slice (some ⟨g, 0, none⟩) 400 c, .slice (some ⟨hh, 0, none⟩) 400 d] 25
  have HP := Lib.hid (trPut_is (some ⟨g, 0, none⟩) (some ⟨hh, 0, none⟩) 400 400 c d ns fs .nil 5 7 (w1.alloc (.cells #[.slice (some ⟨g, 0, none⟩) 400 c, .slice (some ⟨hh, 0, none⟩) 400 d] 25)) (hA1.to ((Ext.refl w1).new _)) (by omega) (by omega) U.zero HMay.out (mp_nil ns) (by omega) (by simp [T.size]))
  rw [show T.nil.ref = 0 from rfl, show putR T.nil.row 5 7 = [(5, 7)] from rfl, show T.nil.size + 1 = 1 from rfl] at HP
  have HB2 := Lib.hid B2
  have hge := Lib.hid hx1.size
  clear hA1 hx1 hf1 hd1 hd2 B2
  go_wp2_with fail
  unfold ResA at HP
  refine HP.out.mono ?_
  rintro e w3 ⟨⟨_, hlt⟩ | ⟨A', n', c', B', m', d', ns', fs', z, rfl, hA3, hmay3, hG3, hU3, hIs3⟩, hx3⟩
  · have := HLn.out
    omega
  obtain ⟨t, hMp, hz, hrow⟩ := isP_mp hIs3 (by simp [Srt]) (by simp)
  subst hz
  have HA3 := Lib.hid hA3
  have b3 := HB2.out.to hx3
  have X3 := Lib.hid ((Ext.refl w1).new (.cells #[.slice (some ⟨g, 0, none⟩) 400 c, .slice (some ⟨hh, 0, none⟩) 400 d] 25) |>.step hx3)
  have hlen := hmay3.le
  have hlf := hmay3.len
  have e1 := hA3.len
  have e2 := hA3.lenF
  have HGt := Lib.hid (fun W (hW : Ar W A' n' B' m' ns' fs') => trGet_is A' B' n' m' c' d' ns' fs' t 5 W hW (by omega) (by omega) hU3 hmay3 hMp)
  rw [getT_row (v := 7) hMp.srt (by rw [hrow]; simp)] at HGt
  simp only at HGt
  clear hIs3 hMp hrow hx3 hA3 hmay3 hG3 hU3 hlen hlf e1 e2
  generalize t.ref = r at *
  go_wp2_with (first
    | (refine wpList_store_ar (by rfl) (.tmp 1) (.tmp 14) (by rfl) w1.heap.size (by rfl) (.slice A' n' c') (.slice B' m' d') (by rfl) rfl rfl _ b3 (by simp) ?_
       intro w4 B4 O4
       have HA4 := Lib.hid (HA3.out.past b3 (noInt (by simp) (by simp)) O4)
       have X4 := Lib.hid (X1.out.step (O4.new X3.out (Nat.le_refl _)))
       have q0 : w4.cell? ⟨w1.heap.size, 0, none⟩ = some (.slice A' n' c') := B4.cell 0
       have q1 : w4.cell? ⟨w1.heap.size, 1, none⟩ = some (.slice B' m' d') := B4.cell 1
       clear O4 B4))
  refine (HGt.out _ HA4.out).mono ?_; rintro e w5 ⟨rfl, hx5⟩
  go_wp2_with fail
  go_ret
  exact ⟨rfl, X4.out.step hx5⟩

end Go.Proofs.Ytjiehlhnocgneaa
