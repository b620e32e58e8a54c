/-
  Contract: Split of package treap.
-/
import Derived.Test.YtjiehlhnocgneaaTrErr
import Derived.Test.YtjiehlhnocgneaaTrSplit
set_option linter.unusedVariables false
set_option linter.unusedSimpArgs false
namespace Go.Proofs.Ytjiehlhnocgneaa
open Go.RowKit

/-- What Split answers. -/
def ResS (ns : List Nd) (fs : List Int) (c : Nat) (l1 l2 : Row) (w : World) (e : Ending) (w' : World) : Prop :=
  ((e = .returned (.tuple #[.agg #[.slice none 0 0, .slice none 0 0], .int .u64 0, .int .u64 0, .int .i64 2]) ∧ fs.length < c) ∨
    ∃ (A : Option Addr) (n c' : Nat) (B : Option Addr) (m d : Nat) (ns' : List Nd) (fs' : List Int) (z1 z2 : Int), e = .returned (.tuple #[.agg #[.slice A n c', .slice B m d], .int .u64 z1, .int .u64 z2, .int .i64 0]) ∧ Ar w' A n B m ns' fs' ∧ ArMay ns' fs' ∧ Gr ns fs ns' fs' c ∧ U z1 ∧ U z2 ∧ IsP ns' z1 l1 ∧ IsP ns' z2 l2) ∧ Ext w w'

set_option maxHeartbeats 4000000 in
set_option maxRecDepth 100000 in
theorem trSplit_is (A B : Option Addr) (n m c d : Nat) (ns : List Nd) (fs : List Int) (t : T) (key : Int) (w : World) (h : Ar w A n B m ns fs) (hn : n ≤ 1000) (hm : m ≤ 1000) (hU : U t.ref) (hmay : ArMay ns fs) (hM : Mp ns t) :
    Calls Try.prog 17 #[.agg #[.slice A n c, .slice B m d], .int .u64 t.ref, .int .i64 key] w (ResS ns fs t.size (lo t.row key) (ge t.row key) w) := by
  obtain ⟨w1, hw1⟩ : ∃ w1, w1 = w.alloc (.cells #[.slice A n c, .slice B m d] 25) := ⟨_, rfl⟩
  obtain ⟨w4, hw4⟩ : ∃ w4, w4 = w1.alloc (.cells #[.slice none 0 0, .slice none 0 0] 25) := ⟨_, rfl⟩
  obtain ⟨B1, hx1, hs1⟩ := box_made hw1
  obtain ⟨B4, hx4, hs4⟩ := box_made hw4
  rw [hs1] at B4
  have HB1 := Lib.hid (B1.to hx4)
  have HB4 := Lib.hid B4
  have X4 := Lib.hid (hx1.step hx4)
  have H1 := Lib.hid hw1
  have H4 := Lib.hid hw4
  have HS4 := Lib.hid (show w4.heap.size = w.heap.size + 2 by omega)
  have HA := Lib.hid (h.to X4.out)
  have k0 : w4.cell? ⟨w.heap.size, 0, none⟩ = some (.slice A n c) := (B1.to hx4).cell 0
  have k1 : w4.cell? ⟨w.heap.size, 1, none⟩ = some (.slice B m d) := (B1.to hx4).cell 1
  have hge := Lib.hid (show w.heap.size ≤ w.heap.size + 1 by omega)
  have HR := Lib.hid (trRight_is A B n m c d ns fs t.ref w4 HA.out hn hm hU true (by simp only [true_iff]; exact ⟨hmay, t, hM, rfl⟩))
  have HMay := Lib.hid hmay
  have HMp := Lib.hid hM
  have hsz := hM.le
  clear hw1 hw4 B1 B4 hx1 hx4 hs1 hs4 h hmay hM hsz
  obtain ⟨r, hr⟩ : ∃ r, t.ref = r := ⟨_, rfl⟩
  have HREF := Lib.hid hr
  rw [hr] at HR ⊢
  clear hr
  go_enter Try.func17, Try.ntmps17
  go_wp2_with fail
  rw [← H1.out, ← H4.out]
  go_wp2_with fail
  refine HR.out.mono ?_; rintro e w5 ⟨rfl, hx5⟩
  have k0 : w5.cell? ⟨w.heap.size, 0, none⟩ = some (.slice A n c) := (HB1.out.to hx5).cell 0
  have k1 : w5.cell? ⟨w.heap.size, 1, none⟩ = some (.slice B m d) := (HB1.out.to hx5).cell 1
  have HX5 := Lib.hid hx5
  clear hx5
  go_wp2_with fail
  refine (makerOf_is A B n m c d ns fs _ (HA.out.to HX5.out) HMay.out).mono ?_
  rintro e w8 ⟨b, rfl, hb8, hM8, hx8⟩
  have hlt8 := Lib.hid (show w.heap.size + 2 ≤ b from by have := HX5.out.size; have := HS4.out; omega)
  have HX8 := Lib.hid (HX5.out.step hx8)
  have HC := Lib.hid (split_is b key t ns fs 0 w8 hM8 HMp.out.rep HMp.out.srt HMp.out.hp HMp.out.le hU)
  rw [HREF.out] at HC
  clear hM8 hx8 hb8 k0 k1
  go_wp2_with fail
  refine HC.out.mono ?_
  rintro e w10 ⟨ns', fs', err', z1, z2, rfl, hM10, hO10, hG10, hr1, hr2, hu1, hu2, hg10, he10⟩
  have X10 := Lib.hid (hO10.new (X4.out.step HX8.out) (by have := hlt8.out; omega))
  have B10 := Lib.hid (hO10.bx (HB4.out.to HX8.out) (by have := hlt8.out; omega))
  have HMay' := Lib.hid hM10.may
  have HG := Lib.hid hG10
  have HU1 := Lib.hid hu1
  have HU2 := Lib.hid hu2
  have Hg := Lib.hid hg10
  have He := Lib.hid he10
  have herr := hM10.err
  obtain ⟨A', n', c', B', m', d', hb, ha, hA', hB'⟩ := hM10.box
  have HA' := Lib.hid ha
  have c0 : w10.cell? ⟨b, 0, none⟩ = some (.slice A' n' c') := hb.cell 0
  have c1 : w10.cell? ⟨b, 1, none⟩ = some (.slice B' m' d') := hb.cell 1
  have c2 : w10.cell? ⟨b, 2, none⟩ = some (.int .i64 err') := hb.cell 2
  have HBb := Lib.hid hb
  clear hM10 hO10 hG10 hr1 hr2 hu1 hu2 hg10 he10 hb ha hA' hB'
  rcases herr with rfl | rfl
  · have HIs := Lib.hid (Hg.out rfl).2
    go_wp2_with (first
      | (refine wpList_store_ar (by rfl) (.tmp 6) (.tmp 40) (by rfl) (w.heap.size + 1) (by rfl) (.slice A' n' c') (.slice B' m' d') (by rfl) rfl rfl _ B10.out (by simp) ?_
         intro w12 B12 O12))
    refine bodyPost_ret (results_ar4 rfl _ _ (w.heap.size + 1) #[.slice A' n' c', .slice B' m' d'] (by rfl) B12 rfl) rfl ⟨.inr ⟨A', n', c', B', m', d', ns', fs', z1, z2, rfl, ?_, HMay'.out, HG.out, HU1.out, HU2.out, ?_, ?_⟩, O12.new X10.out hge.out⟩
    · exact HA'.out.past B10.out (noInt (by simp) (by simp)) O12
    · obtain ⟨t1, t2, h1, h2, h3, h4, h5, h6, h7, h8⟩ := HIs.out
      exact ⟨t1, h1, h3, h5, h7⟩
    · obtain ⟨t1, t2, h1, h2, h3, h4, h5, h6, h7, h8⟩ := HIs.out
      exact ⟨t2, h2, h4, h6, h8⟩
  · have hc : fs.length < t.size := (He.out rfl).resolve_left (by omega)
    have b10 := B10.out
    have f0 := b10.free 0
    have f1 := b10.free 1
    have g0 := b10.cell 0
    have g1 := b10.cell 1
    simp only [List.getElem?_toArray, List.getElem?_cons_zero, List.getElem?_cons_succ] at g0 g1
    clear b10
    go_wp2_with fail
    go_region
    all_goals go_wp2_with fail
    refine bodyPost_ret (results_ar4 rfl _ _ (w.heap.size + 1) #[.slice none 0 0, .slice none 0 0] (by rfl) (B10.out.drew.two _ _) rfl) rfl ⟨.inl ⟨rfl, hc⟩, (Only.two _ _ _ _).new X10.out.drew hge.out⟩

end Go.Proofs.Ytjiehlhnocgneaa
