/-
  Contract: the map of the keys below one, and that of the others (split of a maker).
-/
import Derived.Test.YthgaogbpkedjcaaTrKid
set_option linter.unusedVariables false
set_option linter.unusedSimpArgs false
namespace Go.Proofs.Ythgaogbpkedjcaa
open Go.RowKit

def SOut (b : Nat) (ns : List Nd) (fs : List Int) (err : Int) (c : Nat) (good : List Nd → Int → Int → Prop) (w : World) (e : Ending) (w' : World) : Prop :=
  ∃ ns' fs' err' z1 z2, e = .returned (.tuple #[.int .u64 z1, .int .u64 z2]) ∧ Mk w' b ns' fs' err' ∧ Only b w w' ∧ Gr ns fs ns' fs' c ∧ RefMay z1 ∧ RefMay z2 ∧ U z1 ∧ U z2 ∧ (err' = 0 → err = 0 ∧ good ns' z1 z2) ∧ (err' = 2 → err = 2 ∨ fs.length < c)
theorem SOut.pre {b : Nat} {ns : List Nd} {fs : List Int} {err : Int} {c : Nat} {good : List Nd → Int → Int → Prop} {w w1 : World} {e : Ending} {w' : World} (h : SOut b ns fs err c good w1 e w') (hx : Ext w w1) : SOut b ns fs err c good w e w' := by
  obtain ⟨ns', fs', err', z1, z2, h1, h2, h3, h4⟩ := h
  exact ⟨ns', fs', err', z1, z2, h1, h2, ((Only.refl b w).ext hx).trans h3, h4⟩
/-- The two parts of a tree. -/
def GoodS (t : T) (key : Int) (ns' : List Nd) (z1 z2 : Int) : Prop :=
  ∃ t1 t2, Rep ns' t1 ∧ Rep ns' t2 ∧ t1.ref = z1 ∧ t2.ref = z2 ∧ t1.row = lo t.row key ∧ t2.row = ge t.row key ∧ Hp t1 ∧ Hp t2
theorem lo_len (l : Row) (k : Int) : (lo l k).length ≤ l.length := List.length_filter_le _ _
theorem ge_len (l : Row) (k : Int) : (ge l k).length ≤ l.length := List.length_filter_le _ _

theorem goodS_right {ns' ns'' : List Nd} {fs' fs'' : List Int} {c : Nat} {r : Int} {l : T} {k v : Int} {u : T} {key z1 z2 z : Int} (hs : Srt (T.node r l k v u).row) (hh : Hp (.node r l k v u)) (hz : l.size + u.size ≤ 200) (hk : k < key) (hg : GoodS u key ns' z1 z2) (hG : Gr ns' fs' ns'' fs'' c) (hK : Kid1 ns' z1 l k v u ns'' z) :
    GoodS (.node r l k v u) key ns'' z z2 := by
  obtain ⟨t1, t2, h1, h2, h3, h4, h5, h6, h7, h8⟩ := hg
  have hsz : t1.size ≤ 400 := by
    rw [← T.row_length, h5]
    have := lo_len u.row key
    rw [T.row_length] at this
    omega
  refine ⟨.node z l k v t1, t2, hK t1 h1 h3 hsz, hG.rep h2, rfl, h4, ?_, ?_, ⟨hh.1, fun x hx => hh.2.1 x (mem_lo.1 (h5 ▸ hx)).1, hh.2.2.1, h7⟩, h8⟩
  · simp only [T.row]
    rw [lo_left hs hk, h5]
  · simp only [T.row]
    rw [ge_left hs hk, h6]
theorem goodS_left {ns' ns'' : List Nd} {fs' fs'' : List Int} {c : Nat} {r : Int} {l : T} {k v : Int} {u : T} {key z1 z2 z : Int} (hs : Srt (T.node r l k v u).row) (hh : Hp (.node r l k v u)) (hz : l.size + u.size ≤ 200) (hk : key ≤ k) (hg : GoodS l key ns' z1 z2) (hG : Gr ns' fs' ns'' fs'' c) (hK : Kid0 ns' z2 l k v u ns'' z) :
    GoodS (.node r l k v u) key ns'' z1 z := by
  obtain ⟨t1, t2, h1, h2, h3, h4, h5, h6, h7, h8⟩ := hg
  have hsz : t2.size ≤ 400 := by
    rw [← T.row_length, h6]
    have := ge_len l.row key
    rw [T.row_length] at this
    omega
  refine ⟨t1, .node z t2 k v u, hG.rep h1, hK t2 h2 h4 hsz, h3, rfl, ?_, ?_, h7, ⟨fun x hx => hh.1 x (mem_ge.1 (h6 ▸ hx)).1, hh.2.1, h8, hh.2.2.2⟩⟩
  · simp only [T.row]
    rw [lo_right hs hk, h5]
  · simp only [T.row]
    rw [ge_right hs hk, h6]

set_option maxHeartbeats 6400000 in
set_option maxRecDepth 100000 in
theorem split_is (b : Nat) (key : Int) (t : T) : ∀ (ns : List Nd) (fs : List Int) (err : Int) (w : World), Mk w b ns fs err → Rep ns t → Srt t.row → Hp t → t.size ≤ 200 → U t.ref →
    Calls Try.prog 40 #[.pointer (some ⟨b, 0, none⟩), .int .u64 t.ref, .int .i64 key] w (SOut b ns fs err t.size (GoodS t key) w) := by
  induction t with
  | nil =>
    intro ns fs err w h hR hS hH hz hU
    have HF := Lib.hid (show SOut b ns fs err T.nil.size (GoodS .nil key) w (.returned (.tuple #[.int .u64 0, .int .u64 0])) w from
      ⟨ns, fs, err, 0, 0, rfl, h, Only.refl _ _, Gr.refl _ _ _, .inl rfl, .inl rfl, U.zero, U.zero, fun h => ⟨h, .nil, .nil, trivial, trivial, rfl, rfl, rfl, rfl, trivial, trivial⟩, fun h => .inl h⟩)
    rw [show T.nil.ref = 0 from rfl]
    clear h hR hS hH hz hU
    go_enter Try.func40, Try.ntmps40
    go_wp2_with fail
    go_ret2
    exact HF.out
  | node r l k v u ih1 ih2 =>
    intro ns fs err w h hR hS hH hz hU
    obtain ⟨A, n, c, B, m, d, hb, ha, hA, hB⟩ := h.box
    obtain ⟨x, hx⟩ := hR.nod
    have hkids := hR.kids ha.ok
    rw [show (T.node r l k v u).ref = r from rfl] at hU ⊢
    have HN := Lib.hid (fun W (hW : Ext w W) => nodeOf_is A B n c m d ns r W hU.1 hU.2 (ha.nodes.to hW))
    rw [hx.at_] at HN
    have c0 : w.cell? ⟨b, 0, none⟩ = some (.slice A n c) := hb.cell 0
    have c1 : w.cell? ⟨b, 1, none⟩ = some (.slice B m d) := hb.cell 1
    have hr0 : (r == 0) = false := by simp [hR.ref_nz]
    have HM := Lib.hid h
    have HX := Lib.hid hx
    have HK := Lib.hid hkids
    have HR := Lib.hid hR
    have HS := Lib.hid hS
    have HH := Lib.hid hH
    have hsm := Lib.hid (Srt.mid.1 hS)
    have HZ := Lib.hid (show l.size + u.size + 1 ≤ 200 from hz)
    have I1 := Lib.hid ih1
    have I2 := Lib.hid ih2
    have hlt := Lib.hid hb.lt
    clear hb ha hA hB h hx hkids hR hS hH hz ih1 ih2
    go_enter Try.func40, Try.ntmps40
    go_wp2_with fail
    refine (HN.out _ (Ext.refl _)).mono ?_; rintro e w3 ⟨rfl, hx3⟩
    obtain ⟨w4, hw4⟩ : ∃ w4, w4 = w3.alloc (.cells x.arr 66) := ⟨_, rfl⟩
    obtain ⟨B4, hx4, hs4⟩ := box_made hw4
    have H4 := Lib.hid hw4
    have HB4 := Lib.hid B4
    have X4 := Lib.hid (hx3.step hx4)
    have d2 : w4.cell? ⟨w3.heap.size, 2, none⟩ = some (.int .i64 k) := by rw [← HX.out.n]; exact (B4.cell 2).trans x.a2
    have d5 : w4.cell? ⟨w3.heap.size, 5, none⟩ = some (.int .u64 l.ref) := by rw [← HX.out.r0]; exact (B4.cell 5).trans x.a5
    have d6 : w4.cell? ⟨w3.heap.size, 6, none⟩ = some (.int .u64 u.ref) := by rw [← HX.out.r1]; exact (B4.cell 6).trans x.a6
    clear hw4 B4 hx3 hx4 hs4 c0 c1
    by_cases hk : k < key
    · have HKK := Lib.hid hk
      have HI := Lib.hid (I2.out ns fs err w4 (HM.out.to X4.out) HR.out.2.2 hsm.out.2.1 HH.out.2.2.2 (by have := HZ.out; omega) HK.out.2)
      go_wp2_with (first
        | (refine wpList_store_nd (W := w3) (by rfl) _ _ (by rfl) (by rfl) x (by rfl) _ (by rfl) (by rfl) ?_; rw [← H4.out]))
      refine HI.out.mono ?_
      rintro e w5 ⟨ns', fs', err', z1, z2, rfl, hM5, hO5, hG5, hr1, hr2, hu1, hu2, hg5, he5⟩
      have HW := Lib.hid (with1_is b ns' fs' err' r l k v u z1 w5 hM5 (hG5.rep HR.out) hU (by have := HZ.out; omega) hr1 hu1)
      have HG5 := Lib.hid hG5
      have HO5 := Lib.hid hO5
      have Hg5 := Lib.hid hg5
      have He5 := Lib.hid he5
      have HR1 := Lib.hid hr1
      have HR2 := Lib.hid hr2
      have HU1 := Lib.hid hu1
      have HU2 := Lib.hid hu2
      clear hM5 hO5 hG5 hr1 hr2 hu1 hu2 hg5 he5 d2 d5 d6
      go_wp2_with fail
      refine HW.out.mono ?_
      rintro e w6 ⟨ns6, fs6, err6, z6, rfl, hM6, hO6, hG6, hr6, hu6, hg6, he6⟩
      have HF := Lib.hid (show SOut b ns fs err (T.node r l k v u).size (GoodS (.node r l k v u) key) w (.returned (.tuple #[.int .u64 z6, .int .u64 z2])) w6 from by
        refine ⟨ns6, fs6, err6, _, _, rfl, hM6, (((Only.refl b w).ext X4.out).trans HO5.out).trans hO6, (HG5.out.trans hG6).more (by simp only [T.size]; omega), hr6, HR2.out, hu6, HU2.out, fun h => ?_, fun h => ?_⟩
        · obtain ⟨h1, h2⟩ := hg6 h
          obtain ⟨h3, h4⟩ := Hg5.out h1
          exact ⟨h3, goodS_right HS.out HH.out (by have := HZ.out; omega) HKK.out h4 hG6 h2⟩
        · rcases he6 h with h1 | h1
          · rcases He5.out h1 with h2 | h2
            · exact .inl h2
            · exact .inr (by simp only [T.size]; omega)
          · have := HG5.out.few
            exact .inr (by simp only [T.size]; omega))
      clear hM6 hO6 hG6 hr6 hu6 hg6 he6
      go_wp2_with fail
      go_ret2
      exact HF.out
    · have HKK := Lib.hid (show key ≤ k by omega)
      have HI := Lib.hid (I1.out ns fs err w4 (HM.out.to X4.out) HR.out.2.1 hsm.out.1 HH.out.2.2.1 (by have := HZ.out; omega) HK.out.1)
      go_wp2_with (first
        | (refine wpList_store_nd (W := w3) (by rfl) _ _ (by rfl) (by rfl) x (by rfl) _ (by rfl) (by rfl) ?_; rw [← H4.out]))
      refine HI.out.mono ?_
      rintro e w5 ⟨ns', fs', err', z1, z2, rfl, hM5, hO5, hG5, hr1, hr2, hu1, hu2, hg5, he5⟩
      have HW := Lib.hid (with0_is b ns' fs' err' r l k v u z2 w5 hM5 (hG5.rep HR.out) hU (by have := HZ.out; omega) hr2 hu2)
      have HG5 := Lib.hid hG5
      have HO5 := Lib.hid hO5
      have Hg5 := Lib.hid hg5
      have He5 := Lib.hid he5
      have HR1 := Lib.hid hr1
      have HR2 := Lib.hid hr2
      have HU1 := Lib.hid hu1
      have HU2 := Lib.hid hu2
      clear hM5 hO5 hG5 hr1 hr2 hu1 hu2 hg5 he5 d2 d5 d6
      go_wp2_with fail
      refine HW.out.mono ?_
      rintro e w6 ⟨ns6, fs6, err6, z6, rfl, hM6, hO6, hG6, hr6, hu6, hg6, he6⟩
      have HF := Lib.hid (show SOut b ns fs err (T.node r l k v u).size (GoodS (.node r l k v u) key) w (.returned (.tuple #[.int .u64 z1, .int .u64 z6])) w6 from by
        refine ⟨ns6, fs6, err6, _, _, rfl, hM6, (((Only.refl b w).ext X4.out).trans HO5.out).trans hO6, (HG5.out.trans hG6).more (by simp only [T.size]; omega), HR1.out, hr6, HU1.out, hu6, fun h => ?_, fun h => ?_⟩
        · obtain ⟨h1, h2⟩ := hg6 h
          obtain ⟨h3, h4⟩ := Hg5.out h1
          exact ⟨h3, goodS_left HS.out HH.out (by have := HZ.out; omega) HKK.out h4 hG6 h2⟩
        · rcases he6 h with h1 | h1
          · rcases He5.out h1 with h2 | h2
            · exact .inl h2
            · exact .inr (by simp only [T.size]; omega)
          · have := HG5.out.few
            exact .inr (by simp only [T.size]; omega))
      clear hM6 hO6 hG6 hr6 hu6 hg6 he6
      go_wp2_with fail
      go_ret2
      exact HF.out

end Go.Proofs.Ythgaogbpkedjcaa
