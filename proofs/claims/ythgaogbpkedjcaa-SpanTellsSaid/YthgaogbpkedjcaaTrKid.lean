/-
  Contract: a map that has another kid on a side (with).
-/
import Derived.Test.YthgaogbpkedjcaaTrMade
set_option linter.unusedVariables false
set_option linter.unusedSimpArgs false
namespace Go.Proofs.Ythgaogbpkedjcaa
open Go.RowKit

theorem MOut.pre {b : Nat} {ns : List Nd} {fs : List Int} {err : Int} {c : Nat} {good : List Nd → Int → Prop} {w w1 : World} {e : Ending} {w' : World} (h : MOut b ns fs err c good w1 e w') (hx : Ext w w1) : MOut b ns fs err c good w e w' := by
  obtain ⟨ns', fs', err', z, h1, h2, h3, h4⟩ := h
  exact ⟨ns', fs', err', z, h1, h2, ((Only.refl b w).ext hx).trans h3, h4⟩
theorem MOut.imp {b : Nat} {ns : List Nd} {fs : List Int} {err : Int} {c : Nat} {good good' : List Nd → Int → Prop} {w : World} {e : Ending} {w' : World} (h : MOut b ns fs err c good w e w') (hg : ∀ ns' fs' z, Gr ns fs ns' fs' c → good ns' z → good' ns' z) : MOut b ns fs err c good' w e w' := by
  obtain ⟨ns', fs', err', z, h1, h2, h3, h4, h5, h6, h7, h8⟩ := h
  exact ⟨ns', fs', err', z, h1, h2, h3, h4, h5, h6, fun h => ⟨(h7 h).1, hg _ _ _ h4 (h7 h).2⟩, h8⟩
theorem refMay_rep {ns : List Nd} {t : T} (h : Rep ns t) : RefMay t.ref := by
  cases t with
  | nil => exact .inl rfl
  | node r l k v u =>
    obtain ⟨⟨p, g, hg⟩, _⟩ := h
    exact .inr hg.node
theorem kid_got {ns ns' : List Nd} {z k v : Int} {l u : T} (hk : ∀ r p x, Got ns r p x → Got ns' r p x) (hl : Rep ns l) (hu : Rep ns u) (hs : l.size + u.size ≤ 900)
    (hg : ∃ p g, Got ns' z p (trNd g k v (sumI (nodeF ns l.ref).s (nodeF ns u.ref).s) l.ref u.ref)) : Rep ns' (.node z l k v u) := by
  obtain ⟨p, g, hg⟩ := hg
  rw [rep_s hl, rep_s hu, sumI_is (by omega) (by omega) (by omega)] at hg
  exact ⟨⟨p, g, by simpa using hg⟩, hl.mono hk, hu.mono hk⟩

/-- A map with another kid. -/
def Kid0 (ns : List Nd) (kid : Int) (l : T) (k v : Int) (u : T) (ns' : List Nd) (z : Int) : Prop :=
  ∀ t, Rep ns t → t.ref = kid → t.size ≤ 400 → Rep ns' (.node z t k v u)

set_option maxHeartbeats 4000000 in
theorem with0_is (b : Nat) (ns : List Nd) (fs : List Int) (err : Int) (r : Int) (l : T) (k v : Int) (u : T) (kid : Int) (w : World) (h : Mk w b ns fs err) (hR : Rep ns (.node r l k v u)) (hUr : U r) (hz : l.size + u.size ≤ 400) (hRk : RefMay kid) (hUk : U kid) :
    Calls Try.prog 59 #[.pointer (some ⟨b, 0, none⟩), .int .u64 r, .int .i64 0, .int .u64 kid] w (MOut b ns fs err 1 (Kid0 ns kid l k v u) w) := by
  obtain ⟨A, n, c, B, m, d, hb, ha, hA, hB⟩ := h.box
  obtain ⟨x, hx⟩ := hR.nod
  have hkids := hR.kids ha.ok
  have HN := Lib.hid (fun W (hW : Ext w W) => nodeOf_is A B n c m d ns r W hUr.1 hUr.2 (ha.nodes.to hW))
  rw [hx.at_] at HN
  have c0 : w.cell? ⟨b, 0, none⟩ = some (.slice A n c) := hb.cell 0
  have c1 : w.cell? ⟨b, 1, none⟩ = some (.slice B m d) := hb.cell 1
  have HM := Lib.hid h
  have HX := Lib.hid hx
  have HK := Lib.hid hkids
  have HR := Lib.hid hR
  have hlt := Lib.hid hb.lt
  clear hb ha hA hB h hx hkids hR
  go_enter Try.func59, Try.ntmps59
  go_wp2_with fail
  refine (HN.out _ (Ext.refl _)).mono ?_; rintro e w3 ⟨rfl, hx3⟩
  obtain ⟨w4, hw4⟩ : ∃ w4, w4 = w3.alloc (.cells x.arr 66) := ⟨_, rfl⟩
  obtain ⟨B4, hx4, hs4⟩ := box_made hw4
  have H4 := Lib.hid hw4
  have HB4 := Lib.hid B4
  have X4 := Lib.hid (hx3.step hx4)
  have hs3 := Lib.hid hx3.size
  obtain ⟨y, hy⟩ : ∃ y, y = l.ref := ⟨_, rfl⟩
  have HY := Lib.hid hy
  have d5 : w4.cell? ⟨w3.heap.size, 5, none⟩ = some (.int .u64 y) := by rw [hy, ← HX.out.r0]; exact (B4.cell 5).trans x.a5
  clear hw4 B4 hx3 hx4 hs4 hy c0 c1
  by_cases hk : y = kid
  · subst hk
    have HF := Lib.hid (show MOut b ns fs err 1 (Kid0 ns y l k v u) w (.returned (.int .u64 r)) w4 from
      ⟨ns, fs, err, r, rfl, HM.out.to X4.out, (Only.refl b w).ext X4.out, Gr.refl _ _ _, refMay_rep HR.out, hUr, fun h => ⟨h, fun t ht hr _ => by
        obtain rfl : t = l := rep_det ht HR.out.2.1 (by rw [hr, HY.out])
        exact HR.out⟩, fun h => .inl h⟩)
    go_wp2_with (first
      | (refine wpList_store_nd (W := w3) (by rfl) _ _ (by rfl) (by rfl) x (by rfl) _ (by rfl) (by rfl) ?_; rw [← H4.out]))
    go_ret
    exact HF.out
  · have hk' : (y == kid) = false := by simp [hk]
    clear hk
    go_wp2_with (first
      | (refine wpList_store_nd (W := w3) (by rfl) _ _ (by rfl) (by rfl) x (by rfl) _ (by rfl) (by rfl) ?_; rw [← H4.out])
      | (refine wpList_store_cell (by rfl) 27 (.tmp 26) (.tmp 24) (by rfl) w3.heap.size 5 (by rfl) (.int .u64 kid) (by rfl) rfl (by kernel_rfl) _ HB4.out (by rw [Nd.arr_size]; omega) ?_
         intro w5 B5 O5
         have X5 := Lib.hid (O5.new X4.out (by have := hs3.out; omega))
         have e2 : w5.cell? ⟨w3.heap.size, 2, none⟩ = some (.int .i64 k) := by rw [← HX.out.n]; exact (B5.cell 2).trans (by simp [Nd.arr])
         have e3 : w5.cell? ⟨w3.heap.size, 3, none⟩ = some (.int .i64 v) := by rw [← HX.out.v]; exact (B5.cell 3).trans (by simp [Nd.arr])
         have e5 : w5.cell? ⟨w3.heap.size, 5, none⟩ = some (.int .u64 kid) := by exact (B5.cell 5).trans (by simp [Nd.arr])
         have e6 : w5.cell? ⟨w3.heap.size, 6, none⟩ = some (.int .u64 u.ref) := by rw [← HX.out.r1]; exact (B5.cell 6).trans (by simp [Nd.arr])
         have HMd := Lib.hid (made_is b ns fs err k v kid u.ref (some ⟨w5.heap.size, 0, none⟩) 2 (w5.alloc (.cells #[.int .u64 kid, .int .u64 u.ref] 27)) ((HM.out.to X5.out).to ((Ext.refl _).new _)) (Rd.lit w5 #[.int .u64 kid, .int .u64 u.ref] 27 2 rfl) hRk (refMay_rep HR.out.2.2) hUk HK.out.2)
         clear B5 O5))
    refine HMd.out.mono ?_
    intro e w9 hM
    have HF := Lib.hid (show MOut b ns fs err 1 (Kid0 ns kid l k v u) w e w9 from
      (hM.pre (X5.out.new _)).imp (fun ns' fs' z hg hgot t ht hr hts => by
        subst hr
        exact kid_got hg.keep ht HR.out.2.2 (by omega) hgot))
    obtain ⟨ns', fs', err', z, rfl, _⟩ := hM
    go_wp2_with fail
    go_ret
    exact HF.out

/-- A map with another kid. -/
def Kid1 (ns : List Nd) (kid : Int) (l : T) (k v : Int) (u : T) (ns' : List Nd) (z : Int) : Prop :=
  ∀ t, Rep ns t → t.ref = kid → t.size ≤ 400 → Rep ns' (.node z l k v t)

set_option maxHeartbeats 4000000 in
theorem with1_is (b : Nat) (ns : List Nd) (fs : List Int) (err : Int) (r : Int) (l : T) (k v : Int) (u : T) (kid : Int) (w : World) (h : Mk w b ns fs err) (hR : Rep ns (.node r l k v u)) (hUr : U r) (hz : l.size + u.size ≤ 400) (hRk : RefMay kid) (hUk : U kid) :
    Calls Try.prog 59 #[.pointer (some ⟨b, 0, none⟩), .int .u64 r, .int .i64 1, .int .u64 kid] w (MOut b ns fs err 1 (Kid1 ns kid l k v u) w) := by
  obtain ⟨A, n, c, B, m, d, hb, ha, hA, hB⟩ := h.box
  obtain ⟨x, hx⟩ := hR.nod
  have hkids := hR.kids ha.ok
  have HN := Lib.hid (fun W (hW : Ext w W) => nodeOf_is A B n c m d ns r W hUr.1 hUr.2 (ha.nodes.to hW))
  rw [hx.at_] at HN
  have c0 : w.cell? ⟨b, 0, none⟩ = some (.slice A n c) := hb.cell 0
  have c1 : w.cell? ⟨b, 1, none⟩ = some (.slice B m d) := hb.cell 1
  have HM := Lib.hid h
  have HX := Lib.hid hx
  have HK := Lib.hid hkids
  have HR := Lib.hid hR
  have hlt := Lib.hid hb.lt
  clear hb ha hA hB h hx hkids hR
  go_enter Try.func59, Try.ntmps59
  go_wp2_with fail
  refine (HN.out _ (Ext.refl _)).mono ?_; rintro e w3 ⟨rfl, hx3⟩
  obtain ⟨w4, hw4⟩ : ∃ w4, w4 = w3.alloc (.cells x.arr 66) := ⟨_, rfl⟩
  obtain ⟨B4, hx4, hs4⟩ := box_made hw4
  have H4 := Lib.hid hw4
  have HB4 := Lib.hid B4
  have X4 := Lib.hid (hx3.step hx4)
  have hs3 := Lib.hid hx3.size
  obtain ⟨y, hy⟩ : ∃ y, y = u.ref := ⟨_, rfl⟩
  have HY := Lib.hid hy
  have d5 : w4.cell? ⟨w3.heap.size, 6, none⟩ = some (.int .u64 y) := by rw [hy, ← HX.out.r1]; exact (B4.cell 6).trans x.a6
  clear hw4 B4 hx3 hx4 hs4 hy c0 c1
  by_cases hk : y = kid
  · subst hk
    have HF := Lib.hid (show MOut b ns fs err 1 (Kid1 ns y l k v u) w (.returned (.int .u64 r)) w4 from
      ⟨ns, fs, err, r, rfl, HM.out.to X4.out, (Only.refl b w).ext X4.out, Gr.refl _ _ _, refMay_rep HR.out, hUr, fun h => ⟨h, fun t ht hr _ => by
        obtain rfl : t = u := rep_det ht HR.out.2.2 (by rw [hr, HY.out])
        exact HR.out⟩, fun h => .inl h⟩)
    go_wp2_with (first
      | (refine wpList_store_nd (W := w3) (by rfl) _ _ (by rfl) (by rfl) x (by rfl) _ (by rfl) (by rfl) ?_; rw [← H4.out]))
    go_ret
    exact HF.out
  · have hk' : (y == kid) = false := by simp [hk]
    clear hk
    go_wp2_with (first
      | (refine wpList_store_nd (W := w3) (by rfl) _ _ (by rfl) (by rfl) x (by rfl) _ (by rfl) (by rfl) ?_; rw [← H4.out])
      | (refine wpList_store_cell (by rfl) 27 (.tmp 26) (.tmp 24) (by rfl) w3.heap.size 6 (by rfl) (.int .u64 kid) (by rfl) rfl (by kernel_rfl) _ HB4.out (by rw [Nd.arr_size]; omega) ?_
         intro w5 B5 O5
         have X5 := Lib.hid (O5.new X4.out (by have := hs3.out; omega))
         have e2 : w5.cell? ⟨w3.heap.size, 2, none⟩ = some (.int .i64 k) := by rw [← HX.out.n]; exact (B5.cell 2).trans (by simp [Nd.arr])
         have e3 : w5.cell? ⟨w3.heap.size, 3, none⟩ = some (.int .i64 v) := by rw [← HX.out.v]; exact (B5.cell 3).trans (by simp [Nd.arr])
         have e5 : w5.cell? ⟨w3.heap.size, 5, none⟩ = some (.int .u64 l.ref) := by rw [← HX.out.r0]; exact (B5.cell 5).trans (by simp [Nd.arr])
         have e6 : w5.cell? ⟨w3.heap.size, 6, none⟩ = some (.int .u64 kid) := by exact (B5.cell 6).trans (by simp [Nd.arr])
         have HMd := Lib.hid (made_is b ns fs err k v l.ref kid (some ⟨w5.heap.size, 0, none⟩) 2 (w5.alloc (.cells #[.int .u64 l.ref, .int .u64 kid] 27)) ((HM.out.to X5.out).to ((Ext.refl _).new _)) (Rd.lit w5 #[.int .u64 l.ref, .int .u64 kid] 27 2 rfl) (refMay_rep HR.out.2.1) hRk HK.out.1 hUk)
         clear B5 O5))
    refine HMd.out.mono ?_
    intro e w9 hM
    have HF := Lib.hid (show MOut b ns fs err 1 (Kid1 ns kid l k v u) w e w9 from
      (hM.pre (X5.out.new _)).imp (fun ns' fs' z hg hgot t ht hr hts => by
        subst hr
        exact kid_got hg.keep HR.out.2.1 ht (by omega) hgot))
    obtain ⟨ns', fs', err', z, rfl, _⟩ := hM
    go_wp2_with fail
    go_ret
    exact HF.out

end Go.Proofs.Ythgaogbpkedjcaa
