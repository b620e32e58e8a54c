/-
  Contracts: isFull, Size, Get of package hamt.
-/
import Derived.Test.YtfoifcbaadnigaaHtHas
set_option linter.unusedVariables false
set_option linter.unusedSimpArgs false
namespace Go.Proofs.Ytfoifcbaadnigaa
open Go.RowKit

set_option maxHeartbeats 1000000 in
theorem htFull_is (A B : Option Addr) (n c m d : Nat) (ns : List Nd) (hok : ∀ x ∈ ns, x.Ok) (t : HT) (hR : Rp ns t) (hS : Sh 0 t) (key : Int) (w : World) (h : Rd w 16 A n (flat Nd.cells ns)) (hU : U t.ref) (hsz : t.size < 200) (hlb : (lby key t 0).length < 9) :
    Calls Try.prog 24 #[.agg #[.slice A n c, .slice B m d], .int .u64 t.ref, .int .i64 key] w fun e w' => e = .returned (.bool false) ∧ Ext w w' := by
  obtain ⟨w1, hw1⟩ : ∃ w1, w1 = w.alloc (.cells #[.slice A n c, .slice B m d] 26) := ⟨_, rfl⟩
  obtain ⟨B1, hx1, hs1⟩ := box_made hw1
  have H1 := Lib.hid hw1
  have HB1 := Lib.hid B1
  have X1 := Lib.hid hx1
  have i0 : w1.cell? ⟨w.heap.size, 0, none⟩ = some (.slice A n c) := B1.cell 0
  have i1 : w1.cell? ⟨w.heap.size, 1, none⟩ = some (.slice B m d) := B1.cell 1
  have HL := Lib.hid (fun W (hW : Ext w W) => htLv_is A B n c m d ns hok key t 0 hR hS W (h.to hW) hU)
  have HZ := Lib.hid (fun W (hW : Ext w W) => htSize_is A B n c m d ns t.ref W hU.1 hU.2 (h.to hW))
  rw [szF_rp hR] at HZ
  obtain ⟨s, hs⟩ : ∃ s, s = t.size := ⟨_, rfl⟩
  obtain ⟨l, hl⟩ : ∃ l, l = lby key t 0 := ⟨_, rfl⟩
  rw [← hl] at HL hlb
  rw [← hs] at HZ hsz
  have e1 : ((s : Int) == 200) = false := by simp; omega
  have HLB := Lib.hid hlb
  clear hw1 B1 hx1 hs1 h hR hS hok hs hl hlb
  go_enter Try.func24, Try.ntmps24
  go_upto_region 1 with fail
  rw [← H1.out]
  go_wp2_with (first
    | (go_at_call 35; refine (HZ.out _ X1.out).mono ?_; rintro e w3 ⟨rfl, hx3⟩; have i0' := hx3.cellOf i0; have i1' := hx3.cellOf i1)
    | (go_at_call 33; refine (HL.out _ (X1.out.step hx3)).mono ?_; rintro e w4 ⟨S, n', c', rfl, ⟨hs4, _⟩, hx4⟩
       have hn9 : ((n' : Int) == 9) = false := by
         have h1 := hs4.len
         have h2 := HLB.out
         simp only [List.length_map] at h1
         simp; omega))
  go_ret
  exact ⟨by simp [hn9], X1.out.step (hx3.step hx4)⟩

set_option maxHeartbeats 1000000 in
theorem htSizeC_is (A B : Option Addr) (n c m d : Nat) (ns : List Nd) (fs : List Int) (t : HT) (hM : Rp ns t ∧ Sh 0 t ∧ t.size ≤ 200) (w : World) (h : Ar w A n B m ns fs) (hn : n ≤ 1000) (hm : m ≤ 1000) (hU : U t.ref) (hmay : ArMay ns fs) :
    Calls Try.prog 18 #[.agg #[.slice A n c, .slice B m d], .int .u64 t.ref] w fun e w' => e = .returned (.tuple #[.int .i64 t.size, .int .i64 0]) ∧ Ext w w' := by
  obtain ⟨w1, hw1⟩ : ∃ w1, w1 = w.alloc (.cells #[.slice A n c, .slice B m d] 26) := ⟨_, rfl⟩
  obtain ⟨B1, hx1, hs1⟩ := box_made hw1
  have H1 := Lib.hid hw1
  have X1 := Lib.hid hx1
  have i0 : w1.cell? ⟨w.heap.size, 0, none⟩ = some (.slice A n c) := B1.cell 0
  have i1 : w1.cell? ⟨w.heap.size, 1, none⟩ = some (.slice B m d) := B1.cell 1
  have HR := Lib.hid (fun W (hW : Ext w W) => htRight_is A B n c m d ns fs t.ref W (h.to hW) hn hm hU true (by simp only [true_iff]; exact ⟨hmay, t, hM.1, rfl, hM.2.1, hM.2.2⟩))
  have HZ := Lib.hid (fun W (hW : Ext w W) => htSize_is A B n c m d ns t.ref W hU.1 hU.2 (h.nodes.to hW))
  rw [szF_rp hM.1] at HZ
  have hle := hM.2.2
  obtain ⟨s, hs⟩ : ∃ s, s = t.size := ⟨_, rfl⟩
  rw [← hs] at HZ hle ⊢
  clear hw1 B1 hx1 hs1 h hM hs hmay
  go_enter Try.func18, Try.ntmps18
  go_upto_region 1 with fail
  rw [← H1.out]
  go_wp2_with (first
    | (go_at_call 19; refine (HR.out _ X1.out).mono ?_; rintro e w3 ⟨rfl, hx3⟩; have i0' := hx3.cellOf i0; have i1' := hx3.cellOf i1)
    | (go_at_call 35; refine (HZ.out _ (X1.out.step hx3)).mono ?_; rintro e w4 ⟨rfl, hx4⟩))
  go_ret2
  exact ⟨rfl, X1.out.step (hx3.step hx4)⟩

/-- What Get tells of leaves. -/
def getL (key : Int) (ls : List Lf) : Int × Int := match ls.find? (fun y => y.k == key) with
  | some y => (y.v, 0)
  | none => (0, 3)

set_option maxHeartbeats 2000000 in
set_option maxRecDepth 100000 in
theorem htGet_is (A B : Option Addr) (n c m d : Nat) (ns : List Nd) (fs : List Int) (t : HT) (hM : Rp ns t ∧ Sh 0 t ∧ t.size ≤ 200) (key : Int) (w : World) (h : Ar w A n B m ns fs) (hn : n ≤ 1000) (hm : m ≤ 1000) (hU : U t.ref) (hmay : ArMay ns fs) :
    Calls Try.prog 17 #[.agg #[.slice A n c, .slice B m d], .int .u64 t.ref, .int .i64 key] w fun e w' => e = .returned (.tuple #[.int .i64 (getL key (lby key t 0)).1, .int .i64 (getL key (lby key t 0)).2]) ∧ Ext w w' := by
  obtain ⟨w1, hw1⟩ : ∃ w1, w1 = w.alloc (.cells #[.slice A n c, .slice B m d] 26) := ⟨_, rfl⟩
  obtain ⟨B1, hx1, hs1⟩ := box_made hw1
  have H1 := Lib.hid hw1
  have HB1 := Lib.hid B1
  have X1 := Lib.hid hx1
  have i0 : w1.cell? ⟨w.heap.size, 0, none⟩ = some (.slice A n c) := B1.cell 0
  have i1 : w1.cell? ⟨w.heap.size, 1, none⟩ = some (.slice B m d) := B1.cell 1
  have HR := Lib.hid (fun W (hW : Ext w W) => htRight_is A B n c m d ns fs t.ref W (h.to hW) hn hm hU true (by simp only [true_iff]; exact ⟨hmay, t, hM.1, rfl, hM.2.1, hM.2.2⟩))
  have HL := Lib.hid (fun W (hW : Ext w W) => htLv_is A B n c m d ns h.ok key t 0 hM.1 hM.2.1 W (h.nodes.to hW) hU)
  obtain ⟨l, hl⟩ : ∃ l, l = lby key t 0 := ⟨_, rfl⟩
  rw [← hl] at HL ⊢
  have HLV := Lib.hid (show ∀ y ∈ l, Lv ns y ∧ U y.r from fun y hy => ⟨rp_lvs hM.1 (lby_lvs (by rw [← hl]; exact hy)), rp_u h.ok hM.1 hM.2.1 hU y (lby_lvs (by rw [← hl]; exact hy))⟩)
  have hl9 : l.length ≤ 9 := by rw [hl]; exact lby_len hM.2.1
  have HL9 := Lib.hid hl9
  obtain ⟨p, hp⟩ : ∃ p, p = getL key l := ⟨_, rfl⟩
  rw [← hp]
  obtain ⟨p1, p2⟩ := p
  have HP := Lib.hid hp
  have HA := Lib.hid h
  clear hw1 B1 hx1 hs1 h hM hl hmay hl9 hp
  go_enter Try.func17, Try.ntmps17
  go_upto_region 1 with fail
  rw [← H1.out]
  go_wp2_with (first
    | (go_at_call 19; refine (HR.out _ X1.out).mono ?_; rintro e w3 ⟨rfl, hx3⟩; have i0' := hx3.cellOf i0; have i1' := hx3.cellOf i1)
    | (go_at_call 33; refine (HL.out _ (X1.out.step hx3)).mono ?_; rintro e w4 ⟨S, n', c', rfl, ⟨hs4, _⟩, hx4⟩))
  have hn' : l.length = n' := by have := hs4.len; simpa using this
  have HN' := Lib.hid hn'
  have HS4 := Lib.hid hs4.rd
  have HX4 := Lib.hid (X1.out.step (hx3.step hx4))
  have HX14 := Lib.hid (hx3.step hx4)
  have hn9 : n' ≤ 9 := by have := HL9.out; omega
  clear hs4 hx3 hx4 hn' i0' i1'
  go_loopw [20, 9, 10] (fun j _ _ wr => Hid (Ext w4 wr) ∧ ∃ k : Nat, k ≤ n' ∧ j = .int .i64 k ∧ Hid (∀ i y, i < k → l[i]? = some y → y.k ≠ key)) (fun j _ _ _ => n' - (intOf j).toNat)
  case atStart => exact ⟨Lib.hid (Ext.refl _), 0, by omega, rfl, Lib.hid (fun i y hi => by omega)⟩
  case round =>
    obtain ⟨hx, k, hk, rfl, hP⟩ := hrel
    rename World => w5
    by_cases hkn : k < n'
    · obtain ⟨y, hy⟩ : ∃ y, l[k]? = some y := ⟨_, List.getElem?_eq_getElem (by have := HN'.out; omega)⟩
      obtain ⟨ad, rfl⟩ := HS4.out.some_ (by omega) (by omega)
      have c0 : w5.cell? (ad.add k) = some (.int .u64 y.r) := by
        have := (HS4.out.to hx.out).u64 hkn
        rw [this]
        simp [ith, List.getD_eq_getElem?_getD, hy]
      obtain ⟨hlv, hUy⟩ := HLV.out y (List.mem_of_getElem? hy)
      obtain ⟨gy, ey⟩ := hlv.nodeF
      have HN := Lib.hid (fun W (hW : Ext w5 W) => htNode_is A B n c m d ns y.r W hUy.1 hUy.2 (HA.out.nodes.to (HX4.out.step (hx.out.step hW))))
      obtain ⟨x, hx'⟩ : ∃ x, x = nodeF ns y.r := ⟨_, rfl⟩
      rw [← hx'] at HN
      have HX := Lib.hid (show x = leafNd gy y.k y.v by rw [hx', ey])
      have e0 : w5.cell? ⟨w.heap.size, 0, none⟩ = some (.slice A n c) := hx.out.cellOf (HX14.out.cellOf i0)
      have e1 : w5.cell? ⟨w.heap.size, 1, none⟩ = some (.slice B m d) := hx.out.cellOf (HX14.out.cellOf i1)
      obtain ⟨z, hz⟩ : ∃ z, z = y.r := ⟨_, rfl⟩
      rw [← hz] at c0 HN
      have HY := Lib.hid hy
      have hX5 := hx
      have hnk : ¬ n' ≤ k := by omega
      clear hx hy hlv hUy ey hx' hz
      go_wp2_with fail
      refine (HN.out _ (Ext.refl _)).mono ?_; rintro e w6 ⟨rfl, hx6⟩
      obtain ⟨w7, hw7⟩ : ∃ w7, w7 = w6.alloc (.cells x.arr 68) := ⟨_, rfl⟩
      obtain ⟨B7, hx7, hs7⟩ := box_made hw7
      have H7 := Lib.hid hw7
      have X7 := Lib.hid (hX5.out.step (hx6.step hx7))
      have kn : w7.cell? ⟨w6.heap.size, 2, none⟩ = some (.int .i64 y.k) := by rw [show y.k = x.n by rw [HX.out]; rfl]; exact (B7.cell 2).trans x.a2
      have kv : w7.cell? ⟨w6.heap.size, 3, none⟩ = some (.int .i64 y.v) := by rw [show y.v = x.v by rw [HX.out]; rfl]; exact (B7.cell 3).trans x.a3
      clear hw7 B7 hx7 hs7 hx6
      by_cases hkey : y.k = key
      · have hkt : (y.k == key) = true := by simp [hkey]
        have HF := Lib.hid (show p1 = y.v ∧ p2 = 0 by
          have h1 : l.find? (fun y => y.k == key) = some y := by
            rw [List.find?_eq_some_iff_getElem]
            obtain ⟨hlt, hge⟩ := List.getElem?_eq_some_iff.1 HY.out
            exact ⟨hkt, k, hlt, hge, fun j hj => by
              have := hP.out j (l[j]'(by omega)) hj (List.getElem?_eq_getElem (by omega))
              simp [this]⟩
          have := HP.out
          unfold getL at this
          rw [h1] at this
          injection this with a b
          exact ⟨a, b⟩)
        clear hkey
        go_wp2_with (first
          | (refine wpList_store_nd (W := w6) (by rfl) _ _ (by rfl) (by rfl) x (by rfl) _ (by rfl) (by rfl) ?_; rw [← H7.out]))
        go_ret2
        refine ⟨?_, HX4.out.step X7.out⟩
        rw [HF.out.1, HF.out.2]
        rfl
      · have hkf : (y.k == key) = false := by simp [hkey]
        have HP' := Lib.hid (show ∀ i y, i < k + 1 → l[i]? = some y → y.k ≠ key from fun i y' hi hy' => by
          rcases (by omega : i < k ∨ i = k) with h | rfl
          · exact hP.out i y' h hy'
          · rw [HY.out] at hy'
            injection hy' with hy'
            rw [← hy']
            exact hkey)
        clear hkey
        go_wp2_with (first
          | (refine wpList_store_nd (W := w6) (by rfl) _ _ (by rfl) (by rfl) x (by rfl) _ (by rfl) (by rfl) ?_; rw [← H7.out]))
        exact ⟨⟨X7, k + 1, by omega, rfl, HP'⟩, by simp [intOf]; omega⟩
    · obtain rfl : k = n' := by omega
      have HF := Lib.hid (show p1 = 0 ∧ p2 = 3 by
        have h1 : l.find? (fun y => y.k == key) = none := by
          rw [List.find?_eq_none]
          intro y hy
          obtain ⟨i, hi⟩ := List.getElem?_of_mem hy
          have hil := (List.getElem?_eq_some_iff.1 hi).1
          have := hP.out i y (by have := HN'.out; omega) hi
          simp [this]
        have := HP.out
        unfold getL at this
        rw [h1] at this
        injection this with a b
        exact ⟨a, b⟩)
      go_wp2_with fail
      go_ret2
      refine ⟨?_, HX4.out.step hx.out⟩
      rw [HF.out.1, HF.out.2]
      rfl

end Go.Proofs.Ytfoifcbaadnigaa
