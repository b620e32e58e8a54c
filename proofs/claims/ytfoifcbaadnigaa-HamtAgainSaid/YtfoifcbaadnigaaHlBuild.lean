/-
  Contract of the document's Build of tables.
-/
import Derived.Test.YtfoifcbaadnigaaHlLay
import Derived.Test.YtfoifcbaadnigaaHtArs
set_option linter.unusedVariables false
set_option linter.unusedSimpArgs false
namespace Go.Proofs.Ytfoifcbaadnigaa
open Go.RowKit

/-- What Build answers. -/
def BuildT (n : Nat) (l : Row) (w : World) (e : Ending) (w' : World) : Prop :=
  ∃ (A : Option Addr) (k c : Nat) (B : Option Addr) (m d : Nat) (ns : List Nd) (fs : List Int) (z : Int), e = .returned (.tuple #[.agg #[.slice A k c, .slice B m d], .int .u64 z]) ∧ Av w' A k B m ns fs ∧ TabV ns z l ∧ n - need 0 l ≤ fs.length ∧ Ext w w'

set_option maxHeartbeats 6400000 in
set_option maxRecDepth 100000 in
theorem build9_is (n m : Nat) (l : Row) (L : Option Addr) (cL : Nat) (w : World) (h1 : 1 ≤ n) (h2 : n ≤ 512) (hlm : l.length = m) (hmn : need 0 l ≤ n) (hm : m ≤ 200) (hmc : m ≤ cL) (hcL : cL ≤ maxLen) (hL : RdI w L m l) (hA : Apt 0 l) :
    Calls Try.prog 16 #[.int .i64 n, .slice L m cL] w (BuildT n l w) := by
  obtain ⟨i0, hi0, hz0, hz1, hz2⟩ := info_parts int_info
  obtain ⟨i1, hi1, hy0, hy1, hy2⟩ := info_parts node_info
  obtain ⟨w1, hw1⟩ : ∃ w1, w1 = w.alloc (.cells #[.slice none 0 0, .slice none 0 0] 26) := ⟨_, rfl⟩
  obtain ⟨B1, hx1, hs1⟩ := box_made hw1
  have H1 := Lib.hid hw1
  have HB1 := Lib.hid B1
  have X1 := Lib.hid hx1
  have HS1 := Lib.hid hs1
  have HL := Lib.hid hL
  have HLG := Lib.hid (show m = 0 ∨ ∀ q, L = some q → q.block < w.heap.size by
    rcases Nat.eq_zero_or_pos m with h0 | h0
    · exact .inl h0
    · right
      intro q hq
      obtain ⟨x, hx⟩ : ∃ x, l[0]? = some x := ⟨_, List.getElem?_eq_getElem (by omega)⟩
      obtain ⟨ad, ha, hit⟩ := hL.item hx
      rw [hq] at ha
      injection ha with ha
      subst ha
      have := World.block_lt_of_cell? w _ hit.1
      rwa [addr_block] at this)
  have HSRT := Lib.hid hA
  have HLM := Lib.hid hlm
  have HCL := Lib.hid hcL
  have HMC := Lib.hid hmc
  clear hw1 B1 hx1 hs1 hL hA hlm hcL hmc
  go_enter Try.func16, Try.ntmps16
  go_wp2_with (at_make
               rw [← H1.out]
               refine wpList_make_full w1 rfl _ _ 23 rfl w.heap.size 68 i1 _ 16 Try.underlying23 hi1 hy0 hy1 .i64 .i64 _ _ n rfl rfl rfl rfl (by rw [hy2]; omega) (by unfold maxLen; omega) (by have := X1.out.size; omega) ?_
               intro w2 hown hgr)
  rw [show (Value.agg #[.int .i64 0, .int .i64 0, .int .i64 0, .int .i64 0, .int .i64 0, .int .u64 0, .int .u64 0, .int .u64 0, .int .u64 0, .int .u64 0, .int .u64 0, .int .u64 0, .int .u64 0, .int .u64 0, .int .i64 0, .int .i64 0]) = .agg (bare 0).arr from rfl] at hown
  simp only [Value.cells] at hown
  rw [made_nodes] at hown
  obtain ⟨g, c, hv, hg, hO⟩ := OwnN.of_own hown (by omega)
  obtain ⟨rfl, _⟩ : g = w1.heap.size ∧ c = n := by
    injection hv with h1 _ h2
    injection h1 with h1
    injection h1 with h1
    exact ⟨h1.symm, h2.symm⟩
  have X2 : Ext w1 w2 := ⟨hgr.os, hgr.tape, hgr.output, hgr.size, fun k hk => hgr.block k hk (by simp)⟩
  obtain ⟨w3, hw3⟩ : ∃ w3, w3 = w2.alloc (.cells #[.slice (some ⟨w1.heap.size, 0, none⟩) n n, .slice none 0 0] 26) := ⟨_, rfl⟩
  obtain ⟨B3, hx3, hs3⟩ := box_made hw3
  obtain ⟨g, hgq⟩ : ∃ g, g = w1.heap.size := ⟨_, rfl⟩
  obtain ⟨b, hbq⟩ : ∃ b, b = w2.heap.size := ⟨_, rfl⟩
  rw [← hgq] at hO B3 hw3 ⊢
  rw [← hbq] at B3
  have HGB := Lib.hid (show g = w.heap.size + 1 ∧ g < b ∧ b < w3.heap.size from ⟨by have := HS1.out; omega, by have := hO.lt; omega, B3.lt⟩)
  have H3 := Lib.hid hw3
  have Hb := Lib.hid hbq
  have HB3 := Lib.hid B3
  have X3 := Lib.hid (X1.out.step (X2.step hx3))
  have HBr := Lib.hid (HB1.out.to (X2.step hx3))
  have hg1 := HGB.out
  have HLY := Lib.hid (lay9_apt g n n none 0 0 l 0 0 (List.replicate n (bare 0)) L m cL w3 h2 HLM.out (by omega) HMC.out HCL.out (HL.out.to X3.out) (HLG.out.imp id (fun h0 q hq => by have := h0 q hq; omega)) HSRT.out (hO.to hx3) (by simp) (by omega))
  have k0 : w3.cell? ⟨b, 0, none⟩ = some (.slice (some ⟨g, 0, none⟩) n n) := B3.cell 0
  have k1 : w3.cell? ⟨b, 1, none⟩ = some (.slice none 0 0) := B3.cell 1
  clear hown hgr hv hg hO X2 hw3 B3 hx3 hs3 hgq hbq hg1
  go_wp2_with fail
  rw [← H3.out, ← Hb.out]
  go_wp2_with fail
  refine HLY.out.mono ?_
  rintro e w4 ⟨ns', z, cnt, rfl, hO4, ho4, hLd⟩
  rw [Nat.zero_add]
  obtain ⟨w5, hw5⟩ : ∃ w5, w5 = w4.alloc (.cells #[.slice (some ⟨g, 0, none⟩) n n, .slice none 0 0, .int .i64 cnt, .int .u64 z] 76) := ⟨_, rfl⟩
  obtain ⟨B5, hx5, hs5⟩ := box_made hw5
  obtain ⟨b2, hb2q⟩ : ∃ b, b = w4.heap.size := ⟨_, rfl⟩
  rw [← hb2q] at B5
  have HGB2 := Lib.hid (show b < b2 ∧ b2 < w5.heap.size from ⟨by have h3 := HGB.out; have h4 := ho4.size; omega, B5.lt⟩)
  have H5 := Lib.hid hw5
  have Hb2 := Lib.hid hb2q
  have HO4 := Lib.hid (hO4.to hx5)
  have HB4 := Lib.hid B5
  have HBr4 := Lib.hid ((ho4.bx HBr.out (by have := HGB.out; omega)).to hx5)
  have X4 := Lib.hid ((ho4.new X3.out (by have := HGB.out; omega)).step hx5)
  have hcn : cnt ≤ n := by have h3 : cnt ≤ need 0 l := hLd.few; omega
  have HCN := Lib.hid (show cnt ≤ need 0 l from hLd.few)
  have HLd := Lib.hid hLd
  have e0 : IntKind.i64.wrap ((n : Int) - 1) = (n : Int) - 1 := by rw [IntKind.wrap_i64]; omega
  clear hO4 ho4 hLd k0 k1 hw5 B5 hx5 hs5 hb2q
  go_wp2_with fail
  rw [← H5.out, ← Hb2.out]
  go_loopw [8] (fun j wr => Hid (Ext w wr) ∧ ∃ (k : Nat) (v : Value), cnt ≤ k ∧ k ≤ n ∧ j = .int .i64 ((k : Int) - 1) ∧ Hid (Bx wr b2 #[.slice (some ⟨g, 0, none⟩) n n, v, .int .i64 cnt, .int .u64 z]) ∧ Hid (Bx wr w.heap.size #[.slice none 0 0, .slice none 0 0]) ∧ Hid (OwnN wr g ns') ∧ Hid (RowX wr w.heap.size [b2, g, w.heap.size] 3 1 v (n - k) (Ks .i64 (downTo n k)))) (fun j _ => (intOf j + 1).toNat)
  case atStart => exact ⟨X4, n, _, hcn, Nat.le_refl _, rfl, HB4, HBr4, HO4, Lib.hid (by rw [downTo_self, Nat.sub_self]; exact RowX.nil0 _ _ _ _ _)⟩
  case round =>
    obtain ⟨hx, k, v, hk1, hk2, rfl, hB, hBr, hO, hR⟩ := hrel
    rename World => w5
    by_cases hlt : cnt < k
    · obtain ⟨q, rfl⟩ : ∃ q, k = q + 1 := ⟨k - 1, by omega⟩
      have eq : ((q + 1 : Nat) : Int) - 1 = (q : Int) := by omega
      have eq1 : IntKind.i64.wrap ((q : Int) - 1) = (q : Int) - 1 := by rw [IntKind.wrap_i64]; omega
      have hmq : cnt ≤ q := by omega
      obtain ⟨A, cA, hv, _, _⟩ := hR.out.slice
      subst hv
      have c1 : w5.cell? ⟨b2, 1, none⟩ = some (.slice A (n - (q + 1)) cA) := hB.out.cell 1
      have c2 : w5.cell? ⟨b2, 2, none⟩ = some (.int .i64 cnt) := hB.out.cell 2
      obtain ⟨w6, hw6⟩ : ∃ w6, w6 = w5.alloc (.cells #[.int .i64 q] 3) := ⟨_, rfl⟩
      obtain ⟨B6, hx6, hs6⟩ := box_made hw6
      have H6 := Lib.hid hw6
      have HR6 := Lib.hid (show Rd w6 1 (some ⟨w5.heap.size, 0, none⟩) 1 (Ks .i64 [(q : Int)]) by rw [hw6]; exact Rd.lit w5 #[.int .i64 q] 3 1 rfl)
      have HX6 := Lib.hid (hR.out.to hx6)
      have HB6 := Lib.hid (hB.out.to hx6)
      have HBr6 := Lib.hid (hBr.out.to hx6)
      have HO6 := Lib.hid (hO.out.to hx6)
      have X6 := Lib.hid (hx.out.step hx6)
      have HGB' := HGB.out
      have HGB2' := HGB2.out
      have hlt6 := Lib.hid (show ∀ j ∈ [b2, g, w.heap.size], j < w6.heap.size by
        intro j hj
        simp at hj
        have h1 := HB6.out.lt
        rcases hj with rfl | rfl | rfl <;> omega)
      clear hw6 B6 hx6 hs6 hB hBr hO hR hx HGB' HGB2'
      rw [eq]
      go_wp2_with (first
        | (at_builtin
           rw [← H6.out]
           refine wpList_append_y _ rfl (.tmp 26) (.tmp 28) _ rfl 3 i0 _ 1 8 Try.underlying24 hi0 hz0 hz1 hz2 rfl (by omega) w.heap.size [b2, g, w.heap.size] _ (n - (q + 1)) (Ks .i64 (downTo n (q + 1))) rfl HX6.out (some ⟨w5.heap.size, 0, none⟩) 1 1 (Ks .i64 [(q : Int)]) rfl HR6.out (Ks_one _ _) (by simp only [maxLen]; omega) (by omega) X6.out.size hlt6.out ?_
           intro A7 c7 w7 r7 hr7 hg7 hn7 hb7
           have HB7 := Lib.hid (HB6.out.grown hg7 (hn7 b2 (by simp)))
           have HBr7 := Lib.hid (HBr6.out.grown hg7 (hn7 w.heap.size (by simp)))
           have HO7 := Lib.hid (HO6.out.grown hg7 (hn7 g (by simp)))
           have X7 := Lib.hid (X6.out.grown hg7 hb7)
           have HR7 := Lib.hid hr7
           clear hr7 hg7 hn7 hb7)
        | (refine wpList_store_cell (by rfl) 24 (.tmp 31) (.tmp 29) (by rfl) b2 1 (by rfl) (.slice A7 (n - (q + 1) + 1 : Nat) c7) (by rfl) rfl (by kernel_rfl) _ HB7.out (by simp) ?_
           intro w8 B8 O8))
      go_roundw
      case rel => 
        have hGB := HGB.out
        have hGB2 := HGB2.out
        refine ⟨Lib.hid (O8.new X7.out (by omega)), q, .slice A7 (n - (q + 1) + 1 : Nat) c7, hmq, by omega, rfl, Lib.hid B8, Lib.hid (O8.bx HBr7.out (by omega)), Lib.hid (HO7.out.only O8 (by omega)), Lib.hid ?_⟩
        have h0 := HR7.out.only O8 (by simp)
        rw [show n - (q + 1) + 1 = n - q by omega] at h0 ⊢
        rw [← downTo_succ (show q < n by omega)]
        simpa [Ks] using h0
      case measure => simp [intOf]
    · obtain rfl : k = cnt := by omega
      obtain ⟨A, cA, hv, hc1, hc2⟩ := hR.out.slice
      subst hv
      have c2 : w5.cell? ⟨b2, 2, none⟩ = some (.int .i64 k) := hB.out.cell 2
      have hge : ¬ ((k : Int) ≤ (k : Int) - 1) := by omega
      have hBr' := hBr.out
      have HX := Lib.hid hx.out
      have HBq := Lib.hid hB.out
      go_wp2_with fail
      have HGBs := Lib.hid (show w.heap.size ≠ b2 from by have h3 := HGB.out; have h4 := HGB2.out; omega)
      have hS0 : (fun W : World => W.cell? ⟨b2, 0, none⟩ = some (.slice (some ⟨g, 0, none⟩) n n) ∧ W.cell? ⟨b2, 1, none⟩ = some (.slice A (n - k) cA) ∧ W.cell? ⟨b2, 3, none⟩ = some (.int .u64 z)) w5.drew := ⟨HBq.out.drew.cell 0, HBq.out.drew.cell 1, HBq.out.drew.cell 3⟩
      clear c2
      refine wp_region_held (S := fun W : World => W.cell? ⟨b2, 0, none⟩ = some (.slice (some ⟨g, 0, none⟩) n n) ∧ W.cell? ⟨b2, 1, none⟩ = some (.slice A (n - k) cA) ∧ W.cell? ⟨b2, 3, none⟩ = some (.int .u64 z)) (by kernel_rfl) ?_
      refine wpAnyH_take (i := 0) (v := .pointer (some ⟨b2, 0, none⟩)) rfl (by kernel_rfl) (by kernel_rfl) (by kernel_rfl) (fun _ _ _ h => h) (Or.inl ⟨by rfl, by intro W hW; obtain ⟨q0, q1, q3⟩ := hW; go_simp⟩) hS0 ?_
      try simp only [Act.put, List.getElem_toArray, List.getElem_cons_succ, List.getElem_cons_zero, List.setIfInBounds_toArray, List.set_cons_zero, List.set_cons_succ]
      refine wpAnyH_take (i := 1) (v := .agg #[.slice (some ⟨g, 0, none⟩) n n, .slice A (n - k) cA]) rfl (by kernel_rfl) (by kernel_rfl) (by kernel_rfl) (fun _ _ _ h => h) (Or.inl ⟨by rfl, by intro W hW; obtain ⟨q0, q1, q3⟩ := hW; go_simp⟩) hS0 ?_
      try simp only [Act.put, List.getElem_toArray, List.getElem_cons_succ, List.getElem_cons_zero, List.setIfInBounds_toArray, List.set_cons_zero, List.set_cons_succ]
      refine wpAnyH_take (i := 2) (v := .pointer (some ⟨b2, 3, none⟩)) rfl (by kernel_rfl) (by kernel_rfl) (by kernel_rfl) (fun _ _ _ h => h) (Or.inl ⟨by rfl, by intro W hW; obtain ⟨q0, q1, q3⟩ := hW; go_simp⟩) hS0 ?_
      try simp only [Act.put, List.getElem_toArray, List.getElem_cons_succ, List.getElem_cons_zero, List.setIfInBounds_toArray, List.set_cons_zero, List.set_cons_succ]
      refine wpAnyH_take (i := 3) (v := .int .u64 z) rfl (by kernel_rfl) (by kernel_rfl) (by kernel_rfl) (fun _ _ _ h => h) (Or.inl ⟨by rfl, by intro W hW; obtain ⟨q0, q1, q3⟩ := hW; go_simp⟩) hS0 ?_
      try simp only [Act.put, List.getElem_toArray, List.getElem_cons_succ, List.getElem_cons_zero, List.setIfInBounds_toArray, List.set_cons_zero, List.set_cons_succ]
      refine held_one (i := 4) (by kernel_rfl) rfl (by rfl) ?_
      refine wp_store_ar (.tmp 4) (.tmp 33) (by rfl) w.heap.size (by rfl) (.slice (some ⟨g, 0, none⟩) n n) (.slice A (n - k) cA) (by rfl) rfl rfl _ (hBr'.drew) (by simp) ?_
      intro w8 B8 O8
      have HB8q := O8.bx HBq.out.drew HGBs.out.symm
      refine ⟨⟨HB8q.cell 0, HB8q.cell 1, HB8q.cell 3⟩, ?_⟩
      try simp only [Act.put, List.getElem_toArray, List.getElem_cons_succ, List.getElem_cons_zero, List.setIfInBounds_toArray, List.set_cons_zero, List.set_cons_succ]
      refine held_one (i := 5) (by kernel_rfl) rfl (by rfl) ?_
      go_simp
      refine ⟨⟨HB8q.cell 0, HB8q.cell 1, HB8q.cell 3⟩, ?_⟩
      try simp only [Act.put, List.getElem_toArray, List.getElem_cons_succ, List.getElem_cons_zero, List.setIfInBounds_toArray, List.set_cons_zero, List.set_cons_succ]
      refine ⟨by kernel_rfl, ?_⟩
      clear hS0
      go_wp2_with fail
      refine bodyPost_ret (results_ar2 rfl _ _ w.heap.size #[.slice (some ⟨g, 0, none⟩) n n, .slice A (n - k) cA] (by rfl) B8 rfl) rfl ?_
      have hGB := HGB.out
      have hGB2 := HGB2.out
      have hO' := (hO.out.to (Ext.refl _).drew).only O8 (by omega)
      obtain ⟨t, ht1, ht2, ht3, ht4⟩ := HLd.out.tree
      refine ⟨some ⟨g, 0, none⟩, n, n, A, n - k, cA, ns', downTo n k, z, rfl, ⟨⟨hO'.rd (by rw [HLd.out.len]; simp), ?_, laidH_ok HLd.out⟩, laidH_may HLd.out h1 h2 hcn⟩, ⟨t, ⟨ht4 ns' (fun _ _ _ => rfl), ht2, by rw [ht3]; exact HLd.out.u⟩, ht3, ht1⟩, by rw [downTo_len]; have := HCN.out; omega, O8.new (HX.out.drew) (Nat.le_refl _)⟩
      have h0 := (hR.out.to (Ext.refl _).drew).only O8 (by simp)
      exact h0.rd

theorem tv_build {W : World} {l : Row} {A : Option Addr} {j c : Nat} (h : RdR W (.slice A j c) l) (hl : Sm l) (n : Nat) (h1 : 1 ≤ n) (h2 : n ≤ 512) (hn : need 0 l ≤ n) : ∀ W', Ext W W' → Calls Try.prog 16 #[.int .i64 n, .slice A j c] W' (BuildT n l W') := by
  intro W' hx
  obtain ⟨q1, q2⟩ := h.cap
  have hj := h.len
  have hle := hl.le
  exact build9_is n j l A c W' h1 h2 hj.symm hn (by omega) q1 q2 (h.rdi.to hx) (Apt.top hl.ne)

end Go.Proofs.Ytfoifcbaadnigaa
