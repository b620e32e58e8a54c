/-
  Contract: a table in which a key's new leaf comes in the place of its old one (with) at a trie.
-/
import Derived.Test.YtfoifcbaadnigaaHtWth
import Derived.Test.YtfoifcbaadnigaaAnyG
set_option linter.unusedVariables false
set_option linter.unusedSimpArgs false
namespace Go.Proofs.Ytfoifcbaadnigaa
open Go.RowKit

theorem Mk.farStep {W W' : World} {b e : Nat} {ns : List Nd} {fs : List Int} {err : Int} (h : Mk W b ns fs err) (hf : Far W b e) (ho : Only e W W') (he : e ≠ b) : Mk W' b ns fs err :=
  h.only ho he fun A n c B m d hb => ⟨fun q hq => hf 0 q n c (by omega) (by rw [← hq]; exact hb.cell 0), fun q hq => hf 1 q m d (by omega) (by rw [← hq]; exact hb.cell 1)⟩
theorem Only.drewL {b : Nat} {W W' : World} (h : Only b W.drew W') : Only b W W' := ⟨h.os, h.tape, h.output, h.size, h.block⟩
theorem wp_store_cellK {P : Program} {o : Oper} {a : Act} {w : World} {K : Act → World → Prop} {Q : Exit → Act → World → Prop} (ty : TypeId) (x y : Operand) (ho : o.op = .store ty x y)
    (b j : Nat) (hx : a.eval x = .pointer (some ⟨b, j, none⟩)) (v : Value) (hy : a.eval y = v) (h1 : v.oneCell' = true) (hi : (P.info? ty).map (·.size) = some 1) (cs : Array Value) (hB : Bx w b cs) (hj : j < cs.size)
    (h : ∀ W, Bx W b (cs.setIfInBounds j v) → Only b w W → K (a.put o.dst undef) W) : Oper.wp P o a w K Q := by
  unfold Oper.wp execOp
  simp only [ho, hx, hy, Instr.storeAt, Instr.sureAddr, Sem.run_bind, Sem.run_pure, Result.andThen_ok, run_storeVar_cell w b j ty v cs hB hj hi h1]
  exact h _ (hB.set hj v) ((Only.refl b w).set j v)
theorem kids_set {W : World} {b d : Nat} {x : Nd} {z : Int} (hd : d < 4) (h : Bx W b (x.arr.setIfInBounds (5 + d) (.int .u64 z))) (zs : List Int) (hz : zs = [if d = 0 then z else x.r0, if d = 1 then z else x.r1, if d = 2 then z else x.r2, if d = 3 then z else x.r3]) : Rd W 1 (some ⟨b, 5, none⟩) 4 (Us zs) := by
  subst hz
  refine ⟨rfl, fun j u hu => ⟨_, rfl, ?_⟩⟩
  have hj4 : j < 4 := (List.getElem?_eq_some_iff.1 hu).1
  have e : (⟨b, 5, none⟩ : Addr).add j = ⟨b, 5 + j, none⟩ := by unfold Addr.add; split <;> simp_all
  rw [e, h.cell, ← hu]
  rcases (by omega : d = 0 ∨ d = 1 ∨ d = 2 ∨ d = 3) with rfl | rfl | rfl | rfl <;> rcases (by omega : j = 0 ∨ j = 1 ∨ j = 2 ∨ j = 3) with rfl | rfl | rfl | rfl <;> rfl
theorem WG.kids4 {ns : List Nd} {key : Int} {lv : Nat} {r : Int} {p : Nat} {a b c d : HT} {new : List Lf} (hok : ∀ x ∈ ns, x.Ok) (h : WG ns key lv (.trie r p a b c d) new) : Tr ns (lv + 1) a ∧ Tr ns (lv + 1) b ∧ Tr ns (lv + 1) c ∧ Tr ns (lv + 1) d := by
  obtain ⟨⟨hR, hS, hU⟩, _⟩ := h
  obtain ⟨⟨g, hg⟩, r0, r1, r2, r3⟩ := hR
  obtain ⟨s0, _, _, s1, s2, s3, s4⟩ := hS
  have hx := hok _ (List.mem_of_getElem? hg.at_)
  exact ⟨⟨r0, s1, ok_kid hx 0⟩, ⟨r1, s2, ok_kid hx 1⟩, ⟨r2, s3, ok_kid hx 2⟩, ⟨r3, s4, ok_kid hx 3⟩⟩
def WthO (t : HT) : Prop :=
  ∀ (lv b : Nat) (ns : List Nd) (fs : List Int) (key : Int) (new : List Lf) (L : Option Addr) (n cL : Nat) (w : World), Mk w b ns fs 0 → Old w b → WG ns key lv t new → Rd w 1 L n (Us (new.map Lf.r)) → lv ≤ 10 → 10 - lv ≤ fs.length →
    Calls Try.prog 23 #[.agg #[.pointer (some ⟨b, 0, none⟩)], .int .u64 t.ref, .int .i64 key, .int .i64 lv, .slice L n cL] w (TOut b ns fs (10 - lv) (WthG key lv t new) w)

set_option maxHeartbeats 8000000 in
set_option maxRecDepth 100000 in
theorem htWth_0 (r : Int) (p : Nat) (a b' c d' : HT) (IH0 : WthO a) (lv b : Nat) (ns : List Nd) (fs : List Int) (key : Int) (new : List Lf) (L : Option Addr) (n cL : Nat) (w : World) (h : Mk w b ns fs 0) (hOld : Old w b) (hg : WG ns key lv (.trie r p a b' c d') new) (hL : Rd w 1 L n (Us (new.map Lf.r))) (hlv : lv ≤ 10) (hf : 10 - lv ≤ fs.length) (hdd : dig key lv = 0) :
    Calls Try.prog 23 #[.agg #[.pointer (some ⟨b, 0, none⟩)], .int .u64 (HT.trie r p a b' c d').ref, .int .i64 key, .int .i64 lv, .slice L n cL] w (TOut b ns fs (10 - lv) (WthG key lv (.trie r p a b' c d') new) w) := by
  obtain ⟨A, nA, cA, B, m, d, hb, ha, hA, hB⟩ := h.box
  have hsh := hg.tr.sh
  obtain ⟨hlv10, hsz2, hDg4, _⟩ := hsh
  obtain ⟨gg, hgn⟩ := rp_nodeF hg.tr.rp
  have HOld := Lib.hid hOld
  obtain ⟨w1, hw1⟩ : ∃ w1, w1 = w.alloc (.cells #[.pointer (some ⟨b, 0, none⟩)] 62) := ⟨_, rfl⟩
  obtain ⟨B1, hx1, hs1⟩ := box_made hw1
  obtain ⟨w2, hw2⟩ : ∃ w2, w2 = w1.alloc (.cells #[.int .i64 key] 2) := ⟨_, rfl⟩
  obtain ⟨B2, hx2, hs2⟩ := box_made hw2
  rw [hs1] at B2
  have H1 := Lib.hid hw1
  have H2 := Lib.hid hw2
  have HB1 := Lib.hid (B1.to hx2)
  have HB2 := Lib.hid B2
  have X2 := Lib.hid (hx1.step hx2)
  have HBb := Lib.hid (hb.to (hx1.step hx2))
  have e0 : w2.cell? ⟨b, 0, none⟩ = some (.slice A nA cA) := HBb.out.cell 0
  have e1 : w2.cell? ⟨b, 1, none⟩ = some (.slice B m d) := HBb.out.cell 1
  have e2 : w2.cell? ⟨w.heap.size, 0, none⟩ = some (.pointer (some ⟨b, 0, none⟩)) := HB1.out.cell 0
  have HN := Lib.hid (htNode_is A B nA cA m d ns (HT.trie r p a b' c d').ref w2 hg.tr.u.1 hg.tr.u.2 (ha.nodes.to (hx1.step hx2)))
  have HA := Lib.hid ha
  have HMk := Lib.hid h
  have HG := Lib.hid hg
  have HL := Lib.hid hL
  have HF := Lib.hid hf
  have HOK := Lib.hid h.ok
  have hbw := Lib.hid hb.lt
  obtain ⟨x, hx⟩ : ∃ x, x = nodeF ns (HT.trie r p a b' c d').ref := ⟨_, rfl⟩
  rw [← hx] at HN
  have HX := Lib.hid (show x = boxNd 2 gg ((a.size + (b'.size + (c.size + d'.size)) : Nat) : Int) [a.ref, b'.ref, c.ref, d'.ref] by rw [hx]; exact hgn)
  have HK2 := Lib.hid (show x.k = 2 by rw [HX.out]; rfl)
  have HDg := Lib.hid (fun W => htDigit_is key lv (by omega) W)
  clear hx hgn hOld
  have hkd := (hg.kid h.ok).1 hdd
  obtain ⟨hwk, ho1, ho2, ho3⟩ := hkd
  obtain ⟨kr, hkr⟩ : ∃ kr, kr = a.ref := ⟨_, rfl⟩
  have HI := Lib.hid (fun W (hW : Mk W b ns fs 0) (hO : Old W b) hLL => IH0 (lv + 1) b ns fs key new L n cL W hW hO hwk hLL (by omega) (by omega))
  rw [← hkr] at HI
  have HWK := Lib.hid hwk
  have hdd' := Lib.hid hdd
  have HO123 := Lib.hid (And.intro ho1 (And.intro ho2 ho3))
  rw [hdd] at HDg
  have HKR := Lib.hid (show x.r0 = kr by rw [HX.out, hkr]; simp [boxNd, ith])
  clear hwk ho1 ho2 ho3 hkr hdd
  clear hw1 B1 hx1 hs1 hw2 B2 hx2 hs2 h hg hL hf hb ha hA hB
  go_enter Try.func23, Try.ntmps23
  go_upto_region 1 with fail
  rw [← H1.out, ← H2.out]
  go_wp2_with fail
  refine HN.out.mono ?_; rintro e w3 ⟨rfl, hx3⟩
  obtain ⟨w4, hw4⟩ : ∃ w4, w4 = w3.alloc (.cells x.arr 68) := ⟨_, rfl⟩
  obtain ⟨B4, hx4, hs4⟩ := box_made hw4
  have H4 := Lib.hid hw4
  have HB4 := Lib.hid B4
  have X4 := Lib.hid (X2.out.step (hx3.step hx4))
  have X24 := Lib.hid (hx3.step hx4)
  have hs3 := Lib.hid (show w.heap.size + 2 ≤ w3.heap.size by have := HB2.out.lt; have := hx3.size; omega)
  have k0 : w4.cell? ⟨w3.heap.size, 0, none⟩ = some (.int .i64 2) := by rw [← HK2.out]; exact (B4.cell 0).trans x.a0
  have s2 : w4.cell? ⟨w.heap.size, 0, none⟩ = some (.pointer (some ⟨b, 0, none⟩)) := X24.out.cellOf e2
  have s3 : w4.cell? ⟨w.heap.size + 1, 0, none⟩ = some (.int .i64 key) := X24.out.cellOf (HB2.out.cell 0)
  have s5 : w4.cell? ⟨w3.heap.size, 5, none⟩ = some (.int .u64 kr) := by rw [← HKR.out]; exact B4.cell 5
  clear hw4 B4 hs4 hx3 hx4 e0 e1 e2
  have hlt10 : (lv : Int) < 10 := by omega
  have HWR := Lib.hid (show IntKind.i64.wrap ((lv : Int) + 1) = (lv : Int) + 1 by rw [IntKind.wrap_i64]; omega)
  go_upto_region 4 with (first
    | (refine wpList_store_nd (W := w3) (by rfl) _ _ (by rfl) (by rfl) x (by rfl) _ (by rfl) (by rfl) ?_; rw [← H4.out])
    | (go_at_call 43; refine (HDg.out _).mono ?_; rintro e w4' ⟨rfl, hx4'⟩
       have s2' := hx4'.cellOf s2
       have s3' := hx4'.cellOf s3
       have s5' := hx4'.cellOf s5
       have X4' := Lib.hid (X4.out.step hx4')
       have X44 := Lib.hid hx4'
       clear s2 s3 s5))
  refine wp_region_noPanic ?_
  have hS0 : (fun W : World => W.cell? ⟨w.heap.size, 0, none⟩ = some (.pointer (some ⟨b, 0, none⟩)) ∧ W.cell? ⟨w.heap.size + 1, 0, none⟩ = some (.int .i64 key) ∧ W.cell? ⟨w3.heap.size, 5, none⟩ = some (.int .u64 kr)) w4'.drew := ⟨s2', s3', s5'⟩
  refine wp_region_turn (S := fun W : World => W.cell? ⟨w.heap.size, 0, none⟩ = some (.pointer (some ⟨b, 0, none⟩)) ∧ W.cell? ⟨w.heap.size + 1, 0, none⟩ = some (.int .i64 key) ∧ W.cell? ⟨w3.heap.size, 5, none⟩ = some (.int .u64 kr)) 10 (by kernel_rfl) ?_
  refine AnyT.take (i := 0) (v := .int .i64 0) rfl (by decide) (by kernel_rfl) (by kernel_rfl) (by kernel_rfl) (fun _ _ _ h => h) (Or.inl ⟨by rfl, by intro W hW; obtain ⟨g0, g1, g2⟩ := hW; go_simp; try exact HWR.out⟩) hS0 (.inr (Or.inl ⟨by rfl, by intro W hW; go_simp; try exact HWR.out⟩)) ?_
  try simp only [Act.put, List.getElem_toArray, List.getElem_cons_succ, List.getElem_cons_zero, List.setIfInBounds_toArray, List.set_cons_zero, List.set_cons_succ]
  refine AnyT.take (i := 1) (v := .agg #[.pointer (some ⟨b, 0, none⟩)]) rfl (by decide) (by kernel_rfl) (by kernel_rfl) (by kernel_rfl) (fun _ _ _ h => h) (Or.inl ⟨by rfl, by intro W hW; obtain ⟨g0, g1, g2⟩ := hW; go_simp; try exact HWR.out⟩) hS0 (.inl (by kernel_rfl)) ?_
  try simp only [Act.put, List.getElem_toArray, List.getElem_cons_succ, List.getElem_cons_zero, List.setIfInBounds_toArray, List.set_cons_zero, List.set_cons_succ]
  refine AnyT.take (i := 2) (v := .int .i64 0) rfl (by decide) (by kernel_rfl) (by kernel_rfl) (by kernel_rfl) (fun _ _ _ h => h) (Or.inl ⟨by rfl, by intro W hW; obtain ⟨g0, g1, g2⟩ := hW; go_simp; try exact HWR.out⟩) hS0 (.inr (Or.inl ⟨by rfl, by intro W hW; go_simp; try exact HWR.out⟩)) ?_
  try simp only [Act.put, List.getElem_toArray, List.getElem_cons_succ, List.getElem_cons_zero, List.setIfInBounds_toArray, List.set_cons_zero, List.set_cons_succ]
  refine AnyT.take (i := 3) (v := .pointer (some ⟨w3.heap.size, 5, none⟩)) rfl (by decide) (by kernel_rfl) (by kernel_rfl) (by kernel_rfl) (fun _ _ _ h => h) (Or.inl ⟨by rfl, by intro W hW; obtain ⟨g0, g1, g2⟩ := hW; go_simp; try exact HWR.out⟩) hS0 (.inr (Or.inl ⟨by rfl, by intro W hW; go_simp; try exact HWR.out⟩)) ?_
  try simp only [Act.put, List.getElem_toArray, List.getElem_cons_succ, List.getElem_cons_zero, List.setIfInBounds_toArray, List.set_cons_zero, List.set_cons_succ]
  refine AnyT.take (i := 4) (v := .pointer (some ⟨w3.heap.size, 5, none⟩)) rfl (by decide) (by kernel_rfl) (by kernel_rfl) (by kernel_rfl) (fun _ _ _ h => h) (Or.inl ⟨by rfl, by intro W hW; obtain ⟨g0, g1, g2⟩ := hW; go_simp; try exact HWR.out⟩) hS0 (.inr (Or.inl ⟨by rfl, by intro W hW; go_simp; try exact HWR.out⟩)) ?_
  try simp only [Act.put, List.getElem_toArray, List.getElem_cons_succ, List.getElem_cons_zero, List.setIfInBounds_toArray, List.set_cons_zero, List.set_cons_succ]
  refine AnyT.take (i := 5) (v := .int .u64 kr) rfl (by decide) (by kernel_rfl) (by kernel_rfl) (by kernel_rfl) (fun _ _ _ h => h) (Or.inl ⟨by rfl, by intro W hW; obtain ⟨g0, g1, g2⟩ := hW; go_simp; try exact HWR.out⟩) hS0 (.inl (by kernel_rfl)) ?_
  try simp only [Act.put, List.getElem_toArray, List.getElem_cons_succ, List.getElem_cons_zero, List.setIfInBounds_toArray, List.set_cons_zero, List.set_cons_succ]
  refine AnyT.take (i := 6) (v := .int .i64 key) rfl (by decide) (by kernel_rfl) (by kernel_rfl) (by kernel_rfl) (fun _ _ _ h => h) (Or.inl ⟨by rfl, by intro W hW; obtain ⟨g0, g1, g2⟩ := hW; go_simp; try exact HWR.out⟩) hS0 (.inl (by kernel_rfl)) ?_
  try simp only [Act.put, List.getElem_toArray, List.getElem_cons_succ, List.getElem_cons_zero, List.setIfInBounds_toArray, List.set_cons_zero, List.set_cons_succ]
  refine AnyT.take (i := 7) (v := .int .i64 lv) rfl (by decide) (by kernel_rfl) (by kernel_rfl) (by kernel_rfl) (fun _ _ _ h => h) (Or.inl ⟨by rfl, by intro W hW; obtain ⟨g0, g1, g2⟩ := hW; go_simp; try exact HWR.out⟩) hS0 (.inr (Or.inl ⟨by rfl, by intro W hW; go_simp; try exact HWR.out⟩)) ?_
  try simp only [Act.put, List.getElem_toArray, List.getElem_cons_succ, List.getElem_cons_zero, List.setIfInBounds_toArray, List.set_cons_zero, List.set_cons_succ]
  refine AnyT.take (i := 8) (v := .int .i64 ((lv : Int) + 1)) rfl (by decide) (by kernel_rfl) (by kernel_rfl) (by kernel_rfl) (fun _ _ _ h => h) (Or.inl ⟨by rfl, by intro W hW; obtain ⟨g0, g1, g2⟩ := hW; go_simp; try exact HWR.out⟩) hS0 (.inl (by kernel_rfl)) ?_
  try simp only [Act.put, List.getElem_toArray, List.getElem_cons_succ, List.getElem_cons_zero, List.setIfInBounds_toArray, List.set_cons_zero, List.set_cons_succ]
  refine AnyT.take (i := 9) (v := .slice L n cL) rfl (by decide) (by kernel_rfl) (by kernel_rfl) (by kernel_rfl) (fun _ _ _ h => h) (Or.inl ⟨by rfl, by intro W hW; obtain ⟨g0, g1, g2⟩ := hW; go_simp; try exact HWR.out⟩) hS0 (.inl (by kernel_rfl)) ?_
  try simp only [Act.put, List.getElem_toArray, List.getElem_cons_succ, List.getElem_cons_zero, List.setIfInBounds_toArray, List.set_cons_zero, List.set_cons_succ]
  refine AnyT.take (i := 11) (v := .pointer (some ⟨w3.heap.size, 5, none⟩)) rfl (by decide) (by kernel_rfl) (by kernel_rfl) (by kernel_rfl) (fun _ _ _ h => h) (Or.inl ⟨by rfl, by intro W hW; obtain ⟨g0, g1, g2⟩ := hW; go_simp; try exact HWR.out⟩) hS0 (.inr (Or.inl ⟨by rfl, by intro W hW; go_simp; try exact HWR.out⟩)) ?_
  try simp only [Act.put, List.getElem_toArray, List.getElem_cons_succ, List.getElem_cons_zero, List.setIfInBounds_toArray, List.set_cons_zero, List.set_cons_succ]
  refine AnyT.turn (n := 10) (by kernel_rfl) rfl (by rfl) ?_
  go_simp
  refine (HI.out _ ((HMk.out.to X4'.out).to (Ext.refl _).drew) ((HOld.out.ext X4'.out HMk.out.lt).ext (Ext.refl _).drew (Nat.lt_of_lt_of_le HMk.out.lt X4'.out.size)) ((HL.out.to X4'.out).to (Ext.refl _).drew)).mono ?_
  rintro e w7 hno'
  obtain ⟨z, rfl, hno⟩ := hno'.split
  clear hno' hS0
  obtain ⟨ns7, fs7, z', hz', hm7, ho7, hg7, hu7, hf7, t', ht7, hr7, hp7⟩ := hno.out
  have hR7 : t'.ref = z := by rw [hr7]; injection hz' with h1; injection h1 with _ h2; exact h2.symm
  have hfto : FarTo b w4' w7 := fun X hX hF => hf7 X hX (hF.ext (Ext.refl _).drew (Nat.lt_of_lt_of_le HMk.out.lt X4'.out.size))
  have hf7x : Far w7 b w3.heap.size := hfto _ (Nat.lt_of_lt_of_le HB4.out.lt X44.out.size) ((HOld.out w3.heap.size (by have := hs3.out; omega)).ext X4'.out HMk.out.lt)
  have HM7 := Lib.hid hm7
  have HO7 := Lib.hid ho7
  have HG7 := Lib.hid hg7
  have HF7 := Lib.hid hf7
  have HT7 := Lib.hid ht7
  have HP7 := Lib.hid hp7
  have HR7 := Lib.hid hR7
  have hs34 := Lib.hid (show w3.heap.size < w4'.heap.size from Nat.lt_of_lt_of_le HB4.out.lt X44.out.size)
  have b7 := (show Only b w4' w7 from ho7.drewL).bx (HB4.out.to X44.out) (by have := hs3.out; have := hbw.out; omega)
  have HB7 := Lib.hid b7
  have m7 := (show Only b w4' w7 from ho7.drewL).bx ((HB1.out.to X24.out).to X44.out) (by have := hbw.out; omega)
  have HMM7 := Lib.hid m7
  clear hz' hm7 ho7 hg7 hu7 hf7 ht7 hr7 hp7 hR7 hno b7 m7
  try simp only [Act.put, List.getElem_toArray, List.getElem_cons_succ, List.getElem_cons_zero, List.setIfInBounds_toArray, List.set_cons_zero, List.set_cons_succ]
  refine wpAnyH_take (i := 12) (v := .pointer (some ⟨w3.heap.size, 5, none⟩)) rfl (by kernel_rfl) (by kernel_rfl) (by kernel_rfl) (fun _ _ _ h => h) (Or.inl ⟨by rfl, by intro W hW; go_simp⟩) trivial ?_
  try simp only [Act.put, List.getElem_toArray, List.getElem_cons_succ, List.getElem_cons_zero, List.setIfInBounds_toArray, List.set_cons_zero, List.set_cons_succ]
  refine held_one2 (i := 13) (by kernel_rfl) rfl (by rfl) ?_
  refine wp_store_cellK 31 (.tmp 39) (.tmp 37) (by rfl) w3.heap.size 5 (by rfl) (.int .u64 z) (by rfl) rfl (by kernel_rfl) _ HB7.out (by simp [Nd.arr_size]) ?_
  intro w8 B8 O8
  refine ⟨trivial, ?_⟩
  try simp only [Act.put, List.getElem_toArray, List.getElem_cons_succ, List.getElem_cons_zero, List.setIfInBounds_toArray, List.set_cons_zero, List.set_cons_succ]
  refine wpAnyH_done (by kernel_rfl) (NoPanic.normal ?_) _
  have HB8 := Lib.hid B8
  have hfar7 : Far w7 b w3.heap.size := hf7x
  have hM8 : Mk w8 b ns7 fs7 0 := HM7.out.farStep hfar7 O8 (by have := hs3.out; have := hbw.out; omega)
  have hO48 : FarTo b w4' w8 := (hfto).trans (FarTo.only O8 (by have := hs3.out; have := hbw.out; omega) HM7.out.lt) (show w4'.heap.size ≤ w7.heap.size from HO7.out.size)
  have hMM8 : Bx w8 w.heap.size #[.pointer (some ⟨b, 0, none⟩)] := O8.bx HMM7.out (by have := hs3.out; omega)
  have hOnly : Only b w w8 := by
    have h1 : Only b w w7 := ((Only.refl b w).ext X4'.out).trans HO7.out.drewL
    refine ⟨O8.os.trans h1.os, O8.tape.trans h1.tape, O8.output.trans h1.output, Nat.le_trans h1.size O8.size, fun k hk hn => (O8.block k (Nat.lt_of_lt_of_le hk h1.size) (fun e => ?_)).trans (h1.block k hk hn)⟩
    injection e with e
    have := hs3.out
    omega
  obtain ⟨q0, q1, q2, q3⟩ := HG.out.kids4 HOK.out
  have hkeep := HG7.out.keep
  have hpl := HP7.out.length_eq
  have hl1 : t'.size = (newLs key a new).length := hpl
  have hfew := HG7.out.few
  have hroom : 1 ≤ fs7.length := by have := HF.out; omega
  have hone := offK_one key HG.out.ne
  have hle2 := HG.out.le2
  have hsz : (HT.trie r p a b' c d').lvs.length = a.size + (b'.size + (c.size + d'.size)) := HT.size_trie r p a b' c d'
  have hdg' : Dg lv 0 t' := fun y hy => by
    have := HP7.out.mem_iff.1 hy
    rcases List.mem_append.1 this with h | h
    · exact hDg4.1 y ((List.mem_filter.1 h).1)
    · rw [(HG.out.nw y h).2.2]; exact hdd'.out
  simp only [newLs, HT.lvs, offK_app, List.length_append] at hl1 hone hle2 hsz
  rw [HO123.out.1, HO123.out.2.1, HO123.out.2.2] at hone hle2
  simp only [HT.size] at hl1 hsz hsz2
  have HTT := Lib.hid (fun W (hW : Ext w8 W) => htTrie4_is b ns7 fs7 lv t' b' c d' (some ⟨w3.heap.size, 5, none⟩) 9 W (hM8.to hW) (kids_set (d := 0) (by omega) (HB8.out.to hW) _ (by rw [HR7.out]; simp [HX.out, boxNd, ith])) HT7.out (q1.mono hkeep) (q2.mono hkeep) (q3.mono hkeep) hlv10 ⟨hdg', hDg4.2.1, hDg4.2.2.1, hDg4.2.2.2⟩ (by simp only [HT.size]; omega) (by simp only [HT.size]; omega) hroom)
  have hperm := Lib.hid (show (t'.lvs ++ (b'.lvs ++ (c.lvs ++ d'.lvs))).Perm (newLs key (.trie r p a b' c d') new) by
    simp only [newLs, HT.lvs, offK_app]
    rw [HO123.out.1, HO123.out.2.1, HO123.out.2.2]
    refine List.Perm.trans (HP7.out.append_right _) (by simpa [newLs] using mid_perm [] (offK key a.lvs) new (b'.lvs ++ (c.lvs ++ d'.lvs))))
  have HM8 := Lib.hid hM8
  have HG77 := Lib.hid (show Gr ns fs ns7 fs7 (10 - (lv + 1)) from HG7.out)
  have HFar := Lib.hid (show FarTo b w w8 from (FarTo.ext X4'.out HMk.out.lt).trans hO48 X4'.out.size)
  have HOnly := Lib.hid hOnly
  have s0 := fun q : Later w8 => (hMM8.to q.ext).cell 0
  simp only [List.getElem?_toArray, List.getElem?_cons_zero] at s0
  have HS0 := Lib.hid s0
  clear B8 O8 hfar7 hM8 hO48 hMM8 hOnly q0 q1 q2 q3 hkeep hpl hl1 hfew hroom hone hle2 hsz hdg' s0
  go_upto_region 5 with fail
  have s0 := HS0.out
  refine wp_region_pivot (C := fun w' => ∃ q : Later w8, w' = q.w) 3 _ rfl (by kernel_rfl) (by kernel_rfl) ⟨⟨w8.drew, (Ext.refl _).drew⟩, rfl⟩ ?_
  simp only [List.take_succ_cons, List.take_zero]
  repeat (go_big_quiet_step (fail))
  refine wpQuiet_nil ?_
  rintro _ ⟨q1, rfl⟩ K hK
  clear s0
  go_simp
  refine (HTT.out q1.w q1.ext).mono ?_
  rintro e w9 hno'
  obtain ⟨z9, rfl, hno⟩ := hno'.split
  clear hno'
  refine hK _ _ ⟨fun w' => ∃ q : Later w9, w' = q.w, ⟨⟨w9, Ext.refl _⟩, rfl⟩, ?_⟩
  simp only [List.drop_succ_cons, List.drop_zero]
  have HFIN := Lib.hid (show ∀ W, Ext w9 W → TOut b ns fs (10 - lv) (WthG key lv (.trie r p a b' c d') new) w (.returned (.int .u64 z9)) W from fun W hW => by
    obtain ⟨ns9, fs9, z', hz', hm9, ho9, hg9, hu9, hf9, t9, ht9, hr9, hl9⟩ := hno.out
    injection hz' with h1
    injection h1 with _ h2
    subst h2
    exact ⟨ns9, fs9, z9, rfl, hm9.to hW, ((HOnly.out.ext q1.ext).trans ho9).ext hW, (HG77.out.trans hg9).more (by omega), hu9, (((HFar.out.trans (FarTo.ext q1.ext HM8.out.lt) HOnly.out.size).trans hf9 (Nat.le_trans HOnly.out.size q1.ext.size)).trans (FarTo.ext hW hm9.lt) (Nat.le_trans (Nat.le_trans HOnly.out.size q1.ext.size) ho9.size)), t9, ht9, hr9, by rw [hl9]; exact hperm.out⟩)
  clear hno HTT
  repeat (go_big_quiet_step (fail))
  refine wpQuiet_nil ?_
  rintro _ ⟨q2, rfl⟩
  go_wp2_with fail
  go_ret
  exact HFIN.out _ q2.ext

set_option maxHeartbeats 8000000 in
set_option maxRecDepth 100000 in
theorem htWth_1 (r : Int) (p : Nat) (a b' c d' : HT) (IH1 : WthO b') (lv b : Nat) (ns : List Nd) (fs : List Int) (key : Int) (new : List Lf) (L : Option Addr) (n cL : Nat) (w : World) (h : Mk w b ns fs 0) (hOld : Old w b) (hg : WG ns key lv (.trie r p a b' c d') new) (hL : Rd w 1 L n (Us (new.map Lf.r))) (hlv : lv ≤ 10) (hf : 10 - lv ≤ fs.length) (hdd : dig key lv = 1) :
    Calls Try.prog 23 #[.agg #[.pointer (some ⟨b, 0, none⟩)], .int .u64 (HT.trie r p a b' c d').ref, .int .i64 key, .int .i64 lv, .slice L n cL] w (TOut b ns fs (10 - lv) (WthG key lv (.trie r p a b' c d') new) w) := by
  obtain ⟨A, nA, cA, B, m, d, hb, ha, hA, hB⟩ := h.box
  have hsh := hg.tr.sh
  obtain ⟨hlv10, hsz2, hDg4, _⟩ := hsh
  obtain ⟨gg, hgn⟩ := rp_nodeF hg.tr.rp
  have HOld := Lib.hid hOld
  obtain ⟨w1, hw1⟩ : ∃ w1, w1 = w.alloc (.cells #[.pointer (some ⟨b, 0, none⟩)] 62) := ⟨_, rfl⟩
  obtain ⟨B1, hx1, hs1⟩ := box_made hw1
  obtain ⟨w2, hw2⟩ : ∃ w2, w2 = w1.alloc (.cells #[.int .i64 key] 2) := ⟨_, rfl⟩
  obtain ⟨B2, hx2, hs2⟩ := box_made hw2
  rw [hs1] at B2
  have H1 := Lib.hid hw1
  have H2 := Lib.hid hw2
  have HB1 := Lib.hid (B1.to hx2)
  have HB2 := Lib.hid B2
  have X2 := Lib.hid (hx1.step hx2)
  have HBb := Lib.hid (hb.to (hx1.step hx2))
  have e0 : w2.cell? ⟨b, 0, none⟩ = some (.slice A nA cA) := HBb.out.cell 0
  have e1 : w2.cell? ⟨b, 1, none⟩ = some (.slice B m d) := HBb.out.cell 1
  have e2 : w2.cell? ⟨w.heap.size, 0, none⟩ = some (.pointer (some ⟨b, 0, none⟩)) := HB1.out.cell 0
  have HN := Lib.hid (htNode_is A B nA cA m d ns (HT.trie r p a b' c d').ref w2 hg.tr.u.1 hg.tr.u.2 (ha.nodes.to (hx1.step hx2)))
  have HA := Lib.hid ha
  have HMk := Lib.hid h
  have HG := Lib.hid hg
  have HL := Lib.hid hL
  have HF := Lib.hid hf
  have HOK := Lib.hid h.ok
  have hbw := Lib.hid hb.lt
  obtain ⟨x, hx⟩ : ∃ x, x = nodeF ns (HT.trie r p a b' c d').ref := ⟨_, rfl⟩
  rw [← hx] at HN
  have HX := Lib.hid (show x = boxNd 2 gg ((a.size + (b'.size + (c.size + d'.size)) : Nat) : Int) [a.ref, b'.ref, c.ref, d'.ref] by rw [hx]; exact hgn)
  have HK2 := Lib.hid (show x.k = 2 by rw [HX.out]; rfl)
  have HDg := Lib.hid (fun W => htDigit_is key lv (by omega) W)
  clear hx hgn hOld
  have hkd := (hg.kid h.ok).2.1 hdd
  obtain ⟨hwk, ho1, ho2, ho3⟩ := hkd
  obtain ⟨kr, hkr⟩ : ∃ kr, kr = b'.ref := ⟨_, rfl⟩
  have HI := Lib.hid (fun W (hW : Mk W b ns fs 0) (hO : Old W b) hLL => IH1 (lv + 1) b ns fs key new L n cL W hW hO hwk hLL (by omega) (by omega))
  rw [← hkr] at HI
  have HWK := Lib.hid hwk
  have hdd' := Lib.hid hdd
  have HO123 := Lib.hid (And.intro ho1 (And.intro ho2 ho3))
  rw [hdd] at HDg
  have HKR := Lib.hid (show x.r1 = kr by rw [HX.out, hkr]; simp [boxNd, ith])
  clear hwk ho1 ho2 ho3 hkr hdd
  clear hw1 B1 hx1 hs1 hw2 B2 hx2 hs2 h hg hL hf hb ha hA hB
  go_enter Try.func23, Try.ntmps23
  go_upto_region 1 with fail
  rw [← H1.out, ← H2.out]
  go_wp2_with fail
  refine HN.out.mono ?_; rintro e w3 ⟨rfl, hx3⟩
  obtain ⟨w4, hw4⟩ : ∃ w4, w4 = w3.alloc (.cells x.arr 68) := ⟨_, rfl⟩
  obtain ⟨B4, hx4, hs4⟩ := box_made hw4
  have H4 := Lib.hid hw4
  have HB4 := Lib.hid B4
  have X4 := Lib.hid (X2.out.step (hx3.step hx4))
  have X24 := Lib.hid (hx3.step hx4)
  have hs3 := Lib.hid (show w.heap.size + 2 ≤ w3.heap.size by have := HB2.out.lt; have := hx3.size; omega)
  have k0 : w4.cell? ⟨w3.heap.size, 0, none⟩ = some (.int .i64 2) := by rw [← HK2.out]; exact (B4.cell 0).trans x.a0
  have s2 : w4.cell? ⟨w.heap.size, 0, none⟩ = some (.pointer (some ⟨b, 0, none⟩)) := X24.out.cellOf e2
  have s3 : w4.cell? ⟨w.heap.size + 1, 0, none⟩ = some (.int .i64 key) := X24.out.cellOf (HB2.out.cell 0)
  have s5 : w4.cell? ⟨w3.heap.size, 6, none⟩ = some (.int .u64 kr) := by rw [← HKR.out]; exact B4.cell 6
  clear hw4 B4 hs4 hx3 hx4 e0 e1 e2
  have hlt10 : (lv : Int) < 10 := by omega
  have HWR := Lib.hid (show IntKind.i64.wrap ((lv : Int) + 1) = (lv : Int) + 1 by rw [IntKind.wrap_i64]; omega)
  go_upto_region 4 with (first
    | (refine wpList_store_nd (W := w3) (by rfl) _ _ (by rfl) (by rfl) x (by rfl) _ (by rfl) (by rfl) ?_; rw [← H4.out])
    | (go_at_call 43; refine (HDg.out _).mono ?_; rintro e w4' ⟨rfl, hx4'⟩
       have s2' := hx4'.cellOf s2
       have s3' := hx4'.cellOf s3
       have s5' := hx4'.cellOf s5
       have X4' := Lib.hid (X4.out.step hx4')
       have X44 := Lib.hid hx4'
       clear s2 s3 s5))
  refine wp_region_noPanic ?_
  have hS0 : (fun W : World => W.cell? ⟨w.heap.size, 0, none⟩ = some (.pointer (some ⟨b, 0, none⟩)) ∧ W.cell? ⟨w.heap.size + 1, 0, none⟩ = some (.int .i64 key) ∧ W.cell? ⟨w3.heap.size, 6, none⟩ = some (.int .u64 kr)) w4'.drew := ⟨s2', s3', s5'⟩
  refine wp_region_turn (S := fun W : World => W.cell? ⟨w.heap.size, 0, none⟩ = some (.pointer (some ⟨b, 0, none⟩)) ∧ W.cell? ⟨w.heap.size + 1, 0, none⟩ = some (.int .i64 key) ∧ W.cell? ⟨w3.heap.size, 6, none⟩ = some (.int .u64 kr)) 10 (by kernel_rfl) ?_
  refine AnyT.take (i := 0) (v := .int .i64 1) rfl (by decide) (by kernel_rfl) (by kernel_rfl) (by kernel_rfl) (fun _ _ _ h => h) (Or.inl ⟨by rfl, by intro W hW; obtain ⟨g0, g1, g2⟩ := hW; go_simp; try exact HWR.out⟩) hS0 (.inr (Or.inl ⟨by rfl, by intro W hW; go_simp; try exact HWR.out⟩)) ?_
  try simp only [Act.put, List.getElem_toArray, List.getElem_cons_succ, List.getElem_cons_zero, List.setIfInBounds_toArray, List.set_cons_zero, List.set_cons_succ]
  refine AnyT.take (i := 1) (v := .agg #[.pointer (some ⟨b, 0, none⟩)]) rfl (by decide) (by kernel_rfl) (by kernel_rfl) (by kernel_rfl) (fun _ _ _ h => h) (Or.inl ⟨by rfl, by intro W hW; obtain ⟨g0, g1, g2⟩ := hW; go_simp; try exact HWR.out⟩) hS0 (.inl (by kernel_rfl)) ?_
  try simp only [Act.put, List.getElem_toArray, List.getElem_cons_succ, List.getElem_cons_zero, List.setIfInBounds_toArray, List.set_cons_zero, List.set_cons_succ]
  refine AnyT.take (i := 2) (v := .int .i64 1) rfl (by decide) (by kernel_rfl) (by kernel_rfl) (by kernel_rfl) (fun _ _ _ h => h) (Or.inl ⟨by rfl, by intro W hW; obtain ⟨g0, g1, g2⟩ := hW; go_simp; try exact HWR.out⟩) hS0 (.inr (Or.inl ⟨by rfl, by intro W hW; go_simp; try exact HWR.out⟩)) ?_
  try simp only [Act.put, List.getElem_toArray, List.getElem_cons_succ, List.getElem_cons_zero, List.setIfInBounds_toArray, List.set_cons_zero, List.set_cons_succ]
  refine AnyT.take (i := 3) (v := .pointer (some ⟨w3.heap.size, 5, none⟩)) rfl (by decide) (by kernel_rfl) (by kernel_rfl) (by kernel_rfl) (fun _ _ _ h => h) (Or.inl ⟨by rfl, by intro W hW; obtain ⟨g0, g1, g2⟩ := hW; go_simp; try exact HWR.out⟩) hS0 (.inr (Or.inl ⟨by rfl, by intro W hW; go_simp; try exact HWR.out⟩)) ?_
  try simp only [Act.put, List.getElem_toArray, List.getElem_cons_succ, List.getElem_cons_zero, List.setIfInBounds_toArray, List.set_cons_zero, List.set_cons_succ]
  refine AnyT.take (i := 4) (v := .pointer (some ⟨w3.heap.size, 6, none⟩)) rfl (by decide) (by kernel_rfl) (by kernel_rfl) (by kernel_rfl) (fun _ _ _ h => h) (Or.inl ⟨by rfl, by intro W hW; obtain ⟨g0, g1, g2⟩ := hW; go_simp; try exact HWR.out⟩) hS0 (.inr (Or.inl ⟨by rfl, by intro W hW; go_simp; try exact HWR.out⟩)) ?_
  try simp only [Act.put, List.getElem_toArray, List.getElem_cons_succ, List.getElem_cons_zero, List.setIfInBounds_toArray, List.set_cons_zero, List.set_cons_succ]
  refine AnyT.take (i := 5) (v := .int .u64 kr) rfl (by decide) (by kernel_rfl) (by kernel_rfl) (by kernel_rfl) (fun _ _ _ h => h) (Or.inl ⟨by rfl, by intro W hW; obtain ⟨g0, g1, g2⟩ := hW; go_simp; try exact HWR.out⟩) hS0 (.inl (by kernel_rfl)) ?_
  try simp only [Act.put, List.getElem_toArray, List.getElem_cons_succ, List.getElem_cons_zero, List.setIfInBounds_toArray, List.set_cons_zero, List.set_cons_succ]
  refine AnyT.take (i := 6) (v := .int .i64 key) rfl (by decide) (by kernel_rfl) (by kernel_rfl) (by kernel_rfl) (fun _ _ _ h => h) (Or.inl ⟨by rfl, by intro W hW; obtain ⟨g0, g1, g2⟩ := hW; go_simp; try exact HWR.out⟩) hS0 (.inl (by kernel_rfl)) ?_
  try simp only [Act.put, List.getElem_toArray, List.getElem_cons_succ, List.getElem_cons_zero, List.setIfInBounds_toArray, List.set_cons_zero, List.set_cons_succ]
  refine AnyT.take (i := 7) (v := .int .i64 lv) rfl (by decide) (by kernel_rfl) (by kernel_rfl) (by kernel_rfl) (fun _ _ _ h => h) (Or.inl ⟨by rfl, by intro W hW; obtain ⟨g0, g1, g2⟩ := hW; go_simp; try exact HWR.out⟩) hS0 (.inr (Or.inl ⟨by rfl, by intro W hW; go_simp; try exact HWR.out⟩)) ?_
  try simp only [Act.put, List.getElem_toArray, List.getElem_cons_succ, List.getElem_cons_zero, List.setIfInBounds_toArray, List.set_cons_zero, List.set_cons_succ]
  refine AnyT.take (i := 8) (v := .int .i64 ((lv : Int) + 1)) rfl (by decide) (by kernel_rfl) (by kernel_rfl) (by kernel_rfl) (fun _ _ _ h => h) (Or.inl ⟨by rfl, by intro W hW; obtain ⟨g0, g1, g2⟩ := hW; go_simp; try exact HWR.out⟩) hS0 (.inl (by kernel_rfl)) ?_
  try simp only [Act.put, List.getElem_toArray, List.getElem_cons_succ, List.getElem_cons_zero, List.setIfInBounds_toArray, List.set_cons_zero, List.set_cons_succ]
  refine AnyT.take (i := 9) (v := .slice L n cL) rfl (by decide) (by kernel_rfl) (by kernel_rfl) (by kernel_rfl) (fun _ _ _ h => h) (Or.inl ⟨by rfl, by intro W hW; obtain ⟨g0, g1, g2⟩ := hW; go_simp; try exact HWR.out⟩) hS0 (.inl (by kernel_rfl)) ?_
  try simp only [Act.put, List.getElem_toArray, List.getElem_cons_succ, List.getElem_cons_zero, List.setIfInBounds_toArray, List.set_cons_zero, List.set_cons_succ]
  refine AnyT.take (i := 11) (v := .pointer (some ⟨w3.heap.size, 5, none⟩)) rfl (by decide) (by kernel_rfl) (by kernel_rfl) (by kernel_rfl) (fun _ _ _ h => h) (Or.inl ⟨by rfl, by intro W hW; obtain ⟨g0, g1, g2⟩ := hW; go_simp; try exact HWR.out⟩) hS0 (.inr (Or.inl ⟨by rfl, by intro W hW; go_simp; try exact HWR.out⟩)) ?_
  try simp only [Act.put, List.getElem_toArray, List.getElem_cons_succ, List.getElem_cons_zero, List.setIfInBounds_toArray, List.set_cons_zero, List.set_cons_succ]
  refine AnyT.turn (n := 10) (by kernel_rfl) rfl (by rfl) ?_
  go_simp
  refine (HI.out _ ((HMk.out.to X4'.out).to (Ext.refl _).drew) ((HOld.out.ext X4'.out HMk.out.lt).ext (Ext.refl _).drew (Nat.lt_of_lt_of_le HMk.out.lt X4'.out.size)) ((HL.out.to X4'.out).to (Ext.refl _).drew)).mono ?_
  rintro e w7 hno'
  obtain ⟨z, rfl, hno⟩ := hno'.split
  clear hno' hS0
  obtain ⟨ns7, fs7, z', hz', hm7, ho7, hg7, hu7, hf7, t', ht7, hr7, hp7⟩ := hno.out
  have hR7 : t'.ref = z := by rw [hr7]; injection hz' with h1; injection h1 with _ h2; exact h2.symm
  have hfto : FarTo b w4' w7 := fun X hX hF => hf7 X hX (hF.ext (Ext.refl _).drew (Nat.lt_of_lt_of_le HMk.out.lt X4'.out.size))
  have hf7x : Far w7 b w3.heap.size := hfto _ (Nat.lt_of_lt_of_le HB4.out.lt X44.out.size) ((HOld.out w3.heap.size (by have := hs3.out; omega)).ext X4'.out HMk.out.lt)
  have HM7 := Lib.hid hm7
  have HO7 := Lib.hid ho7
  have HG7 := Lib.hid hg7
  have HF7 := Lib.hid hf7
  have HT7 := Lib.hid ht7
  have HP7 := Lib.hid hp7
  have HR7 := Lib.hid hR7
  have hs34 := Lib.hid (show w3.heap.size < w4'.heap.size from Nat.lt_of_lt_of_le HB4.out.lt X44.out.size)
  have b7 := (show Only b w4' w7 from ho7.drewL).bx (HB4.out.to X44.out) (by have := hs3.out; have := hbw.out; omega)
  have HB7 := Lib.hid b7
  have m7 := (show Only b w4' w7 from ho7.drewL).bx ((HB1.out.to X24.out).to X44.out) (by have := hbw.out; omega)
  have HMM7 := Lib.hid m7
  clear hz' hm7 ho7 hg7 hu7 hf7 ht7 hr7 hp7 hR7 hno b7 m7
  try simp only [Act.put, List.getElem_toArray, List.getElem_cons_succ, List.getElem_cons_zero, List.setIfInBounds_toArray, List.set_cons_zero, List.set_cons_succ]
  refine wpAnyH_take (i := 12) (v := .pointer (some ⟨w3.heap.size, 6, none⟩)) rfl (by kernel_rfl) (by kernel_rfl) (by kernel_rfl) (fun _ _ _ h => h) (Or.inl ⟨by rfl, by intro W hW; go_simp⟩) trivial ?_
  try simp only [Act.put, List.getElem_toArray, List.getElem_cons_succ, List.getElem_cons_zero, List.setIfInBounds_toArray, List.set_cons_zero, List.set_cons_succ]
  refine held_one2 (i := 13) (by kernel_rfl) rfl (by rfl) ?_
  refine wp_store_cellK 31 (.tmp 39) (.tmp 37) (by rfl) w3.heap.size 6 (by rfl) (.int .u64 z) (by rfl) rfl (by kernel_rfl) _ HB7.out (by simp [Nd.arr_size]) ?_
  intro w8 B8 O8
  refine ⟨trivial, ?_⟩
  try simp only [Act.put, List.getElem_toArray, List.getElem_cons_succ, List.getElem_cons_zero, List.setIfInBounds_toArray, List.set_cons_zero, List.set_cons_succ]
  refine wpAnyH_done (by kernel_rfl) (NoPanic.normal ?_) _
  have HB8 := Lib.hid B8
  have hfar7 : Far w7 b w3.heap.size := hf7x
  have hM8 : Mk w8 b ns7 fs7 0 := HM7.out.farStep hfar7 O8 (by have := hs3.out; have := hbw.out; omega)
  have hO48 : FarTo b w4' w8 := (hfto).trans (FarTo.only O8 (by have := hs3.out; have := hbw.out; omega) HM7.out.lt) (show w4'.heap.size ≤ w7.heap.size from HO7.out.size)
  have hMM8 : Bx w8 w.heap.size #[.pointer (some ⟨b, 0, none⟩)] := O8.bx HMM7.out (by have := hs3.out; omega)
  have hOnly : Only b w w8 := by
    have h1 : Only b w w7 := ((Only.refl b w).ext X4'.out).trans HO7.out.drewL
    refine ⟨O8.os.trans h1.os, O8.tape.trans h1.tape, O8.output.trans h1.output, Nat.le_trans h1.size O8.size, fun k hk hn => (O8.block k (Nat.lt_of_lt_of_le hk h1.size) (fun e => ?_)).trans (h1.block k hk hn)⟩
    injection e with e
    have := hs3.out
    omega
  obtain ⟨q0, q1, q2, q3⟩ := HG.out.kids4 HOK.out
  have hkeep := HG7.out.keep
  have hpl := HP7.out.length_eq
  have hl1 : t'.size = (newLs key b' new).length := hpl
  have hfew := HG7.out.few
  have hroom : 1 ≤ fs7.length := by have := HF.out; omega
  have hone := offK_one key HG.out.ne
  have hle2 := HG.out.le2
  have hsz : (HT.trie r p a b' c d').lvs.length = a.size + (b'.size + (c.size + d'.size)) := HT.size_trie r p a b' c d'
  have hdg' : Dg lv 1 t' := fun y hy => by
    have := HP7.out.mem_iff.1 hy
    rcases List.mem_append.1 this with h | h
    · exact hDg4.2.1 y ((List.mem_filter.1 h).1)
    · rw [(HG.out.nw y h).2.2]; exact hdd'.out
  simp only [newLs, HT.lvs, offK_app, List.length_append] at hl1 hone hle2 hsz
  rw [HO123.out.1, HO123.out.2.1, HO123.out.2.2] at hone hle2
  simp only [HT.size] at hl1 hsz hsz2
  have HTT := Lib.hid (fun W (hW : Ext w8 W) => htTrie4_is b ns7 fs7 lv a t' c d' (some ⟨w3.heap.size, 5, none⟩) 9 W (hM8.to hW) (kids_set (d := 1) (by omega) (HB8.out.to hW) _ (by rw [HR7.out]; simp [HX.out, boxNd, ith])) (q0.mono hkeep) HT7.out (q2.mono hkeep) (q3.mono hkeep) hlv10 ⟨hDg4.1, hdg', hDg4.2.2.1, hDg4.2.2.2⟩ (by simp only [HT.size]; omega) (by simp only [HT.size]; omega) hroom)
  have hperm := Lib.hid (show (a.lvs ++ (t'.lvs ++ (c.lvs ++ d'.lvs))).Perm (newLs key (.trie r p a b' c d') new) by
    simp only [newLs, HT.lvs, offK_app]
    rw [HO123.out.1, HO123.out.2.1, HO123.out.2.2]
    refine List.Perm.trans ((HP7.out.append_right _).append_left _) (by simpa [newLs] using mid_perm a.lvs (offK key b'.lvs) new (c.lvs ++ d'.lvs)))
  have HM8 := Lib.hid hM8
  have HG77 := Lib.hid (show Gr ns fs ns7 fs7 (10 - (lv + 1)) from HG7.out)
  have HFar := Lib.hid (show FarTo b w w8 from (FarTo.ext X4'.out HMk.out.lt).trans hO48 X4'.out.size)
  have HOnly := Lib.hid hOnly
  have s0 := fun q : Later w8 => (hMM8.to q.ext).cell 0
  simp only [List.getElem?_toArray, List.getElem?_cons_zero] at s0
  have HS0 := Lib.hid s0
  clear B8 O8 hfar7 hM8 hO48 hMM8 hOnly q0 q1 q2 q3 hkeep hpl hl1 hfew hroom hone hle2 hsz hdg' s0
  go_upto_region 5 with fail
  have s0 := HS0.out
  refine wp_region_pivot (C := fun w' => ∃ q : Later w8, w' = q.w) 3 _ rfl (by kernel_rfl) (by kernel_rfl) ⟨⟨w8.drew, (Ext.refl _).drew⟩, rfl⟩ ?_
  simp only [List.take_succ_cons, List.take_zero]
  repeat (go_big_quiet_step (fail))
  refine wpQuiet_nil ?_
  rintro _ ⟨q1, rfl⟩ K hK
  clear s0
  go_simp
  refine (HTT.out q1.w q1.ext).mono ?_
  rintro e w9 hno'
  obtain ⟨z9, rfl, hno⟩ := hno'.split
  clear hno'
  refine hK _ _ ⟨fun w' => ∃ q : Later w9, w' = q.w, ⟨⟨w9, Ext.refl _⟩, rfl⟩, ?_⟩
  simp only [List.drop_succ_cons, List.drop_zero]
  have HFIN := Lib.hid (show ∀ W, Ext w9 W → TOut b ns fs (10 - lv) (WthG key lv (.trie r p a b' c d') new) w (.returned (.int .u64 z9)) W from fun W hW => by
    obtain ⟨ns9, fs9, z', hz', hm9, ho9, hg9, hu9, hf9, t9, ht9, hr9, hl9⟩ := hno.out
    injection hz' with h1
    injection h1 with _ h2
    subst h2
    exact ⟨ns9, fs9, z9, rfl, hm9.to hW, ((HOnly.out.ext q1.ext).trans ho9).ext hW, (HG77.out.trans hg9).more (by omega), hu9, (((HFar.out.trans (FarTo.ext q1.ext HM8.out.lt) HOnly.out.size).trans hf9 (Nat.le_trans HOnly.out.size q1.ext.size)).trans (FarTo.ext hW hm9.lt) (Nat.le_trans (Nat.le_trans HOnly.out.size q1.ext.size) ho9.size)), t9, ht9, hr9, by rw [hl9]; exact hperm.out⟩)
  clear hno HTT
  repeat (go_big_quiet_step (fail))
  refine wpQuiet_nil ?_
  rintro _ ⟨q2, rfl⟩
  go_wp2_with fail
  go_ret
  exact HFIN.out _ q2.ext

set_option maxHeartbeats 8000000 in
set_option maxRecDepth 100000 in
theorem htWth_2 (r : Int) (p : Nat) (a b' c d' : HT) (IH2 : WthO c) (lv b : Nat) (ns : List Nd) (fs : List Int) (key : Int) (new : List Lf) (L : Option Addr) (n cL : Nat) (w : World) (h : Mk w b ns fs 0) (hOld : Old w b) (hg : WG ns key lv (.trie r p a b' c d') new) (hL : Rd w 1 L n (Us (new.map Lf.r))) (hlv : lv ≤ 10) (hf : 10 - lv ≤ fs.length) (hdd : dig key lv = 2) :
    Calls Try.prog 23 #[.agg #[.pointer (some ⟨b, 0, none⟩)], .int .u64 (HT.trie r p a b' c d').ref, .int .i64 key, .int .i64 lv, .slice L n cL] w (TOut b ns fs (10 - lv) (WthG key lv (.trie r p a b' c d') new) w) := by
  obtain ⟨A, nA, cA, B, m, d, hb, ha, hA, hB⟩ := h.box
  have hsh := hg.tr.sh
  obtain ⟨hlv10, hsz2, hDg4, _⟩ := hsh
  obtain ⟨gg, hgn⟩ := rp_nodeF hg.tr.rp
  have HOld := Lib.hid hOld
  obtain ⟨w1, hw1⟩ : ∃ w1, w1 = w.alloc (.cells #[.pointer (some ⟨b, 0, none⟩)] 62) := ⟨_, rfl⟩
  obtain ⟨B1, hx1, hs1⟩ := box_made hw1
  obtain ⟨w2, hw2⟩ : ∃ w2, w2 = w1.alloc (.cells #[.int .i64 key] 2) := ⟨_, rfl⟩
  obtain ⟨B2, hx2, hs2⟩ := box_made hw2
  rw [hs1] at B2
  have H1 := Lib.hid hw1
  have H2 := Lib.hid hw2
  have HB1 := Lib.hid (B1.to hx2)
  have HB2 := Lib.hid B2
  have X2 := Lib.hid (hx1.step hx2)
  have HBb := Lib.hid (hb.to (hx1.step hx2))
  have e0 : w2.cell? ⟨b, 0, none⟩ = some (.slice A nA cA) := HBb.out.cell 0
  have e1 : w2.cell? ⟨b, 1, none⟩ = some (.slice B m d) := HBb.out.cell 1
  have e2 : w2.cell? ⟨w.heap.size, 0, none⟩ = some (.pointer (some ⟨b, 0, none⟩)) := HB1.out.cell 0
  have HN := Lib.hid (htNode_is A B nA cA m d ns (HT.trie r p a b' c d').ref w2 hg.tr.u.1 hg.tr.u.2 (ha.nodes.to (hx1.step hx2)))
  have HA := Lib.hid ha
  have HMk := Lib.hid h
  have HG := Lib.hid hg
  have HL := Lib.hid hL
  have HF := Lib.hid hf
  have HOK := Lib.hid h.ok
  have hbw := Lib.hid hb.lt
  obtain ⟨x, hx⟩ : ∃ x, x = nodeF ns (HT.trie r p a b' c d').ref := ⟨_, rfl⟩
  rw [← hx] at HN
  have HX := Lib.hid (show x = boxNd 2 gg ((a.size + (b'.size + (c.size + d'.size)) : Nat) : Int) [a.ref, b'.ref, c.ref, d'.ref] by rw [hx]; exact hgn)
  have HK2 := Lib.hid (show x.k = 2 by rw [HX.out]; rfl)
  have HDg := Lib.hid (fun W => htDigit_is key lv (by omega) W)
  clear hx hgn hOld
  have hkd := (hg.kid h.ok).2.2.1 hdd
  obtain ⟨hwk, ho1, ho2, ho3⟩ := hkd
  obtain ⟨kr, hkr⟩ : ∃ kr, kr = c.ref := ⟨_, rfl⟩
  have HI := Lib.hid (fun W (hW : Mk W b ns fs 0) (hO : Old W b) hLL => IH2 (lv + 1) b ns fs key new L n cL W hW hO hwk hLL (by omega) (by omega))
  rw [← hkr] at HI
  have HWK := Lib.hid hwk
  have hdd' := Lib.hid hdd
  have HO123 := Lib.hid (And.intro ho1 (And.intro ho2 ho3))
  rw [hdd] at HDg
  have HKR := Lib.hid (show x.r2 = kr by rw [HX.out, hkr]; simp [boxNd, ith])
  clear hwk ho1 ho2 ho3 hkr hdd
  clear hw1 B1 hx1 hs1 hw2 B2 hx2 hs2 h hg hL hf hb ha hA hB
  go_enter Try.func23, Try.ntmps23
  go_upto_region 1 with fail
  rw [← H1.out, ← H2.out]
  go_wp2_with fail
  refine HN.out.mono ?_; rintro e w3 ⟨rfl, hx3⟩
  obtain ⟨w4, hw4⟩ : ∃ w4, w4 = w3.alloc (.cells x.arr 68) := ⟨_, rfl⟩
  obtain ⟨B4, hx4, hs4⟩ := box_made hw4
  have H4 := Lib.hid hw4
  have HB4 := Lib.hid B4
  have X4 := Lib.hid (X2.out.step (hx3.step hx4))
  have X24 := Lib.hid (hx3.step hx4)
  have hs3 := Lib.hid (show w.heap.size + 2 ≤ w3.heap.size by have := HB2.out.lt; have := hx3.size; omega)
  have k0 : w4.cell? ⟨w3.heap.size, 0, none⟩ = some (.int .i64 2) := by rw [← HK2.out]; exact (B4.cell 0).trans x.a0
  have s2 : w4.cell? ⟨w.heap.size, 0, none⟩ = some (.pointer (some ⟨b, 0, none⟩)) := X24.out.cellOf e2
  have s3 : w4.cell? ⟨w.heap.size + 1, 0, none⟩ = some (.int .i64 key) := X24.out.cellOf (HB2.out.cell 0)
  have s5 : w4.cell? ⟨w3.heap.size, 7, none⟩ = some (.int .u64 kr) := by rw [← HKR.out]; exact B4.cell 7
  clear hw4 B4 hs4 hx3 hx4 e0 e1 e2
  have hlt10 : (lv : Int) < 10 := by omega
  have HWR := Lib.hid (show IntKind.i64.wrap ((lv : Int) + 1) = (lv : Int) + 1 by rw [IntKind.wrap_i64]; omega)
  go_upto_region 4 with (first
    | (refine wpList_store_nd (W := w3) (by rfl) _ _ (by rfl) (by rfl) x (by rfl) _ (by rfl) (by rfl) ?_; rw [← H4.out])
    | (go_at_call 43; refine (HDg.out _).mono ?_; rintro e w4' ⟨rfl, hx4'⟩
       have s2' := hx4'.cellOf s2
       have s3' := hx4'.cellOf s3
       have s5' := hx4'.cellOf s5
       have X4' := Lib.hid (X4.out.step hx4')
       have X44 := Lib.hid hx4'
       clear s2 s3 s5))
  refine wp_region_noPanic ?_
  have hS0 : (fun W : World => W.cell? ⟨w.heap.size, 0, none⟩ = some (.pointer (some ⟨b, 0, none⟩)) ∧ W.cell? ⟨w.heap.size + 1, 0, none⟩ = some (.int .i64 key) ∧ W.cell? ⟨w3.heap.size, 7, none⟩ = some (.int .u64 kr)) w4'.drew := ⟨s2', s3', s5'⟩
  refine wp_region_turn (S := fun W : World => W.cell? ⟨w.heap.size, 0, none⟩ = some (.pointer (some ⟨b, 0, none⟩)) ∧ W.cell? ⟨w.heap.size + 1, 0, none⟩ = some (.int .i64 key) ∧ W.cell? ⟨w3.heap.size, 7, none⟩ = some (.int .u64 kr)) 10 (by kernel_rfl) ?_
  refine AnyT.take (i := 0) (v := .int .i64 2) rfl (by decide) (by kernel_rfl) (by kernel_rfl) (by kernel_rfl) (fun _ _ _ h => h) (Or.inl ⟨by rfl, by intro W hW; obtain ⟨g0, g1, g2⟩ := hW; go_simp; try exact HWR.out⟩) hS0 (.inr (Or.inl ⟨by rfl, by intro W hW; go_simp; try exact HWR.out⟩)) ?_
  try simp only [Act.put, List.getElem_toArray, List.getElem_cons_succ, List.getElem_cons_zero, List.setIfInBounds_toArray, List.set_cons_zero, List.set_cons_succ]
  refine AnyT.take (i := 1) (v := .agg #[.pointer (some ⟨b, 0, none⟩)]) rfl (by decide) (by kernel_rfl) (by kernel_rfl) (by kernel_rfl) (fun _ _ _ h => h) (Or.inl ⟨by rfl, by intro W hW; obtain ⟨g0, g1, g2⟩ := hW; go_simp; try exact HWR.out⟩) hS0 (.inl (by kernel_rfl)) ?_
  try simp only [Act.put, List.getElem_toArray, List.getElem_cons_succ, List.getElem_cons_zero, List.setIfInBounds_toArray, List.set_cons_zero, List.set_cons_succ]
  refine AnyT.take (i := 2) (v := .int .i64 2) rfl (by decide) (by kernel_rfl) (by kernel_rfl) (by kernel_rfl) (fun _ _ _ h => h) (Or.inl ⟨by rfl, by intro W hW; obtain ⟨g0, g1, g2⟩ := hW; go_simp; try exact HWR.out⟩) hS0 (.inr (Or.inl ⟨by rfl, by intro W hW; go_simp; try exact HWR.out⟩)) ?_
  try simp only [Act.put, List.getElem_toArray, List.getElem_cons_succ, List.getElem_cons_zero, List.setIfInBounds_toArray, List.set_cons_zero, List.set_cons_succ]
  refine AnyT.take (i := 3) (v := .pointer (some ⟨w3.heap.size, 5, none⟩)) rfl (by decide) (by kernel_rfl) (by kernel_rfl) (by kernel_rfl) (fun _ _ _ h => h) (Or.inl ⟨by rfl, by intro W hW; obtain ⟨g0, g1, g2⟩ := hW; go_simp; try exact HWR.out⟩) hS0 (.inr (Or.inl ⟨by rfl, by intro W hW; go_simp; try exact HWR.out⟩)) ?_
  try simp only [Act.put, List.getElem_toArray, List.getElem_cons_succ, List.getElem_cons_zero, List.setIfInBounds_toArray, List.set_cons_zero, List.set_cons_succ]
  refine AnyT.take (i := 4) (v := .pointer (some ⟨w3.heap.size, 7, none⟩)) rfl (by decide) (by kernel_rfl) (by kernel_rfl) (by kernel_rfl) (fun _ _ _ h => h) (Or.inl ⟨by rfl, by intro W hW; obtain ⟨g0, g1, g2⟩ := hW; go_simp; try exact HWR.out⟩) hS0 (.inr (Or.inl ⟨by rfl, by intro W hW; go_simp; try exact HWR.out⟩)) ?_
  try simp only [Act.put, List.getElem_toArray, List.getElem_cons_succ, List.getElem_cons_zero, List.setIfInBounds_toArray, List.set_cons_zero, List.set_cons_succ]
  refine AnyT.take (i := 5) (v := .int .u64 kr) rfl (by decide) (by kernel_rfl) (by kernel_rfl) (by kernel_rfl) (fun _ _ _ h => h) (Or.inl ⟨by rfl, by intro W hW; obtain ⟨g0, g1, g2⟩ := hW; go_simp; try exact HWR.out⟩) hS0 (.inl (by kernel_rfl)) ?_
  try simp only [Act.put, List.getElem_toArray, List.getElem_cons_succ, List.getElem_cons_zero, List.setIfInBounds_toArray, List.set_cons_zero, List.set_cons_succ]
  refine AnyT.take (i := 6) (v := .int .i64 key) rfl (by decide) (by kernel_rfl) (by kernel_rfl) (by kernel_rfl) (fun _ _ _ h => h) (Or.inl ⟨by rfl, by intro W hW; obtain ⟨g0, g1, g2⟩ := hW; go_simp; try exact HWR.out⟩) hS0 (.inl (by kernel_rfl)) ?_
  try simp only [Act.put, List.getElem_toArray, List.getElem_cons_succ, List.getElem_cons_zero, List.setIfInBounds_toArray, List.set_cons_zero, List.set_cons_succ]
  refine AnyT.take (i := 7) (v := .int .i64 lv) rfl (by decide) (by kernel_rfl) (by kernel_rfl) (by kernel_rfl) (fun _ _ _ h => h) (Or.inl ⟨by rfl, by intro W hW; obtain ⟨g0, g1, g2⟩ := hW; go_simp; try exact HWR.out⟩) hS0 (.inr (Or.inl ⟨by rfl, by intro W hW; go_simp; try exact HWR.out⟩)) ?_
  try simp only [Act.put, List.getElem_toArray, List.getElem_cons_succ, List.getElem_cons_zero, List.setIfInBounds_toArray, List.set_cons_zero, List.set_cons_succ]
  refine AnyT.take (i := 8) (v := .int .i64 ((lv : Int) + 1)) rfl (by decide) (by kernel_rfl) (by kernel_rfl) (by kernel_rfl) (fun _ _ _ h => h) (Or.inl ⟨by rfl, by intro W hW; obtain ⟨g0, g1, g2⟩ := hW; go_simp; try exact HWR.out⟩) hS0 (.inl (by kernel_rfl)) ?_
  try simp only [Act.put, List.getElem_toArray, List.getElem_cons_succ, List.getElem_cons_zero, List.setIfInBounds_toArray, List.set_cons_zero, List.set_cons_succ]
  refine AnyT.take (i := 9) (v := .slice L n cL) rfl (by decide) (by kernel_rfl) (by kernel_rfl) (by kernel_rfl) (fun _ _ _ h => h) (Or.inl ⟨by rfl, by intro W hW; obtain ⟨g0, g1, g2⟩ := hW; go_simp; try exact HWR.out⟩) hS0 (.inl (by kernel_rfl)) ?_
  try simp only [Act.put, List.getElem_toArray, List.getElem_cons_succ, List.getElem_cons_zero, List.setIfInBounds_toArray, List.set_cons_zero, List.set_cons_succ]
  refine AnyT.take (i := 11) (v := .pointer (some ⟨w3.heap.size, 5, none⟩)) rfl (by decide) (by kernel_rfl) (by kernel_rfl) (by kernel_rfl) (fun _ _ _ h => h) (Or.inl ⟨by rfl, by intro W hW; obtain ⟨g0, g1, g2⟩ := hW; go_simp; try exact HWR.out⟩) hS0 (.inr (Or.inl ⟨by rfl, by intro W hW; go_simp; try exact HWR.out⟩)) ?_
  try simp only [Act.put, List.getElem_toArray, List.getElem_cons_succ, List.getElem_cons_zero, List.setIfInBounds_toArray, List.set_cons_zero, List.set_cons_succ]
  refine AnyT.turn (n := 10) (by kernel_rfl) rfl (by rfl) ?_
  go_simp
  refine (HI.out _ ((HMk.out.to X4'.out).to (Ext.refl _).drew) ((HOld.out.ext X4'.out HMk.out.lt).ext (Ext.refl _).drew (Nat.lt_of_lt_of_le HMk.out.lt X4'.out.size)) ((HL.out.to X4'.out).to (Ext.refl _).drew)).mono ?_
  rintro e w7 hno'
  obtain ⟨z, rfl, hno⟩ := hno'.split
  clear hno' hS0
  obtain ⟨ns7, fs7, z', hz', hm7, ho7, hg7, hu7, hf7, t', ht7, hr7, hp7⟩ := hno.out
  have hR7 : t'.ref = z := by rw [hr7]; injection hz' with h1; injection h1 with _ h2; exact h2.symm
  have hfto : FarTo b w4' w7 := fun X hX hF => hf7 X hX (hF.ext (Ext.refl _).drew (Nat.lt_of_lt_of_le HMk.out.lt X4'.out.size))
  have hf7x : Far w7 b w3.heap.size := hfto _ (Nat.lt_of_lt_of_le HB4.out.lt X44.out.size) ((HOld.out w3.heap.size (by have := hs3.out; omega)).ext X4'.out HMk.out.lt)
  have HM7 := Lib.hid hm7
  have HO7 := Lib.hid ho7
  have HG7 := Lib.hid hg7
  have HF7 := Lib.hid hf7
  have HT7 := Lib.hid ht7
  have HP7 := Lib.hid hp7
  have HR7 := Lib.hid hR7
  have hs34 := Lib.hid (show w3.heap.size < w4'.heap.size from Nat.lt_of_lt_of_le HB4.out.lt X44.out.size)
  have b7 := (show Only b w4' w7 from ho7.drewL).bx (HB4.out.to X44.out) (by have := hs3.out; have := hbw.out; omega)
  have HB7 := Lib.hid b7
  have m7 := (show Only b w4' w7 from ho7.drewL).bx ((HB1.out.to X24.out).to X44.out) (by have := hbw.out; omega)
  have HMM7 := Lib.hid m7
  clear hz' hm7 ho7 hg7 hu7 hf7 ht7 hr7 hp7 hR7 hno b7 m7
  try simp only [Act.put, List.getElem_toArray, List.getElem_cons_succ, List.getElem_cons_zero, List.setIfInBounds_toArray, List.set_cons_zero, List.set_cons_succ]
  refine wpAnyH_take (i := 12) (v := .pointer (some ⟨w3.heap.size, 7, none⟩)) rfl (by kernel_rfl) (by kernel_rfl) (by kernel_rfl) (fun _ _ _ h => h) (Or.inl ⟨by rfl, by intro W hW; go_simp⟩) trivial ?_
  try simp only [Act.put, List.getElem_toArray, List.getElem_cons_succ, List.getElem_cons_zero, List.setIfInBounds_toArray, List.set_cons_zero, List.set_cons_succ]
  refine held_one2 (i := 13) (by kernel_rfl) rfl (by rfl) ?_
  refine wp_store_cellK 31 (.tmp 39) (.tmp 37) (by rfl) w3.heap.size 7 (by rfl) (.int .u64 z) (by rfl) rfl (by kernel_rfl) _ HB7.out (by simp [Nd.arr_size]) ?_
  intro w8 B8 O8
  refine ⟨trivial, ?_⟩
  try simp only [Act.put, List.getElem_toArray, List.getElem_cons_succ, List.getElem_cons_zero, List.setIfInBounds_toArray, List.set_cons_zero, List.set_cons_succ]
  refine wpAnyH_done (by kernel_rfl) (NoPanic.normal ?_) _
  have HB8 := Lib.hid B8
  have hfar7 : Far w7 b w3.heap.size := hf7x
  have hM8 : Mk w8 b ns7 fs7 0 := HM7.out.farStep hfar7 O8 (by have := hs3.out; have := hbw.out; omega)
  have hO48 : FarTo b w4' w8 := (hfto).trans (FarTo.only O8 (by have := hs3.out; have := hbw.out; omega) HM7.out.lt) (show w4'.heap.size ≤ w7.heap.size from HO7.out.size)
  have hMM8 : Bx w8 w.heap.size #[.pointer (some ⟨b, 0, none⟩)] := O8.bx HMM7.out (by have := hs3.out; omega)
  have hOnly : Only b w w8 := by
    have h1 : Only b w w7 := ((Only.refl b w).ext X4'.out).trans HO7.out.drewL
    refine ⟨O8.os.trans h1.os, O8.tape.trans h1.tape, O8.output.trans h1.output, Nat.le_trans h1.size O8.size, fun k hk hn => (O8.block k (Nat.lt_of_lt_of_le hk h1.size) (fun e => ?_)).trans (h1.block k hk hn)⟩
    injection e with e
    have := hs3.out
    omega
  obtain ⟨q0, q1, q2, q3⟩ := HG.out.kids4 HOK.out
  have hkeep := HG7.out.keep
  have hpl := HP7.out.length_eq
  have hl1 : t'.size = (newLs key c new).length := hpl
  have hfew := HG7.out.few
  have hroom : 1 ≤ fs7.length := by have := HF.out; omega
  have hone := offK_one key HG.out.ne
  have hle2 := HG.out.le2
  have hsz : (HT.trie r p a b' c d').lvs.length = a.size + (b'.size + (c.size + d'.size)) := HT.size_trie r p a b' c d'
  have hdg' : Dg lv 2 t' := fun y hy => by
    have := HP7.out.mem_iff.1 hy
    rcases List.mem_append.1 this with h | h
    · exact hDg4.2.2.1 y ((List.mem_filter.1 h).1)
    · rw [(HG.out.nw y h).2.2]; exact hdd'.out
  simp only [newLs, HT.lvs, offK_app, List.length_append] at hl1 hone hle2 hsz
  rw [HO123.out.1, HO123.out.2.1, HO123.out.2.2] at hone hle2
  simp only [HT.size] at hl1 hsz hsz2
  have HTT := Lib.hid (fun W (hW : Ext w8 W) => htTrie4_is b ns7 fs7 lv a b' t' d' (some ⟨w3.heap.size, 5, none⟩) 9 W (hM8.to hW) (kids_set (d := 2) (by omega) (HB8.out.to hW) _ (by rw [HR7.out]; simp [HX.out, boxNd, ith])) (q0.mono hkeep) (q1.mono hkeep) HT7.out (q3.mono hkeep) hlv10 ⟨hDg4.1, hDg4.2.1, hdg', hDg4.2.2.2⟩ (by simp only [HT.size]; omega) (by simp only [HT.size]; omega) hroom)
  have hperm := Lib.hid (show (a.lvs ++ (b'.lvs ++ (t'.lvs ++ d'.lvs))).Perm (newLs key (.trie r p a b' c d') new) by
    simp only [newLs, HT.lvs, offK_app]
    rw [HO123.out.1, HO123.out.2.1, HO123.out.2.2]
    refine List.Perm.trans (((HP7.out.append_right _).append_left _).append_left _) (by simpa [newLs] using mid_perm (a.lvs ++ b'.lvs) (offK key c.lvs) new d'.lvs))
  have HM8 := Lib.hid hM8
  have HG77 := Lib.hid (show Gr ns fs ns7 fs7 (10 - (lv + 1)) from HG7.out)
  have HFar := Lib.hid (show FarTo b w w8 from (FarTo.ext X4'.out HMk.out.lt).trans hO48 X4'.out.size)
  have HOnly := Lib.hid hOnly
  have s0 := fun q : Later w8 => (hMM8.to q.ext).cell 0
  simp only [List.getElem?_toArray, List.getElem?_cons_zero] at s0
  have HS0 := Lib.hid s0
  clear B8 O8 hfar7 hM8 hO48 hMM8 hOnly q0 q1 q2 q3 hkeep hpl hl1 hfew hroom hone hle2 hsz hdg' s0
  go_upto_region 5 with fail
  have s0 := HS0.out
  refine wp_region_pivot (C := fun w' => ∃ q : Later w8, w' = q.w) 3 _ rfl (by kernel_rfl) (by kernel_rfl) ⟨⟨w8.drew, (Ext.refl _).drew⟩, rfl⟩ ?_
  simp only [List.take_succ_cons, List.take_zero]
  repeat (go_big_quiet_step (fail))
  refine wpQuiet_nil ?_
  rintro _ ⟨q1, rfl⟩ K hK
  clear s0
  go_simp
  refine (HTT.out q1.w q1.ext).mono ?_
  rintro e w9 hno'
  obtain ⟨z9, rfl, hno⟩ := hno'.split
  clear hno'
  refine hK _ _ ⟨fun w' => ∃ q : Later w9, w' = q.w, ⟨⟨w9, Ext.refl _⟩, rfl⟩, ?_⟩
  simp only [List.drop_succ_cons, List.drop_zero]
  have HFIN := Lib.hid (show ∀ W, Ext w9 W → TOut b ns fs (10 - lv) (WthG key lv (.trie r p a b' c d') new) w (.returned (.int .u64 z9)) W from fun W hW => by
    obtain ⟨ns9, fs9, z', hz', hm9, ho9, hg9, hu9, hf9, t9, ht9, hr9, hl9⟩ := hno.out
    injection hz' with h1
    injection h1 with _ h2
    subst h2
    exact ⟨ns9, fs9, z9, rfl, hm9.to hW, ((HOnly.out.ext q1.ext).trans ho9).ext hW, (HG77.out.trans hg9).more (by omega), hu9, (((HFar.out.trans (FarTo.ext q1.ext HM8.out.lt) HOnly.out.size).trans hf9 (Nat.le_trans HOnly.out.size q1.ext.size)).trans (FarTo.ext hW hm9.lt) (Nat.le_trans (Nat.le_trans HOnly.out.size q1.ext.size) ho9.size)), t9, ht9, hr9, by rw [hl9]; exact hperm.out⟩)
  clear hno HTT
  repeat (go_big_quiet_step (fail))
  refine wpQuiet_nil ?_
  rintro _ ⟨q2, rfl⟩
  go_wp2_with fail
  go_ret
  exact HFIN.out _ q2.ext

set_option maxHeartbeats 8000000 in
set_option maxRecDepth 100000 in
theorem htWth_3 (r : Int) (p : Nat) (a b' c d' : HT) (IH3 : WthO d') (lv b : Nat) (ns : List Nd) (fs : List Int) (key : Int) (new : List Lf) (L : Option Addr) (n cL : Nat) (w : World) (h : Mk w b ns fs 0) (hOld : Old w b) (hg : WG ns key lv (.trie r p a b' c d') new) (hL : Rd w 1 L n (Us (new.map Lf.r))) (hlv : lv ≤ 10) (hf : 10 - lv ≤ fs.length) (hdd : dig key lv = 3) :
    Calls Try.prog 23 #[.agg #[.pointer (some ⟨b, 0, none⟩)], .int .u64 (HT.trie r p a b' c d').ref, .int .i64 key, .int .i64 lv, .slice L n cL] w (TOut b ns fs (10 - lv) (WthG key lv (.trie r p a b' c d') new) w) := by
  obtain ⟨A, nA, cA, B, m, d, hb, ha, hA, hB⟩ := h.box
  have hsh := hg.tr.sh
  obtain ⟨hlv10, hsz2, hDg4, _⟩ := hsh
  obtain ⟨gg, hgn⟩ := rp_nodeF hg.tr.rp
  have HOld := Lib.hid hOld
  obtain ⟨w1, hw1⟩ : ∃ w1, w1 = w.alloc (.cells #[.pointer (some ⟨b, 0, none⟩)] 62) := ⟨_, rfl⟩
  obtain ⟨B1, hx1, hs1⟩ := box_made hw1
  obtain ⟨w2, hw2⟩ : ∃ w2, w2 = w1.alloc (.cells #[.int .i64 key] 2) := ⟨_, rfl⟩
  obtain ⟨B2, hx2, hs2⟩ := box_made hw2
  rw [hs1] at B2
  have H1 := Lib.hid hw1
  have H2 := Lib.hid hw2
  have HB1 := Lib.hid (B1.to hx2)
  have HB2 := Lib.hid B2
  have X2 := Lib.hid (hx1.step hx2)
  have HBb := Lib.hid (hb.to (hx1.step hx2))
  have e0 : w2.cell? ⟨b, 0, none⟩ = some (.slice A nA cA) := HBb.out.cell 0
  have e1 : w2.cell? ⟨b, 1, none⟩ = some (.slice B m d) := HBb.out.cell 1
  have e2 : w2.cell? ⟨w.heap.size, 0, none⟩ = some (.pointer (some ⟨b, 0, none⟩)) := HB1.out.cell 0
  have HN := Lib.hid (htNode_is A B nA cA m d ns (HT.trie r p a b' c d').ref w2 hg.tr.u.1 hg.tr.u.2 (ha.nodes.to (hx1.step hx2)))
  have HA := Lib.hid ha
  have HMk := Lib.hid h
  have HG := Lib.hid hg
  have HL := Lib.hid hL
  have HF := Lib.hid hf
  have HOK := Lib.hid h.ok
  have hbw := Lib.hid hb.lt
  obtain ⟨x, hx⟩ : ∃ x, x = nodeF ns (HT.trie r p a b' c d').ref := ⟨_, rfl⟩
  rw [← hx] at HN
  have HX := Lib.hid (show x = boxNd 2 gg ((a.size + (b'.size + (c.size + d'.size)) : Nat) : Int) [a.ref, b'.ref, c.ref, d'.ref] by rw [hx]; exact hgn)
  have HK2 := Lib.hid (show x.k = 2 by rw [HX.out]; rfl)
  have HDg := Lib.hid (fun W => htDigit_is key lv (by omega) W)
  clear hx hgn hOld
  have hkd := (hg.kid h.ok).2.2.2 hdd
  obtain ⟨hwk, ho1, ho2, ho3⟩ := hkd
  obtain ⟨kr, hkr⟩ : ∃ kr, kr = d'.ref := ⟨_, rfl⟩
  have HI := Lib.hid (fun W (hW : Mk W b ns fs 0) (hO : Old W b) hLL => IH3 (lv + 1) b ns fs key new L n cL W hW hO hwk hLL (by omega) (by omega))
  rw [← hkr] at HI
  have HWK := Lib.hid hwk
  have hdd' := Lib.hid hdd
  have HO123 := Lib.hid (And.intro ho1 (And.intro ho2 ho3))
  rw [hdd] at HDg
  have HKR := Lib.hid (show x.r3 = kr by rw [HX.out, hkr]; simp [boxNd, ith])
  clear hwk ho1 ho2 ho3 hkr hdd
  clear hw1 B1 hx1 hs1 hw2 B2 hx2 hs2 h hg hL hf hb ha hA hB
  go_enter Try.func23, Try.ntmps23
  go_upto_region 1 with fail
  rw [← H1.out, ← H2.out]
  go_wp2_with fail
  refine HN.out.mono ?_; rintro e w3 ⟨rfl, hx3⟩
  obtain ⟨w4, hw4⟩ : ∃ w4, w4 = w3.alloc (.cells x.arr 68) := ⟨_, rfl⟩
  obtain ⟨B4, hx4, hs4⟩ := box_made hw4
  have H4 := Lib.hid hw4
  have HB4 := Lib.hid B4
  have X4 := Lib.hid (X2.out.step (hx3.step hx4))
  have X24 := Lib.hid (hx3.step hx4)
  have hs3 := Lib.hid (show w.heap.size + 2 ≤ w3.heap.size by have := HB2.out.lt; have := hx3.size; omega)
  have k0 : w4.cell? ⟨w3.heap.size, 0, none⟩ = some (.int .i64 2) := by rw [← HK2.out]; exact (B4.cell 0).trans x.a0
  have s2 : w4.cell? ⟨w.heap.size, 0, none⟩ = some (.pointer (some ⟨b, 0, none⟩)) := X24.out.cellOf e2
  have s3 : w4.cell? ⟨w.heap.size + 1, 0, none⟩ = some (.int .i64 key) := X24.out.cellOf (HB2.out.cell 0)
  have s5 : w4.cell? ⟨w3.heap.size, 8, none⟩ = some (.int .u64 kr) := by rw [← HKR.out]; exact B4.cell 8
  clear hw4 B4 hs4 hx3 hx4 e0 e1 e2
  have hlt10 : (lv : Int) < 10 := by omega
  have HWR := Lib.hid (show IntKind.i64.wrap ((lv : Int) + 1) = (lv : Int) + 1 by rw [IntKind.wrap_i64]; omega)
  go_upto_region 4 with (first
    | (refine wpList_store_nd (W := w3) (by rfl) _ _ (by rfl) (by rfl) x (by rfl) _ (by rfl) (by rfl) ?_; rw [← H4.out])
    | (go_at_call 43; refine (HDg.out _).mono ?_; rintro e w4' ⟨rfl, hx4'⟩
       have s2' := hx4'.cellOf s2
       have s3' := hx4'.cellOf s3
       have s5' := hx4'.cellOf s5
       have X4' := Lib.hid (X4.out.step hx4')
       have X44 := Lib.hid hx4'
       clear s2 s3 s5))
  refine wp_region_noPanic ?_
  have hS0 : (fun W : World => W.cell? ⟨w.heap.size, 0, none⟩ = some (.pointer (some ⟨b, 0, none⟩)) ∧ W.cell? ⟨w.heap.size + 1, 0, none⟩ = some (.int .i64 key) ∧ W.cell? ⟨w3.heap.size, 8, none⟩ = some (.int .u64 kr)) w4'.drew := ⟨s2', s3', s5'⟩
  refine wp_region_turn (S := fun W : World => W.cell? ⟨w.heap.size, 0, none⟩ = some (.pointer (some ⟨b, 0, none⟩)) ∧ W.cell? ⟨w.heap.size + 1, 0, none⟩ = some (.int .i64 key) ∧ W.cell? ⟨w3.heap.size, 8, none⟩ = some (.int .u64 kr)) 10 (by kernel_rfl) ?_
  refine AnyT.take (i := 0) (v := .int .i64 3) rfl (by decide) (by kernel_rfl) (by kernel_rfl) (by kernel_rfl) (fun _ _ _ h => h) (Or.inl ⟨by rfl, by intro W hW; obtain ⟨g0, g1, g2⟩ := hW; go_simp; try exact HWR.out⟩) hS0 (.inr (Or.inl ⟨by rfl, by intro W hW; go_simp; try exact HWR.out⟩)) ?_
  try simp only [Act.put, List.getElem_toArray, List.getElem_cons_succ, List.getElem_cons_zero, List.setIfInBounds_toArray, List.set_cons_zero, List.set_cons_succ]
  refine AnyT.take (i := 1) (v := .agg #[.pointer (some ⟨b, 0, none⟩)]) rfl (by decide) (by kernel_rfl) (by kernel_rfl) (by kernel_rfl) (fun _ _ _ h => h) (Or.inl ⟨by rfl, by intro W hW; obtain ⟨g0, g1, g2⟩ := hW; go_simp; try exact HWR.out⟩) hS0 (.inl (by kernel_rfl)) ?_
  try simp only [Act.put, List.getElem_toArray, List.getElem_cons_succ, List.getElem_cons_zero, List.setIfInBounds_toArray, List.set_cons_zero, List.set_cons_succ]
  refine AnyT.take (i := 2) (v := .int .i64 3) rfl (by decide) (by kernel_rfl) (by kernel_rfl) (by kernel_rfl) (fun _ _ _ h => h) (Or.inl ⟨by rfl, by intro W hW; obtain ⟨g0, g1, g2⟩ := hW; go_simp; try exact HWR.out⟩) hS0 (.inr (Or.inl ⟨by rfl, by intro W hW; go_simp; try exact HWR.out⟩)) ?_
  try simp only [Act.put, List.getElem_toArray, List.getElem_cons_succ, List.getElem_cons_zero, List.setIfInBounds_toArray, List.set_cons_zero, List.set_cons_succ]
  refine AnyT.take (i := 3) (v := .pointer (some ⟨w3.heap.size, 5, none⟩)) rfl (by decide) (by kernel_rfl) (by kernel_rfl) (by kernel_rfl) (fun _ _ _ h => h) (Or.inl ⟨by rfl, by intro W hW; obtain ⟨g0, g1, g2⟩ := hW; go_simp; try exact HWR.out⟩) hS0 (.inr (Or.inl ⟨by rfl, by intro W hW; go_simp; try exact HWR.out⟩)) ?_
  try simp only [Act.put, List.getElem_toArray, List.getElem_cons_succ, List.getElem_cons_zero, List.setIfInBounds_toArray, List.set_cons_zero, List.set_cons_succ]
  refine AnyT.take (i := 4) (v := .pointer (some ⟨w3.heap.size, 8, none⟩)) rfl (by decide) (by kernel_rfl) (by kernel_rfl) (by kernel_rfl) (fun _ _ _ h => h) (Or.inl ⟨by rfl, by intro W hW; obtain ⟨g0, g1, g2⟩ := hW; go_simp; try exact HWR.out⟩) hS0 (.inr (Or.inl ⟨by rfl, by intro W hW; go_simp; try exact HWR.out⟩)) ?_
  try simp only [Act.put, List.getElem_toArray, List.getElem_cons_succ, List.getElem_cons_zero, List.setIfInBounds_toArray, List.set_cons_zero, List.set_cons_succ]
  refine AnyT.take (i := 5) (v := .int .u64 kr) rfl (by decide) (by kernel_rfl) (by kernel_rfl) (by kernel_rfl) (fun _ _ _ h => h) (Or.inl ⟨by rfl, by intro W hW; obtain ⟨g0, g1, g2⟩ := hW; go_simp; try exact HWR.out⟩) hS0 (.inl (by kernel_rfl)) ?_
  try simp only [Act.put, List.getElem_toArray, List.getElem_cons_succ, List.getElem_cons_zero, List.setIfInBounds_toArray, List.set_cons_zero, List.set_cons_succ]
  refine AnyT.take (i := 6) (v := .int .i64 key) rfl (by decide) (by kernel_rfl) (by kernel_rfl) (by kernel_rfl) (fun _ _ _ h => h) (Or.inl ⟨by rfl, by intro W hW; obtain ⟨g0, g1, g2⟩ := hW; go_simp; try exact HWR.out⟩) hS0 (.inl (by kernel_rfl)) ?_
  try simp only [Act.put, List.getElem_toArray, List.getElem_cons_succ, List.getElem_cons_zero, List.setIfInBounds_toArray, List.set_cons_zero, List.set_cons_succ]
  refine AnyT.take (i := 7) (v := .int .i64 lv) rfl (by decide) (by kernel_rfl) (by kernel_rfl) (by kernel_rfl) (fun _ _ _ h => h) (Or.inl ⟨by rfl, by intro W hW; obtain ⟨g0, g1, g2⟩ := hW; go_simp; try exact HWR.out⟩) hS0 (.inr (Or.inl ⟨by rfl, by intro W hW; go_simp; try exact HWR.out⟩)) ?_
  try simp only [Act.put, List.getElem_toArray, List.getElem_cons_succ, List.getElem_cons_zero, List.setIfInBounds_toArray, List.set_cons_zero, List.set_cons_succ]
  refine AnyT.take (i := 8) (v := .int .i64 ((lv : Int) + 1)) rfl (by decide) (by kernel_rfl) (by kernel_rfl) (by kernel_rfl) (fun _ _ _ h => h) (Or.inl ⟨by rfl, by intro W hW; obtain ⟨g0, g1, g2⟩ := hW; go_simp; try exact HWR.out⟩) hS0 (.inl (by kernel_rfl)) ?_
  try simp only [Act.put, List.getElem_toArray, List.getElem_cons_succ, List.getElem_cons_zero, List.setIfInBounds_toArray, List.set_cons_zero, List.set_cons_succ]
  refine AnyT.take (i := 9) (v := .slice L n cL) rfl (by decide) (by kernel_rfl) (by kernel_rfl) (by kernel_rfl) (fun _ _ _ h => h) (Or.inl ⟨by rfl, by intro W hW; obtain ⟨g0, g1, g2⟩ := hW; go_simp; try exact HWR.out⟩) hS0 (.inl (by kernel_rfl)) ?_
  try simp only [Act.put, List.getElem_toArray, List.getElem_cons_succ, List.getElem_cons_zero, List.setIfInBounds_toArray, List.set_cons_zero, List.set_cons_succ]
  refine AnyT.take (i := 11) (v := .pointer (some ⟨w3.heap.size, 5, none⟩)) rfl (by decide) (by kernel_rfl) (by kernel_rfl) (by kernel_rfl) (fun _ _ _ h => h) (Or.inl ⟨by rfl, by intro W hW; obtain ⟨g0, g1, g2⟩ := hW; go_simp; try exact HWR.out⟩) hS0 (.inr (Or.inl ⟨by rfl, by intro W hW; go_simp; try exact HWR.out⟩)) ?_
  try simp only [Act.put, List.getElem_toArray, List.getElem_cons_succ, List.getElem_cons_zero, List.setIfInBounds_toArray, List.set_cons_zero, List.set_cons_succ]
  refine AnyT.turn (n := 10) (by kernel_rfl) rfl (by rfl) ?_
  go_simp
  refine (HI.out _ ((HMk.out.to X4'.out).to (Ext.refl _).drew) ((HOld.out.ext X4'.out HMk.out.lt).ext (Ext.refl _).drew (Nat.lt_of_lt_of_le HMk.out.lt X4'.out.size)) ((HL.out.to X4'.out).to (Ext.refl _).drew)).mono ?_
  rintro e w7 hno'
  obtain ⟨z, rfl, hno⟩ := hno'.split
  clear hno' hS0
  obtain ⟨ns7, fs7, z', hz', hm7, ho7, hg7, hu7, hf7, t', ht7, hr7, hp7⟩ := hno.out
  have hR7 : t'.ref = z := by rw [hr7]; injection hz' with h1; injection h1 with _ h2; exact h2.symm
  have hfto : FarTo b w4' w7 := fun X hX hF => hf7 X hX (hF.ext (Ext.refl _).drew (Nat.lt_of_lt_of_le HMk.out.lt X4'.out.size))
  have hf7x : Far w7 b w3.heap.size := hfto _ (Nat.lt_of_lt_of_le HB4.out.lt X44.out.size) ((HOld.out w3.heap.size (by have := hs3.out; omega)).ext X4'.out HMk.out.lt)
  have HM7 := Lib.hid hm7
  have HO7 := Lib.hid ho7
  have HG7 := Lib.hid hg7
  have HF7 := Lib.hid hf7
  have HT7 := Lib.hid ht7
  have HP7 := Lib.hid hp7
  have HR7 := Lib.hid hR7
  have hs34 := Lib.hid (show w3.heap.size < w4'.heap.size from Nat.lt_of_lt_of_le HB4.out.lt X44.out.size)
  have b7 := (show Only b w4' w7 from ho7.drewL).bx (HB4.out.to X44.out) (by have := hs3.out; have := hbw.out; omega)
  have HB7 := Lib.hid b7
  have m7 := (show Only b w4' w7 from ho7.drewL).bx ((HB1.out.to X24.out).to X44.out) (by have := hbw.out; omega)
  have HMM7 := Lib.hid m7
  clear hz' hm7 ho7 hg7 hu7 hf7 ht7 hr7 hp7 hR7 hno b7 m7
  try simp only [Act.put, List.getElem_toArray, List.getElem_cons_succ, List.getElem_cons_zero, List.setIfInBounds_toArray, List.set_cons_zero, List.set_cons_succ]
  refine wpAnyH_take (i := 12) (v := .pointer (some ⟨w3.heap.size, 8, none⟩)) rfl (by kernel_rfl) (by kernel_rfl) (by kernel_rfl) (fun _ _ _ h => h) (Or.inl ⟨by rfl, by intro W hW; go_simp⟩) trivial ?_
  try simp only [Act.put, List.getElem_toArray, List.getElem_cons_succ, List.getElem_cons_zero, List.setIfInBounds_toArray, List.set_cons_zero, List.set_cons_succ]
  refine held_one2 (i := 13) (by kernel_rfl) rfl (by rfl) ?_
  refine wp_store_cellK 31 (.tmp 39) (.tmp 37) (by rfl) w3.heap.size 8 (by rfl) (.int .u64 z) (by rfl) rfl (by kernel_rfl) _ HB7.out (by simp [Nd.arr_size]) ?_
  intro w8 B8 O8
  refine ⟨trivial, ?_⟩
  try simp only [Act.put, List.getElem_toArray, List.getElem_cons_succ, List.getElem_cons_zero, List.setIfInBounds_toArray, List.set_cons_zero, List.set_cons_succ]
  refine wpAnyH_done (by kernel_rfl) (NoPanic.normal ?_) _
  have HB8 := Lib.hid B8
  have hfar7 : Far w7 b w3.heap.size := hf7x
  have hM8 : Mk w8 b ns7 fs7 0 := HM7.out.farStep hfar7 O8 (by have := hs3.out; have := hbw.out; omega)
  have hO48 : FarTo b w4' w8 := (hfto).trans (FarTo.only O8 (by have := hs3.out; have := hbw.out; omega) HM7.out.lt) (show w4'.heap.size ≤ w7.heap.size from HO7.out.size)
  have hMM8 : Bx w8 w.heap.size #[.pointer (some ⟨b, 0, none⟩)] := O8.bx HMM7.out (by have := hs3.out; omega)
  have hOnly : Only b w w8 := by
    have h1 : Only b w w7 := ((Only.refl b w).ext X4'.out).trans HO7.out.drewL
    refine ⟨O8.os.trans h1.os, O8.tape.trans h1.tape, O8.output.trans h1.output, Nat.le_trans h1.size O8.size, fun k hk hn => (O8.block k (Nat.lt_of_lt_of_le hk h1.size) (fun e => ?_)).trans (h1.block k hk hn)⟩
    injection e with e
    have := hs3.out
    omega
  obtain ⟨q0, q1, q2, q3⟩ := HG.out.kids4 HOK.out
  have hkeep := HG7.out.keep
  have hpl := HP7.out.length_eq
  have hl1 : t'.size = (newLs key d' new).length := hpl
  have hfew := HG7.out.few
  have hroom : 1 ≤ fs7.length := by have := HF.out; omega
  have hone := offK_one key HG.out.ne
  have hle2 := HG.out.le2
  have hsz : (HT.trie r p a b' c d').lvs.length = a.size + (b'.size + (c.size + d'.size)) := HT.size_trie r p a b' c d'
  have hdg' : Dg lv 3 t' := fun y hy => by
    have := HP7.out.mem_iff.1 hy
    rcases List.mem_append.1 this with h | h
    · exact hDg4.2.2.2 y ((List.mem_filter.1 h).1)
    · rw [(HG.out.nw y h).2.2]; exact hdd'.out
  simp only [newLs, HT.lvs, offK_app, List.length_append] at hl1 hone hle2 hsz
  rw [HO123.out.1, HO123.out.2.1, HO123.out.2.2] at hone hle2
  simp only [HT.size] at hl1 hsz hsz2
  have HTT := Lib.hid (fun W (hW : Ext w8 W) => htTrie4_is b ns7 fs7 lv a b' c t' (some ⟨w3.heap.size, 5, none⟩) 9 W (hM8.to hW) (kids_set (d := 3) (by omega) (HB8.out.to hW) _ (by rw [HR7.out]; simp [HX.out, boxNd, ith])) (q0.mono hkeep) (q1.mono hkeep) (q2.mono hkeep) HT7.out hlv10 ⟨hDg4.1, hDg4.2.1, hDg4.2.2.1, hdg'⟩ (by simp only [HT.size]; omega) (by simp only [HT.size]; omega) hroom)
  have hperm := Lib.hid (show (a.lvs ++ (b'.lvs ++ (c.lvs ++ t'.lvs))).Perm (newLs key (.trie r p a b' c d') new) by
    simp only [newLs, HT.lvs, offK_app]
    rw [HO123.out.1, HO123.out.2.1, HO123.out.2.2]
    refine List.Perm.trans (((HP7.out).append_left _).append_left _ |>.append_left _) (by simp [newLs]))
  have HM8 := Lib.hid hM8
  have HG77 := Lib.hid (show Gr ns fs ns7 fs7 (10 - (lv + 1)) from HG7.out)
  have HFar := Lib.hid (show FarTo b w w8 from (FarTo.ext X4'.out HMk.out.lt).trans hO48 X4'.out.size)
  have HOnly := Lib.hid hOnly
  have s0 := fun q : Later w8 => (hMM8.to q.ext).cell 0
  simp only [List.getElem?_toArray, List.getElem?_cons_zero] at s0
  have HS0 := Lib.hid s0
  clear B8 O8 hfar7 hM8 hO48 hMM8 hOnly q0 q1 q2 q3 hkeep hpl hl1 hfew hroom hone hle2 hsz hdg' s0
  go_upto_region 5 with fail
  have s0 := HS0.out
  refine wp_region_pivot (C := fun w' => ∃ q : Later w8, w' = q.w) 3 _ rfl (by kernel_rfl) (by kernel_rfl) ⟨⟨w8.drew, (Ext.refl _).drew⟩, rfl⟩ ?_
  simp only [List.take_succ_cons, List.take_zero]
  repeat (go_big_quiet_step (fail))
  refine wpQuiet_nil ?_
  rintro _ ⟨q1, rfl⟩ K hK
  clear s0
  go_simp
  refine (HTT.out q1.w q1.ext).mono ?_
  rintro e w9 hno'
  obtain ⟨z9, rfl, hno⟩ := hno'.split
  clear hno'
  refine hK _ _ ⟨fun w' => ∃ q : Later w9, w' = q.w, ⟨⟨w9, Ext.refl _⟩, rfl⟩, ?_⟩
  simp only [List.drop_succ_cons, List.drop_zero]
  have HFIN := Lib.hid (show ∀ W, Ext w9 W → TOut b ns fs (10 - lv) (WthG key lv (.trie r p a b' c d') new) w (.returned (.int .u64 z9)) W from fun W hW => by
    obtain ⟨ns9, fs9, z', hz', hm9, ho9, hg9, hu9, hf9, t9, ht9, hr9, hl9⟩ := hno.out
    injection hz' with h1
    injection h1 with _ h2
    subst h2
    exact ⟨ns9, fs9, z9, rfl, hm9.to hW, ((HOnly.out.ext q1.ext).trans ho9).ext hW, (HG77.out.trans hg9).more (by omega), hu9, (((HFar.out.trans (FarTo.ext q1.ext HM8.out.lt) HOnly.out.size).trans hf9 (Nat.le_trans HOnly.out.size q1.ext.size)).trans (FarTo.ext hW hm9.lt) (Nat.le_trans (Nat.le_trans HOnly.out.size q1.ext.size) ho9.size)), t9, ht9, hr9, by rw [hl9]; exact hperm.out⟩)
  clear hno HTT
  repeat (go_big_quiet_step (fail))
  refine wpQuiet_nil ?_
  rintro _ ⟨q2, rfl⟩
  go_wp2_with fail
  go_ret
  exact HFIN.out _ q2.ext

theorem htWth_is : ∀ t : HT, WthO t := by
  intro t
  induction t with
  | nil => exact fun lv b ns fs key new L n cL w h _ hg hL hlv hf => htWth_flat .nil (.inl rfl) lv b ns fs key new L n cL w h hg hL hlv hf
  | leaf y => exact fun lv b ns fs key new L n cL w h _ hg hL hlv hf => htWth_flat (.leaf y) (.inr ⟨y, rfl⟩) lv b ns fs key new L n cL w h hg hL hlv hf
  | clash r p ls => exact fun lv b ns fs key new L n cL w h _ hg hL hlv hf => hg.noClash.elim
  | trie r p a b' c d' iha ihb ihc ihd =>
    intro lv b ns fs key new L n cL w h hO hg hL hlv hf
    have hd := dig_rng key lv
    rcases (by omega : dig key lv = 0 ∨ dig key lv = 1 ∨ dig key lv = 2 ∨ dig key lv = 3) with hd | hd | hd | hd
    · exact htWth_0 r p a b' c d' iha lv b ns fs key new L n cL w h hO hg hL hlv hf hd
    · exact htWth_1 r p a b' c d' ihb lv b ns fs key new L n cL w h hO hg hL hlv hf hd
    · exact htWth_2 r p a b' c d' ihc lv b ns fs key new L n cL w h hO hg hL hlv hf hd
    · exact htWth_3 r p a b' c d' ihd lv b ns fs key new L n cL w h hO hg hL hlv hf hd

end Go.Proofs.Ytfoifcbaadnigaa
