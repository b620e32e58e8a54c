/-
  Contract of the document's Lay: a row is laid as a map from a place on.
-/
import Derived.Test.YthgaogbpkedjcaaLayMath
import Derived.Test.YthgaogbpkedjcaaRfIs
import Derived.Test.YthgaogbpkedjcaaGJ
set_option linter.unusedVariables false
set_option linter.unusedSimpArgs false
namespace Go.Proofs.Ythgaogbpkedjcaa
open Go.RowKit

theorem wp_store_cell1 {P : Program} {o : Oper} {a : Act} {w : World} {K : Act → World → Prop} {Q : Exit → Act → World → Prop} (ty : TypeId) (x y : Operand) (ho : o.op = .store ty x y)
    (b j : Nat) (hx : a.eval x = .pointer (some ⟨b, j, none⟩)) (v : Value) (hy : a.eval y = v) (h1 : v.oneCell' = true) (hi : (P.info? ty).map (·.size) = some 1) (cs : Array Value) (hB : Bx w b cs) (hj : j < cs.size)
    (h : ∀ W, Bx W b (cs.setIfInBounds j v) → Only b w W → K (a.put o.dst undef) W) : Oper.wp P o a w K Q := by
  unfold Oper.wp execOp
  simp only [ho, hx, hy, Instr.storeAt, Instr.sureAddr, Sem.run_bind, Sem.run_pure, Result.andThen_ok, run_storeVar_cell w b j ty v cs hB hj hi h1]
  exact h _ (hB.set hj v) ((Only.refl b w).set j v)

/-- A store into a block that is newer than w. -/
theorem Only.only_new {b b' : Nat} {w W W' : World} (h : Only b w W) (ho : Only b' W W') (hb : w.heap.size ≤ b') : Only b w W' :=
  ⟨ho.os.trans h.os, ho.tape.trans h.tape, ho.output.trans h.output, Nat.le_trans h.size ho.size, fun k hk hn => (ho.block k (Nat.lt_of_lt_of_le hk h.size) (fun e => by injection e with e; omega)).trans (h.block k hk hn)⟩

/-- What Lay does. -/
def LayA (g : Nat) (ns : List Nd) (p : Nat) (l : Row) (w : World) (e : Ending) (w' : World) : Prop :=
  ∃ ns' z, e = .returned (.int .u64 z) ∧ OwnN w' g ns' ∧ Only g w w' ∧ Laid ns ns' p l z

set_option maxHeartbeats 12800000 in
set_option maxRecDepth 100000 in
theorem lay_is (g n c : Nat) (Bz : Option Addr) (mz dz : Nat) (hn : n ≤ 512) : ∀ (m : Nat) (l : Row) (p : Nat) (ns : List Nd) (L : Option Addr) (cL : Nat) (w : World), l.length = m → m ≤ 1000 → m ≤ cL → cL ≤ maxLen → RdI w L m l → (m = 0 ∨ ∀ q, L = some q → q.block ≠ g) → Srt l → OwnN w g ns → ns.length = n → p + m ≤ n →
    Calls Try.prog 33 #[.agg #[.slice (some ⟨g, 0, none⟩) n c, .slice Bz mz dz], .int .i64 p, .slice L m cL] w (LayA g ns p l w) := by
  intro m
  induction m using Nat.strongRecOn with
  | _ m ih =>
  intro l p ns L cL w hlm hm hmc hcL hL hLg hs hO hns hpm
  obtain ⟨w1, hw1⟩ : ∃ w1, w1 = w.alloc (.cells #[.slice (some ⟨g, 0, none⟩) n c, .slice Bz mz dz] 25) := ⟨_, rfl⟩
  obtain ⟨B1, hx1, hs1⟩ := box_made hw1
  have HT := Lib.hid (top_is L m cL l w1 (hL.to hx1) hm hs)
  have H1 := Lib.hid hw1
  have X1 := Lib.hid hx1
  have HB1 := Lib.hid B1
  have hgw := Lib.hid hO.lt
  by_cases hnil : l = []
  · subst hnil
    have HF := Lib.hid (fun W (hW : Ext w W) => show LayA g ns p [] w (.returned (.int .u64 0)) W from ⟨ns, 0, rfl, hO.to hW, (Only.refl g w).ext hW, laid_nil ns p⟩)
    clear hw1 hx1 hs1 B1 ih hlm hmc hcL hL hs hm hO hns hpm hLg
    go_enter Try.func33, Try.ntmps33
    go_wp2_with fail
    rw [← H1.out]
    refine HT.out.mono ?_; rintro e w2 ⟨hh, hx2⟩
    obtain rfl : e = .returned (.int .i64 (-1)) := by
      rcases hh with ⟨_, h⟩ | ⟨a, k, v, b', h, _⟩
      · exact h
      · simp at h
    clear hh
    go_wp2_with fail
    go_ret
    exact HF.out _ (X1.out.step hx2)
  have HNIL := Lib.hid hnil
  have HIH := Lib.hid ih
  have HLM := Lib.hid hlm
  have HL := Lib.hid hL
  have HLG := Lib.hid (hLg.resolve_left (fun h0 => hnil (List.eq_nil_of_length_eq_zero (hlm.trans h0))))
  have HS := Lib.hid hs
  have HO := Lib.hid hO
  have HM := Lib.hid hm
  have HMC := Lib.hid hmc
  have HCL := Lib.hid hcL
  have HNS := Lib.hid hns
  have HPM := Lib.hid hpm
  clear hw1 hx1 hs1 B1 ih hlm hL hs hnil hm hmc hcL hO hns hpm hLg
  go_enter Try.func33, Try.ntmps33
  go_wp2_with fail
  rw [← H1.out]
  refine HT.out.mono ?_; rintro e w2 ⟨hh, hx2⟩
  rcases hh with ⟨h, _⟩ | ⟨a, k, v, bb, hl, ha, hbb, rfl⟩
  · exact absurd h HNIL.out
  obtain ⟨j, hj⟩ : ∃ j, j = a.length := ⟨_, rfl⟩
  rw [← hj]
  have HJ := Lib.hid hj
  have HLL := Lib.hid hl
  have HBa := Lib.hid ha
  have HBb := Lib.hid hbb
  have X2 := Lib.hid (X1.out.step hx2)
  have hj0 : ¬ ((j : Int) < 0) := by omega
  have hsp := Lib.hid (Srt.mid.1 (HLL.out ▸ HS.out))
  have hlen := Lib.hid (show m = j + 1 + bb.length by rw [← HLM.out, HLL.out, HJ.out]; simp; omega)
  have HBA2 := Lib.hid (HB1.out.to hx2)
  clear hl ha hbb hj hx2
  obtain ⟨adL, rfl, hit⟩ := HL.out.item (k := j) (x := (k, v)) (by rw [HLL.out, HJ.out]; simp)
  have HIT := Lib.hid (hit.to X2.out)
  have hjm : j < m := by have := hlen.out; omega
  have hmj : ¬ m ≤ j := by omega
  clear hit
  have s0 := HIT.out.1
  have s1 := HIT.out.2
  simp only at s0 s1
  have hm1000 := HM.out
  go_wp2_with fail
  go_region_held3 (fun W => W.cell? (adL.add (j * 2)) = some (.int .i64 k) ∧ W.cell? { block := (adL.add (j * 2)).block, off := (adL.add (j * 2)).off + 1 } = some (.int .i64 v)) (first | exact ⟨s0, s1⟩ | exact ⟨((Ext.refl w2).drew.new _).cellOf s0, ((Ext.refl w2).drew.new _).cellOf s1⟩ | go_keep) (fail)
  clear s0 s1
  obtain ⟨w5, hw5⟩ : ∃ w5, w5 = (w2.alloc (.cells #[.int .i64 1, .int .i64 0, .int .i64 k, .int .i64 v, .int .i64 m, .int .u64 0, .int .u64 0, .int .u64 0, .int .u64 0, .int .u64 0, .int .u64 0, .int .u64 0, .int .u64 0, .int .u64 0, .int .i64 0, .int .i64 0] 66)).drew := ⟨_, rfl⟩
  have B5 : Bx w5 w2.heap.size (trNd 0 k v m 0 0).arr := by rw [hw5]; exact (Bx.new w2 #[.int .i64 1, .int .i64 0, .int .i64 k, .int .i64 v, .int .i64 m, .int .u64 0, .int .u64 0, .int .u64 0, .int .u64 0, .int .u64 0, .int .u64 0, .int .u64 0, .int .u64 0, .int .u64 0, .int .i64 0, .int .i64 0] 66).drew
  have hx5 : Ext w2 w5 := by rw [hw5]; exact ((Ext.refl w2).new _).drew
  have HBA5 := Lib.hid (HBA2.out.to hx5)
  have X5 := Lib.hid (X2.out.step hx5)
  have HLT := Lib.hid (show w.heap.size < w2.heap.size from HBA2.out.lt)
  have HNE := Lib.hid (show w.heap.size ≠ g ∧ w2.heap.size ≠ g ∧ w.heap.size ≠ w2.heap.size from by have := hgw.out; have := HLT.out; omega)
  have HB5 := Lib.hid B5
  rw [← hw5]
  clear hw5 hx5 B5
  obtain ⟨SS, hSS⟩ : ∃ SS : World → Prop, SS = (fun W => W.cell? ⟨w.heap.size, 0, none⟩ = some (.slice (some ⟨g, 0, none⟩) n c) ∧ W.cell? ⟨w.heap.size, 1, none⟩ = some (.slice Bz mz dz)) := ⟨_, rfl⟩
  have mkS : ∀ W, Bx W w.heap.size #[.slice (some ⟨g, 0, none⟩) n c, .slice Bz mz dz] → SS W := fun W h1 => by rw [hSS]; exact ⟨h1.cell 0, h1.cell 1⟩
  have HMK := Lib.hid mkS
  have hS0 : SS w5.drew := mkS _ HBA5.out.drew
  have HSS := Lib.hid hSS
  have HRA := Lib.hid (show RdI w (some adL) j a from by
    have := HL.out.take (k := j) (by omega)
    rw [flat_take itc_length, HLL.out, HJ.out] at this
    rw [HJ.out]
    simpa using this)
  have hpn := HPM.out
  have e1 : IntKind.i64.wrap ((p : Int) + 1) = ((p + 1 : Nat) : Int) := by rw [IntKind.wrap_i64]; omega
  have e2 : IntKind.i64.wrap (((p + 1 : Nat) : Int) + (j : Int)) = ((p + 1 + j : Nat) : Int) := by rw [IntKind.wrap_i64]; omega
  have e3 : IntKind.i64.wrap ((j : Int) + 1) = ((j + 1 : Nat) : Int) := by rw [IntKind.wrap_i64]; omega
  have hjc : j ≤ cL := by have := HMC.out; omega
  have hcj : ¬ cL < j := by omega
  have hjc1 : j + 1 ≤ cL := by have := HMC.out; omega
  have hcj1 : ¬ cL < j + 1 := by omega
  have e40 : (0 : Int) ≤ (j : Int) + 1 := by omega
  have e41 : (j : Int) + 1 ≤ (m : Int) := by omega
  have hmj1 : ¬ m < j + 1 := by omega
  have hjm1 : j + 1 ≤ m := by omega
  have hmc := HMC.out
  have hcL := HCL.out
  simp only [maxLen] at hcL
  clear hSS mkS
  go_wp2_with fail
  refine wp_region_held (S := SS) (by kernel_rfl) ?_
  refine wpAnyH_take (i := 0) (v := .agg #[.slice (some ⟨g, 0, none⟩) n c, .slice Bz mz dz]) rfl (by kernel_rfl) (by kernel_rfl) (by kernel_rfl) (fun _ _ _ h => h) (Or.inl ⟨by rfl, by intro W hW; rw [HSS.out] at hW; obtain ⟨q0, q1⟩ := hW; go_simp⟩) hS0 ?_
  try simp only [Act.put, List.getElem_toArray, List.getElem_cons_succ, List.getElem_cons_zero, List.setIfInBounds_toArray, List.set_cons_zero, List.set_cons_succ]
  refine wpAnyH_take (i := 1) (v := .int .i64 p) rfl (by kernel_rfl) (by kernel_rfl) (by kernel_rfl) (fun _ _ _ h => h) (Or.inl ⟨by rfl, by intro W hW; rw [HSS.out] at hW; obtain ⟨q0, q1⟩ := hW; go_simp⟩) hS0 ?_
  try simp only [Act.put, List.getElem_toArray, List.getElem_cons_succ, List.getElem_cons_zero, List.setIfInBounds_toArray, List.set_cons_zero, List.set_cons_succ]
  refine wpAnyH_take (i := 2) (v := .int .i64 (IntKind.i64.wrap ((p : Int) + 1))) rfl (by kernel_rfl) (by kernel_rfl) (by kernel_rfl) (fun _ _ _ h => h) (Or.inl ⟨by rfl, by intro W hW; rw [HSS.out] at hW; obtain ⟨q0, q1⟩ := hW; go_simp⟩) hS0 ?_
  rw [e1]
  try simp only [Act.put, List.getElem_toArray, List.getElem_cons_succ, List.getElem_cons_zero, List.setIfInBounds_toArray, List.set_cons_zero, List.set_cons_succ]
  refine wpAnyH_take (i := 3) (v := .slice (some adL) m cL) rfl (by kernel_rfl) (by kernel_rfl) (by kernel_rfl) (fun _ _ _ h => h) (Or.inl ⟨by rfl, by intro W hW; rw [HSS.out] at hW; obtain ⟨q0, q1⟩ := hW; go_simp⟩) hS0 ?_
  try simp only [Act.put, List.getElem_toArray, List.getElem_cons_succ, List.getElem_cons_zero, List.setIfInBounds_toArray, List.set_cons_zero, List.set_cons_succ]
  refine wpAnyH_take (i := 4) (v := .int .i64 j) rfl (by kernel_rfl) (by kernel_rfl) (by kernel_rfl) (fun _ _ _ h => h) (Or.inl ⟨by rfl, by intro W hW; rw [HSS.out] at hW; obtain ⟨q0, q1⟩ := hW; go_simp⟩) hS0 ?_
  try simp only [Act.put, List.getElem_toArray, List.getElem_cons_succ, List.getElem_cons_zero, List.setIfInBounds_toArray, List.set_cons_zero, List.set_cons_succ]
  refine wpAnyH_take (i := 5) (v := .slice (some adL) j cL) rfl (by kernel_rfl) (by kernel_rfl) (by kernel_rfl) (fun _ _ _ h => h) (Or.inl ⟨by rfl, by intro W hW; rw [HSS.out] at hW; obtain ⟨q0, q1⟩ := hW; go_simp⟩) hS0 ?_
  try simp only [Act.put, List.getElem_toArray, List.getElem_cons_succ, List.getElem_cons_zero, List.setIfInBounds_toArray, List.set_cons_zero, List.set_cons_succ]
  refine wpAnyH_take (i := 7) (v := .pointer (some ⟨w2.heap.size, 5, none⟩)) rfl (by kernel_rfl) (by kernel_rfl) (by kernel_rfl) (fun _ _ _ h => h) (Or.inl ⟨by rfl, by intro W hW; rw [HSS.out] at hW; obtain ⟨q0, q1⟩ := hW; go_simp⟩) hS0 ?_
  try simp only [Act.put, List.getElem_toArray, List.getElem_cons_succ, List.getElem_cons_zero, List.setIfInBounds_toArray, List.set_cons_zero, List.set_cons_succ]
  refine held_one2 (i := 6) (by kernel_rfl) rfl (by rfl) ?_
  go_simp
  refine (HIH.out j hjm a (p + 1) ns (some adL) cL w5.drew HJ.out.symm (by omega) (by omega) HCL.out (HRA.out.to X5.out.drew) (.inr HLG.out) hsp.out.1 (HO.out.to X5.out.drew) HNS.out (by omega)).mono ?_
  rintro e w6 ⟨ns1, z1, rfl, hO1, ho1, hL1⟩
  have HA6 := Lib.hid (ho1.bx HBA5.out.drew HNE.out.1)
  have HB6 := Lib.hid (ho1.bx HB5.out.drew HNE.out.2.1)
  have HO6 := Lib.hid hO1
  have HLaid1 := Lib.hid hL1
  have XO6 := Lib.hid (((Only.refl g w).ext X5.out.drew).trans ho1)
  refine ⟨HMK.out _ HA6.out, ?_⟩
  clear hS0 hO1 ho1 hL1
  try simp only [Act.put, List.getElem_toArray, List.getElem_cons_succ, List.getElem_cons_zero, List.setIfInBounds_toArray, List.set_cons_zero, List.set_cons_succ]
  refine held_one2 (i := 8) (by kernel_rfl) rfl (by rfl) ?_
  go_simp
  refine ⟨HMK.out _ HA6.out, ?_⟩
  try simp only [Act.put, List.getElem_toArray, List.getElem_cons_succ, List.getElem_cons_zero, List.setIfInBounds_toArray, List.set_cons_zero, List.set_cons_succ]
  refine held_one2 (i := 9) (by kernel_rfl) rfl (by rfl) ?_
  refine wp_store_cell1 27 (.tmp 34) (.tmp 32) (by rfl) w2.heap.size 5 (by rfl) (.int .u64 z1) (by rfl) rfl (by kernel_rfl) _ HB6.out (by rw [Nd.arr_size]; omega) ?_
  intro w7 B7 O7
  have HB7 := Lib.hid (show Bx w7 w2.heap.size (trNd 0 k v m z1 0).arr from B7)
  have HA7 := Lib.hid (O7.bx HA6.out HNE.out.2.2)
  have HO7 := Lib.hid (HO6.out.only O7 HNE.out.2.1.symm)
  refine ⟨HMK.out _ HA7.out, ?_⟩
  try simp only [Act.put, List.getElem_toArray, List.getElem_cons_succ, List.getElem_cons_zero, List.setIfInBounds_toArray, List.set_cons_zero, List.set_cons_succ]
  refine ⟨by kernel_rfl, ?_⟩
  have XO7 := Lib.hid (XO6.out.only_new O7 (Nat.le_of_lt HLT.out))
  clear B7 O7
  have hS0 : SS w7.drew := HMK.out _ HA7.out.drew
  by_cases hcap : cL = j + 1
  · have hbn : bb = [] := List.eq_nil_of_length_eq_zero (by have := hlen.out; omega)
    have hmm : m - (j + 1) = 0 := by omega
    have hmm2 : cL - (j + 1) = 0 := by omega
    subst hbn
    go_wp2_with fail
    refine wp_region_held (S := SS) (by kernel_rfl) ?_
    refine wpAnyH_take (i := 0) (v := .agg #[.slice (some ⟨g, 0, none⟩) n c, .slice Bz mz dz]) rfl (by kernel_rfl) (by kernel_rfl) (by kernel_rfl) (fun _ _ _ h => h) (Or.inl ⟨by rfl, by intro W hW; rw [HSS.out] at hW; obtain ⟨q0, q1⟩ := hW; go_simp⟩) hS0 ?_
    try simp only [Act.put, List.getElem_toArray, List.getElem_cons_succ, List.getElem_cons_zero, List.setIfInBounds_toArray, List.set_cons_zero, List.set_cons_succ]
    refine wpAnyH_take (i := 1) (v := .int .i64 p) rfl (by kernel_rfl) (by kernel_rfl) (by kernel_rfl) (fun _ _ _ h => h) (Or.inl ⟨by rfl, by intro W hW; rw [HSS.out] at hW; obtain ⟨q0, q1⟩ := hW; go_simp⟩) hS0 ?_
    try simp only [Act.put, List.getElem_toArray, List.getElem_cons_succ, List.getElem_cons_zero, List.setIfInBounds_toArray, List.set_cons_zero, List.set_cons_succ]
    refine wpAnyH_take (i := 2) (v := .int .i64 (IntKind.i64.wrap ((p : Int) + 1))) rfl (by kernel_rfl) (by kernel_rfl) (by kernel_rfl) (fun _ _ _ h => h) (Or.inl ⟨by rfl, by intro W hW; rw [HSS.out] at hW; obtain ⟨q0, q1⟩ := hW; go_simp⟩) hS0 ?_
    rw [e1]
    try simp only [Act.put, List.getElem_toArray, List.getElem_cons_succ, List.getElem_cons_zero, List.setIfInBounds_toArray, List.set_cons_zero, List.set_cons_succ]
    refine wpAnyH_take (i := 3) (v := .int .i64 j) rfl (by kernel_rfl) (by kernel_rfl) (by kernel_rfl) (fun _ _ _ h => h) (Or.inl ⟨by rfl, by intro W hW; rw [HSS.out] at hW; obtain ⟨q0, q1⟩ := hW; go_simp⟩) hS0 ?_
    try simp only [Act.put, List.getElem_toArray, List.getElem_cons_succ, List.getElem_cons_zero, List.setIfInBounds_toArray, List.set_cons_zero, List.set_cons_succ]
    refine wpAnyH_take (i := 4) (v := .int .i64 (IntKind.i64.wrap (((p + 1 : Nat) : Int) + (j : Int)))) rfl (by kernel_rfl) (by kernel_rfl) (by kernel_rfl) (fun _ _ _ h => h) (Or.inl ⟨by rfl, by intro W hW; rw [HSS.out] at hW; obtain ⟨q0, q1⟩ := hW; go_simp⟩) hS0 ?_
    rw [e2]
    try simp only [Act.put, List.getElem_toArray, List.getElem_cons_succ, List.getElem_cons_zero, List.setIfInBounds_toArray, List.set_cons_zero, List.set_cons_succ]
    refine wpAnyH_take (i := 5) (v := .slice (some adL) m cL) rfl (by kernel_rfl) (by kernel_rfl) (by kernel_rfl) (fun _ _ _ h => h) (Or.inl ⟨by rfl, by intro W hW; rw [HSS.out] at hW; obtain ⟨q0, q1⟩ := hW; go_simp⟩) hS0 ?_
    try simp only [Act.put, List.getElem_toArray, List.getElem_cons_succ, List.getElem_cons_zero, List.setIfInBounds_toArray, List.set_cons_zero, List.set_cons_succ]
    refine wpAnyH_take (i := 6) (v := .int .i64 j) rfl (by kernel_rfl) (by kernel_rfl) (by kernel_rfl) (fun _ _ _ h => h) (Or.inl ⟨by rfl, by intro W hW; rw [HSS.out] at hW; obtain ⟨q0, q1⟩ := hW; go_simp⟩) hS0 ?_
    try simp only [Act.put, List.getElem_toArray, List.getElem_cons_succ, List.getElem_cons_zero, List.setIfInBounds_toArray, List.set_cons_zero, List.set_cons_succ]
    refine wpAnyH_take (i := 7) (v := .int .i64 (IntKind.i64.wrap ((j : Int) + 1))) rfl (by kernel_rfl) (by kernel_rfl) (by kernel_rfl) (fun _ _ _ h => h) (Or.inl ⟨by rfl, by intro W hW; rw [HSS.out] at hW; obtain ⟨q0, q1⟩ := hW; go_simp⟩) hS0 ?_
    rw [e3]
    try simp only [Act.put, List.getElem_toArray, List.getElem_cons_succ, List.getElem_cons_zero, List.setIfInBounds_toArray, List.set_cons_zero, List.set_cons_succ]
    refine wpAnyH_take (i := 8) (v := .slice (some adL) 0 0) rfl (by kernel_rfl) (by kernel_rfl) (by kernel_rfl) (fun _ _ _ h => h) (Or.inl ⟨by rfl, by intro W hW; rw [HSS.out] at hW; obtain ⟨q0, q1⟩ := hW; go_simp⟩) hS0 ?_
    try simp only [Act.put, List.getElem_toArray, List.getElem_cons_succ, List.getElem_cons_zero, List.setIfInBounds_toArray, List.set_cons_zero, List.set_cons_succ]
    refine wpAnyH_take (i := 10) (v := .pointer (some ⟨w2.heap.size, 5, none⟩)) rfl (by kernel_rfl) (by kernel_rfl) (by kernel_rfl) (fun _ _ _ h => h) (Or.inl ⟨by rfl, by intro W hW; rw [HSS.out] at hW; obtain ⟨q0, q1⟩ := hW; go_simp⟩) hS0 ?_
    try simp only [Act.put, List.getElem_toArray, List.getElem_cons_succ, List.getElem_cons_zero, List.setIfInBounds_toArray, List.set_cons_zero, List.set_cons_succ]
    refine held_one2 (i := 9) (by kernel_rfl) rfl (by rfl) ?_
    go_simp
    refine (HIH.out 0 (by omega) [] (p + 1 + j) ns1 (some adL) 0 w7.drew (by have := hlen.out; omega) (by omega) (by omega) (by simp only [maxLen]; omega) (Rd.nil _ _ _) (.inr HLG.out) hsp.out.2.1 (HO7.out.to (Ext.refl w7).drew) (HLaid1.out.len.trans HNS.out) (by omega)).mono ?_
    rintro e w8 ⟨ns2, z2, rfl, hO2, ho2, hL2⟩
    have HA8 := Lib.hid (ho2.bx HA7.out.drew HNE.out.1)
    have HB8 := Lib.hid (ho2.bx HB7.out.drew HNE.out.2.1)
    have HO8 := Lib.hid hO2
    have HLaid2 := Lib.hid hL2
    have XO8 := Lib.hid ((XO7.out.ext (Ext.refl w7).drew).trans ho2)
    refine ⟨HMK.out _ HA8.out, ?_⟩
    clear hS0 hO2 ho2 hL2
    try simp only [Act.put, List.getElem_toArray, List.getElem_cons_succ, List.getElem_cons_zero, List.setIfInBounds_toArray, List.set_cons_zero, List.set_cons_succ]
    refine held_one2 (i := 11) (by kernel_rfl) rfl (by rfl) ?_
    go_simp
    refine ⟨HMK.out _ HA8.out, ?_⟩
    try simp only [Act.put, List.getElem_toArray, List.getElem_cons_succ, List.getElem_cons_zero, List.setIfInBounds_toArray, List.set_cons_zero, List.set_cons_succ]
    refine held_one2 (i := 12) (by kernel_rfl) rfl (by rfl) ?_
    refine wp_store_cell1 27 (.tmp 46) (.tmp 44) (by rfl) w2.heap.size 6 (by rfl) (.int .u64 z2) (by rfl) rfl (by kernel_rfl) _ HB8.out (by rw [Nd.arr_size]; omega) ?_
    intro w9 B9 O9
    have B9' : Bx w9 w2.heap.size (trNd 0 k v m z1 z2).arr := B9
    have HA9 := Lib.hid (O9.bx HA8.out HNE.out.2.2)
    have HO9 := Lib.hid (HO8.out.only O9 HNE.out.2.1.symm)
    have XO9 := Lib.hid (XO8.out.only_new O9 (Nat.le_of_lt HLT.out))
    refine ⟨HMK.out _ HA9.out, ?_⟩
    try simp only [Act.put, List.getElem_toArray, List.getElem_cons_succ, List.getElem_cons_zero, List.setIfInBounds_toArray, List.set_cons_zero, List.set_cons_succ]
    refine ⟨by kernel_rfl, ?_⟩
    obtain ⟨y, hy⟩ : ∃ y, y = trNd 0 k v m z1 z2 := ⟨_, rfl⟩
    rw [← hy] at B9'
    have ny := B9'.node
    have k0 : w9.cell? ⟨w.heap.size, 0, none⟩ = some (.slice (some ⟨g, 0, none⟩) n c) := HA9.out.cell 0
    have hpl : p < ns2.length := by rw [HLaid2.out.len, HLaid1.out.len, HNS.out]; omega
    have HFIN := Lib.hid (show Laid ns (ns2.set p y) p l ((p + 1 : Nat) : Int) by
      rw [hy, HLL.out]
      exact laid_node HLaid1.out (by rw [← HJ.out]; exact HLaid2.out) HBa.out HBb.out (by rw [HNS.out]; have := hlen.out; have := HJ.out; omega) (by rw [HNS.out]; exact hn) m (by rw [hlen.out, HJ.out]; omega))
    have hpn1 : p < n := by omega
    have hnp : ¬ n ≤ p := by omega
    have hp0 : ¬ ((p : Int) < 0) := by omega
    have eu : IntKind.u64.wrap ((p + 1 : Nat) : Int) = ((p + 1 : Nat) : Int) := by rw [IntKind.wrap_u64]; omega
    clear B9 O9 B9' hy e2 e3 hjc hcj hjc1 hcj1 hmj1 hjm1 hmc hcL e40 e41
    go_wp2_with (first
      | (refine wpList_load_nd (by rfl) _ (by rfl) _ (by rfl) y ny ?_)
      | (refine wpList_store_in (by rfl) _ _ (by rfl) g p (by rfl) y (by rfl) ns2 HO9.out hpl ?_
         intro w10 N10 O10))
    go_ret
    exact ⟨_, _, rfl, N10, XO9.out.trans O10, HFIN.out⟩
  · go_wp2_with fail
    refine wp_region_held (S := SS) (by kernel_rfl) ?_
    refine wpAnyH_take (i := 0) (v := .agg #[.slice (some ⟨g, 0, none⟩) n c, .slice Bz mz dz]) rfl (by kernel_rfl) (by kernel_rfl) (by kernel_rfl) (fun _ _ _ h => h) (Or.inl ⟨by rfl, by intro W hW; rw [HSS.out] at hW; obtain ⟨q0, q1⟩ := hW; go_simp⟩) hS0 ?_
    try simp only [Act.put, List.getElem_toArray, List.getElem_cons_succ, List.getElem_cons_zero, List.setIfInBounds_toArray, List.set_cons_zero, List.set_cons_succ]
    refine wpAnyH_take (i := 1) (v := .int .i64 p) rfl (by kernel_rfl) (by kernel_rfl) (by kernel_rfl) (fun _ _ _ h => h) (Or.inl ⟨by rfl, by intro W hW; rw [HSS.out] at hW; obtain ⟨q0, q1⟩ := hW; go_simp⟩) hS0 ?_
    try simp only [Act.put, List.getElem_toArray, List.getElem_cons_succ, List.getElem_cons_zero, List.setIfInBounds_toArray, List.set_cons_zero, List.set_cons_succ]
    refine wpAnyH_take (i := 2) (v := .int .i64 (IntKind.i64.wrap ((p : Int) + 1))) rfl (by kernel_rfl) (by kernel_rfl) (by kernel_rfl) (fun _ _ _ h => h) (Or.inl ⟨by rfl, by intro W hW; rw [HSS.out] at hW; obtain ⟨q0, q1⟩ := hW; go_simp⟩) hS0 ?_
    rw [e1]
    try simp only [Act.put, List.getElem_toArray, List.getElem_cons_succ, List.getElem_cons_zero, List.setIfInBounds_toArray, List.set_cons_zero, List.set_cons_succ]
    refine wpAnyH_take (i := 3) (v := .int .i64 j) rfl (by kernel_rfl) (by kernel_rfl) (by kernel_rfl) (fun _ _ _ h => h) (Or.inl ⟨by rfl, by intro W hW; rw [HSS.out] at hW; obtain ⟨q0, q1⟩ := hW; go_simp⟩) hS0 ?_
    try simp only [Act.put, List.getElem_toArray, List.getElem_cons_succ, List.getElem_cons_zero, List.setIfInBounds_toArray, List.set_cons_zero, List.set_cons_succ]
    refine wpAnyH_take (i := 4) (v := .int .i64 (IntKind.i64.wrap (((p + 1 : Nat) : Int) + (j : Int)))) rfl (by kernel_rfl) (by kernel_rfl) (by kernel_rfl) (fun _ _ _ h => h) (Or.inl ⟨by rfl, by intro W hW; rw [HSS.out] at hW; obtain ⟨q0, q1⟩ := hW; go_simp⟩) hS0 ?_
    rw [e2]
    try simp only [Act.put, List.getElem_toArray, List.getElem_cons_succ, List.getElem_cons_zero, List.setIfInBounds_toArray, List.set_cons_zero, List.set_cons_succ]
    refine wpAnyH_take (i := 5) (v := .slice (some adL) m cL) rfl (by kernel_rfl) (by kernel_rfl) (by kernel_rfl) (fun _ _ _ h => h) (Or.inl ⟨by rfl, by intro W hW; rw [HSS.out] at hW; obtain ⟨q0, q1⟩ := hW; go_simp⟩) hS0 ?_
    try simp only [Act.put, List.getElem_toArray, List.getElem_cons_succ, List.getElem_cons_zero, List.setIfInBounds_toArray, List.set_cons_zero, List.set_cons_succ]
    refine wpAnyH_take (i := 6) (v := .int .i64 j) rfl (by kernel_rfl) (by kernel_rfl) (by kernel_rfl) (fun _ _ _ h => h) (Or.inl ⟨by rfl, by intro W hW; rw [HSS.out] at hW; obtain ⟨q0, q1⟩ := hW; go_simp⟩) hS0 ?_
    try simp only [Act.put, List.getElem_toArray, List.getElem_cons_succ, List.getElem_cons_zero, List.setIfInBounds_toArray, List.set_cons_zero, List.set_cons_succ]
    refine wpAnyH_take (i := 7) (v := .int .i64 (IntKind.i64.wrap ((j : Int) + 1))) rfl (by kernel_rfl) (by kernel_rfl) (by kernel_rfl) (fun _ _ _ h => h) (Or.inl ⟨by rfl, by intro W hW; rw [HSS.out] at hW; obtain ⟨q0, q1⟩ := hW; go_simp⟩) hS0 ?_
    rw [e3]
    try simp only [Act.put, List.getElem_toArray, List.getElem_cons_succ, List.getElem_cons_zero, List.setIfInBounds_toArray, List.set_cons_zero, List.set_cons_succ]
    refine wpAnyH_take (i := 8) (v := .slice (some (adL.add ((j + 1) * 2))) (m - (j + 1)) (cL - (j + 1))) rfl (by kernel_rfl) (by kernel_rfl) (by kernel_rfl) (fun _ _ _ h => h) (Or.inl ⟨by rfl, by intro W hW; rw [HSS.out] at hW; obtain ⟨q0, q1⟩ := hW; go_simp⟩) hS0 ?_
    try simp only [Act.put, List.getElem_toArray, List.getElem_cons_succ, List.getElem_cons_zero, List.setIfInBounds_toArray, List.set_cons_zero, List.set_cons_succ]
    refine wpAnyH_take (i := 10) (v := .pointer (some ⟨w2.heap.size, 5, none⟩)) rfl (by kernel_rfl) (by kernel_rfl) (by kernel_rfl) (fun _ _ _ h => h) (Or.inl ⟨by rfl, by intro W hW; rw [HSS.out] at hW; obtain ⟨q0, q1⟩ := hW; go_simp⟩) hS0 ?_
    try simp only [Act.put, List.getElem_toArray, List.getElem_cons_succ, List.getElem_cons_zero, List.setIfInBounds_toArray, List.set_cons_zero, List.set_cons_succ]
    refine held_one2 (i := 9) (by kernel_rfl) rfl (by rfl) ?_
    go_simp
    refine (HIH.out ((m - (j + 1))) (by omega) bb (p + 1 + j) ns1 (some (adL.add ((j + 1) * 2))) (cL - (j + 1)) w7.drew (by have := hlen.out; omega) (by omega) (by omega) (by simp only [maxLen]; omega) (XO7.out.drew.rd (RdI.drop (a := a ++ [(k, v)]) (by have h0 := HL.out; rw [HLL.out] at h0; simpa using h0) (by simp; exact HJ.out.symm)) (fun q hq => by injection hq with hq; subst hq; rw [addr_block]; exact HLG.out _ rfl)) (.inr (fun q hq => by injection hq with hq; subst hq; rw [addr_block]; exact HLG.out _ rfl)) hsp.out.2.1 (HO7.out.to (Ext.refl w7).drew) (HLaid1.out.len.trans HNS.out) (by omega)).mono ?_
    rintro e w8 ⟨ns2, z2, rfl, hO2, ho2, hL2⟩
    have HA8 := Lib.hid (ho2.bx HA7.out.drew HNE.out.1)
    have HB8 := Lib.hid (ho2.bx HB7.out.drew HNE.out.2.1)
    have HO8 := Lib.hid hO2
    have HLaid2 := Lib.hid hL2
    have XO8 := Lib.hid ((XO7.out.ext (Ext.refl w7).drew).trans ho2)
    refine ⟨HMK.out _ HA8.out, ?_⟩
    clear hS0 hO2 ho2 hL2
    try simp only [Act.put, List.getElem_toArray, List.getElem_cons_succ, List.getElem_cons_zero, List.setIfInBounds_toArray, List.set_cons_zero, List.set_cons_succ]
    refine held_one2 (i := 11) (by kernel_rfl) rfl (by rfl) ?_
    go_simp
    refine ⟨HMK.out _ HA8.out, ?_⟩
    try simp only [Act.put, List.getElem_toArray, List.getElem_cons_succ, List.getElem_cons_zero, List.setIfInBounds_toArray, List.set_cons_zero, List.set_cons_succ]
    refine held_one2 (i := 12) (by kernel_rfl) rfl (by rfl) ?_
    refine wp_store_cell1 27 (.tmp 46) (.tmp 44) (by rfl) w2.heap.size 6 (by rfl) (.int .u64 z2) (by rfl) rfl (by kernel_rfl) _ HB8.out (by rw [Nd.arr_size]; omega) ?_
    intro w9 B9 O9
    have B9' : Bx w9 w2.heap.size (trNd 0 k v m z1 z2).arr := B9
    have HA9 := Lib.hid (O9.bx HA8.out HNE.out.2.2)
    have HO9 := Lib.hid (HO8.out.only O9 HNE.out.2.1.symm)
    have XO9 := Lib.hid (XO8.out.only_new O9 (Nat.le_of_lt HLT.out))
    refine ⟨HMK.out _ HA9.out, ?_⟩
    try simp only [Act.put, List.getElem_toArray, List.getElem_cons_succ, List.getElem_cons_zero, List.setIfInBounds_toArray, List.set_cons_zero, List.set_cons_succ]
    refine ⟨by kernel_rfl, ?_⟩
    obtain ⟨y, hy⟩ : ∃ y, y = trNd 0 k v m z1 z2 := ⟨_, rfl⟩
    rw [← hy] at B9'
    have ny := B9'.node
    have k0 : w9.cell? ⟨w.heap.size, 0, none⟩ = some (.slice (some ⟨g, 0, none⟩) n c) := HA9.out.cell 0
    have hpl : p < ns2.length := by rw [HLaid2.out.len, HLaid1.out.len, HNS.out]; omega
    have HFIN := Lib.hid (show Laid ns (ns2.set p y) p l ((p + 1 : Nat) : Int) by
      rw [hy, HLL.out]
      exact laid_node HLaid1.out (by rw [← HJ.out]; exact HLaid2.out) HBa.out HBb.out (by rw [HNS.out]; have := hlen.out; have := HJ.out; omega) (by rw [HNS.out]; exact hn) m (by rw [hlen.out, HJ.out]; omega))
    have hpn1 : p < n := by omega
    have hnp : ¬ n ≤ p := by omega
    have hp0 : ¬ ((p : Int) < 0) := by omega
    have eu : IntKind.u64.wrap ((p + 1 : Nat) : Int) = ((p + 1 : Nat) : Int) := by rw [IntKind.wrap_u64]; omega
    clear B9 O9 B9' hy e2 e3 hjc hcj hjc1 hcj1 hmj1 hjm1 hmc hcL e40 e41
    go_wp2_with (first
      | (refine wpList_load_nd (by rfl) _ (by rfl) _ (by rfl) y ny ?_)
      | (refine wpList_store_in (by rfl) _ _ (by rfl) g p (by rfl) y (by rfl) ns2 HO9.out hpl ?_
         intro w10 N10 O10))
    go_ret
    exact ⟨_, _, rfl, N10, XO9.out.trans O10, HFIN.out⟩

end Go.Proofs.Ythgaogbpkedjcaa
