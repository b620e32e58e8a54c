/-
  Contract: the way down a map to a border (down).
-/
import Derived.Test.YthgaogbpkedjcaaGI
import Derived.Test.YthgaogbpkedjcaaRfLay
set_option linter.unusedVariables false
set_option linter.unusedSimpArgs false
namespace Go.Proofs.Ythgaogbpkedjcaa
open Go.RowKit

/-- What down tells. -/
def DownA (q : Nat × Int × Int) (w : World) (e : Ending) (w' : World) : Prop := e = .returned (.agg #[.int .i64 q.1, .int .u64 q.2.1, .int .u64 q.2.2]) ∧ Ext w w'

set_option maxHeartbeats 6400000 in
set_option maxRecDepth 100000 in
theorem down_is (F bx : Nat) (val : Value) (f : Int → Int → Bool) (A B : Option Addr) (n c m d : Nat) (ns : List Nd) (t : T) (w : World) (hR : Rep ns t) (hz : t.size ≤ 200) (hU : U t.ref) (h : Rd w 16 A n (flat Nd.cells ns)) (hok : ∀ x ∈ ns, x.Ok)
    (hcf : ∀ (args : Array Value) (w : World), (callFunc F args).run Try.prog w = .ok (.enter F args) w) (hbx : Bx w bx #[val])
    (hcl : ∀ (k p : Int) (W : World), Bx W bx #[val] → Calls Try.prog F #[.int .i64 k, .int .i64 p, .pointer (some ⟨bx, 0, none⟩)] W fun e w' => e = .returned (.bool (f k p)) ∧ Ext W w') :
    Calls Try.prog 49 #[.agg #[.slice A n c, .slice B m d], .int .u64 t.ref, .func (.func F) #[] #[.pointer (some ⟨bx, 0, none⟩)]] w (DownA (dn f t 0 0 0) w) := by
  obtain ⟨w1, hw1⟩ : ∃ w1, w1 = w.alloc (.cells #[.slice A n c, .slice B m d] 25) := ⟨_, rfl⟩
  obtain ⟨w2, hw2⟩ : ∃ w2, w2 = w1.alloc (.cells #[.int .i64 0, .int .u64 0, .int .u64 0] 89) := ⟨_, rfl⟩
  obtain ⟨w3, hw3⟩ : ∃ w3, w3 = w2.alloc (.cells #[.int .i64 0, .int .u64 0, .int .u64 0] 89) := ⟨_, rfl⟩
  obtain ⟨B1, hx1, hs1⟩ := box_made hw1
  obtain ⟨B2, hx2, hs2⟩ := box_made hw2
  obtain ⟨B3, hx3, hs3⟩ := box_made hw3
  rw [hs1] at B2
  rw [hs2, hs1] at B3
  have H1 := Lib.hid hw1
  have H2 := Lib.hid hw2
  have H3 := Lib.hid hw3
  have X3 := Lib.hid (hx1.step (hx2.step hx3))
  have HB1 := Lib.hid (B1.to (hx2.step hx3))
  have HB2 := Lib.hid (B2.to hx3)
  have HB3 := Lib.hid B3
  have HA := Lib.hid h
  have HOK := Lib.hid hok
  have HCL0 := Lib.hid hcl
  have HBF := Lib.hid hbx
  have hlt := Lib.hid hbx.lt
  obtain ⟨ba, hba⟩ : ∃ b, b = w.heap.size := ⟨_, rfl⟩
  obtain ⟨br, hbr⟩ : ∃ b, b = w.heap.size + 1 := ⟨_, rfl⟩
  obtain ⟨b7, hb7⟩ : ∃ b, b = w.heap.size + 1 + 1 := ⟨_, rfl⟩
  rw [← hba] at HB1
  rw [← hbr] at HB2
  rw [← hb7] at HB3
  have HLT := Lib.hid (show ba = w.heap.size ∧ br = w.heap.size + 1 ∧ b7 = w.heap.size + 2 ∧ b7 < w3.heap.size from ⟨hba, hbr, by omega, HB3.out.lt⟩)
  have Hba := Lib.hid hba
  have Hbr := Lib.hid hbr
  have Hb7 := Lib.hid hb7
  clear hw1 hw2 hw3 B1 B2 B3 hx1 hx2 hx3 hs1 hs2 hs3 h hok hcl hbx hba hbr hb7
  go_enter Try.func49, Try.ntmps49
  go_wp2_with fail
  rw [← H1.out, ← H2.out, ← H3.out, ← Hb7.out, ← Hbr.out, ← Hba.out]
  go_loopw [1] (fun v wr => Hid (Ext w wr) ∧ ∃ (u : T) (z : Int) (p : Nat) (x y : Int), v = .int .u64 z ∧ U z ∧ Hid (u.ref = z) ∧ Hid (Rep ns u) ∧ Hid (u.size ≤ 200) ∧ Hid (dn f u p x y = dn f t 0 0 0) ∧ Hid (p + u.size ≤ 200) ∧ Hid (Bx wr b7 #[.int .i64 p, .int .u64 x, .int .u64 y]) ∧ Hid (Bx wr ba #[.slice A n c, .slice B m d]) ∧ Hid (Bx wr br #[.int .i64 0, .int .u64 0, .int .u64 0]) ∧ Hid (b7 < wr.heap.size)) (fun v _ => big ns v)
  case atStart => exact ⟨X3, t, _, 0, 0, 0, rfl, hU, Lib.hid rfl, Lib.hid hR, Lib.hid hz, Lib.hid rfl, Lib.hid (by omega), HB3, HB1, HB2, Lib.hid HLT.out.2.2.2⟩
  case round =>
    obtain ⟨hx, u, z, p, x, y, rfl, hUu, hzr, hRu, hzu, hdn, hpz, hB7, hBa, hBr, hb7s⟩ := hrel
    rename World => w4
    have q0 : w4.cell? ⟨ba, 0, none⟩ = some (.slice A n c) := hBa.out.cell 0
    have q1 : w4.cell? ⟨ba, 1, none⟩ = some (.slice B m d) := hBa.out.cell 1
    cases u with
    | nil =>
      obtain rfl : (0 : Int) = z := hzr.out
      have HE := Lib.hid (show dn f t 0 0 0 = (p, x, y) by rw [← hdn.out]; rfl)
      have m0 : w4.cell? ⟨b7, 0, none⟩ = some (.int .i64 p) := hB7.out.cell 0
      have m1 : w4.cell? ⟨b7, 1, none⟩ = some (.int .u64 x) := hB7.out.cell 1
      have m2 : w4.cell? ⟨b7, 2, none⟩ = some (.int .u64 y) := hB7.out.cell 2
      clear hRu hzu hzr hdn
      have f0 := hBr.out.free 0
      have f1 := hBr.out.free 1
      have f2 := hBr.out.free 2
      have g0 := hBr.out.cell 0
      have g1 := hBr.out.cell 1
      have g2 := hBr.out.cell 2
      simp only [List.getElem?_toArray, List.getElem?_cons_zero, List.getElem?_cons_succ] at g0 g1 g2
      go_wp2_with fail
      refine bodyPost_ret (results_bd1 rfl _ _ br #[.int .i64 p, .int .u64 x, .int .u64 y] (by rfl) (((hBr.out.set (j := 0) (by simp) _).set (j := 1) (by simp) _).set (j := 2) (by simp) _) rfl) rfl ⟨?_, ?_⟩
      · rw [HE.out]
      · exact ((((Only.refl br w4).set 0 _).set 1 _).set 2 _).new hx.out (by have := HLT.out; omega)
    | node r l k v u =>
      obtain rfl : r = z := hzr.out
      clear hzr
      obtain ⟨g, hnode⟩ := hRu.out.node
      have hkids := Lib.hid (hRu.out.kids HOK.out)
      have hr0 : (r != 0) = true := by simp [hRu.out.ref_nz]
      have HN := Lib.hid (orNode_is A B n c m d ns r w4 hUu.1 hUu.2 (HA.out.to hx.out))
      rw [hnode] at HN
      have hsz := Lib.hid (big_rep hRu.out hzu.out)
      have hz' := Lib.hid (show l.size ≤ 200 ∧ u.size ≤ 200 by have := hzu.out; simp only [T.size] at this; omega)
      have hl := Lib.hid (big_rep hRu.out.2.1 hz'.out.1)
      have hu := Lib.hid (big_rep hRu.out.2.2 hz'.out.2)
      rw [show (T.node r l k v u).ref = r from rfl] at hsz
      have hHS := Lib.hid (fun W (hW : Ext w W) => orSize_is A B n c m d ns l.ref W hkids.out.1.1 hkids.out.1.2 (HA.out.to hW))
      rw [rep_s hRu.out.2.1] at hHS
      clear hnode
      go_wp2_with fail
      refine HN.out.mono ?_; rintro e w5 ⟨rfl, hx5⟩
      obtain ⟨w6, hw6⟩ : ∃ w6, w6 = w5.alloc (.cells (trNd g k v ((l.size + u.size + 1 : Nat) : Int) l.ref u.ref).arr 66) := ⟨_, rfl⟩
      obtain ⟨B6, hx6, hs6⟩ := box_made hw6
      have H6 := Lib.hid hw6
      have HNB := Lib.hid B6
      have HX := Lib.hid (hx.out.step (hx5.step hx6))
      have HLT := Lib.hid (show ba = w.heap.size ∧ br = w.heap.size + 1 ∧ b7 = w.heap.size + 2 ∧ b7 < w5.heap.size from ⟨HLT.out.1, HLT.out.2.1, HLT.out.2.2.1, Nat.lt_of_lt_of_le hb7s.out hx5.size⟩)
      have y46 := Lib.hid (hx5.step hx6)
      have m0 := fun q : Later w6 => (hB7.out.to (y46.out.step q.ext)).cell 0
      have s0 := fun q : Later w6 => (hBa.out.to (y46.out.step q.ext)).cell 0
      have s1 := fun q : Later w6 => (hBa.out.to (y46.out.step q.ext)).cell 1
      have n5 := fun q : Later w6 => (HNB.out.to q.ext).cell 5
      have n5' : (trNd g k v ((l.size + u.size + 1 : Nat) : Int) l.ref u.ref).arr[5]? = some (.int .u64 l.ref) := rfl
      rw [n5'] at n5
      simp only [List.getElem?_toArray, List.getElem?_cons_zero, List.getElem?_cons_succ] at m0 s0 s1
      have hHS' := Lib.hid (fun W (hW : Ext w6 W) => hHS.out W (HX.out.step hW))
      obtain ⟨pl, hpl⟩ : ∃ pl, pl = p + l.size := ⟨_, rfl⟩
      obtain ⟨pl1, hpl1⟩ : ∃ pl1, pl1 = pl + 1 := ⟨_, rfl⟩
      have e1 : IntKind.i64.wrap ((p : Int) + (l.size : Int)) = (pl : Int) := by rw [IntKind.wrap_i64]; have := hpz.out; simp only [T.size] at this; omega
      have e2 : IntKind.i64.wrap ((pl : Int) + 1) = (pl1 : Int) := by rw [IntKind.wrap_i64]; have := hpz.out; simp only [T.size] at this; omega
      have HPL := Lib.hid hpl
      have HPL1 := Lib.hid hpl1
      clear hpl hpl1
      clear hw6 hs6 hx5 hx6 B6 q0 q1 hx n5'
      go_wp2_with (first
        | (refine wpList_store_nd (W := w5) (by rfl) _ _ (by rfl) (by rfl) (trNd g k v ((l.size + u.size + 1 : Nat) : Int) l.ref u.ref) (by rfl) _ (by rfl) (by rfl) ?_; rw [← H6.out]))
      simp only [Act.put]
      refine wp_region_later w6 (Ext.refl _) (by kernel_rfl) (by kernel_rfl) ?_
      repeat (go_big_quiet_step (first | (go_at_call 69; with_reducible exact later_call hHS'.out)))
      refine wpQuiet_nil ?_
      rintro _ ⟨q7, rfl⟩
      try rw [e1]
      clear m0 s0 s1 n5 e1
      obtain ⟨w7, hw7⟩ : ∃ w7, w7 = q7.w := ⟨_, rfl⟩
      have hx7 := Lib.hid (show Ext w6 w7 by rw [hw7]; exact q7.ext)
      rw [← hw7]
      clear hw7
      have X7 := Lib.hid (HX.out.step hx7.out)
      have HB7 := Lib.hid (hB7.out.to (y46.out.step hx7.out))
      have HA7 := Lib.hid (hBa.out.to (y46.out.step hx7.out))
      have HR7 := Lib.hid (hBr.out.to (y46.out.step hx7.out))
      have c2 : w7.cell? ⟨w5.heap.size, 2, none⟩ = some (.int .i64 k) := ((HNB.out.to hx7.out).cell 2).trans rfl
      have HCL := Lib.hid (fun W (hB : Bx W bx #[val]) => HCL0.out k (pl : Int) W hB)
      by_cases hf : f k (pl : Int) = true
      · have HD := Lib.hid (show dn f l p x r = dn f t 0 0 0 by
          rw [← hdn.out]; conv => rhs; unfold dn
          rw [if_pos (by rw [← HPL.out]; exact hf)])
        have hfb : f k (pl : Int) = true := hf
        rw [hfb] at HCL
        clear hf hfb hdn
        go_wp2_with fail
        refine (HCL.out _ (HBF.out.to X7.out)).mono ?_
        rintro e w8 ⟨rfl, hx8⟩
        have HB8 := Lib.hid (HB7.out.to hx8)
        have HN8 := Lib.hid (HNB.out.to (hx7.out.step hx8))
        have HA8 := Lib.hid (HA7.out.to hx8)
        have HR8 := Lib.hid (HR7.out.to hx8)
        have X8 := Lib.hid (X7.out.step hx8)
        clear hx8
        obtain ⟨SS, hSS⟩ : ∃ SS : World → Prop, SS = (fun W => W.cell? ⟨w5.heap.size, 5, none⟩ = some (.int .u64 l.ref)) := ⟨_, rfl⟩
        have mkS : ∀ W, Bx W w5.heap.size (trNd g k v ((l.size + u.size + 1 : Nat) : Int) l.ref u.ref).arr → SS W := fun W h1 => by rw [hSS]; exact (h1.cell 5).trans rfl
        have HMK := Lib.hid mkS
        have hS0 : SS w8.drew := mkS _ HN8.out.drew
        have HSS := Lib.hid hSS
        clear hSS mkS
        go_wp2_with fail
        refine wp_region_held (S := SS) (by kernel_rfl) ?_
        refine wpAnyH_take (i := 0) (v := .int .u64 r) rfl (by kernel_rfl) (by kernel_rfl) (by kernel_rfl) (fun _ _ _ h => h) (Or.inl ⟨by rfl, by intro W hW; rw [HSS.out] at hW; go_simp⟩) hS0 ?_
        try simp only [Act.put, List.getElem_toArray, List.getElem_cons_succ, List.getElem_cons_zero, List.setIfInBounds_toArray, List.set_cons_zero, List.set_cons_succ]
        refine wpAnyH_take (i := 1) (v := .pointer (some ⟨w5.heap.size, 5, none⟩)) rfl (by kernel_rfl) (by kernel_rfl) (by kernel_rfl) (fun _ _ _ h => h) (Or.inl ⟨by rfl, by intro W hW; rw [HSS.out] at hW; go_simp⟩) hS0 ?_
        try simp only [Act.put, List.getElem_toArray, List.getElem_cons_succ, List.getElem_cons_zero, List.setIfInBounds_toArray, List.set_cons_zero, List.set_cons_succ]
        refine wpAnyH_take (i := 2) (v := .pointer (some ⟨w5.heap.size, 5, none⟩)) rfl (by kernel_rfl) (by kernel_rfl) (by kernel_rfl) (fun _ _ _ h => h) (Or.inl ⟨by rfl, by intro W hW; rw [HSS.out] at hW; go_simp⟩) hS0 ?_
        try simp only [Act.put, List.getElem_toArray, List.getElem_cons_succ, List.getElem_cons_zero, List.setIfInBounds_toArray, List.set_cons_zero, List.set_cons_succ]
        refine wpAnyH_take (i := 3) (v := .int .u64 l.ref) rfl (by kernel_rfl) (by kernel_rfl) (by kernel_rfl) (fun _ _ _ h => h) (Or.inl ⟨by rfl, by intro W hW; rw [HSS.out] at hW; go_simp⟩) hS0 ?_
        try simp only [Act.put, List.getElem_toArray, List.getElem_cons_succ, List.getElem_cons_zero, List.setIfInBounds_toArray, List.set_cons_zero, List.set_cons_succ]
        refine wpAnyH_take (i := 4) (v := .pointer (some ⟨b7, 2, none⟩)) rfl (by kernel_rfl) (by kernel_rfl) (by kernel_rfl) (fun _ _ _ h => h) (Or.inl ⟨by rfl, by intro W hW; rw [HSS.out] at hW; go_simp⟩) hS0 ?_
        try simp only [Act.put, List.getElem_toArray, List.getElem_cons_succ, List.getElem_cons_zero, List.setIfInBounds_toArray, List.set_cons_zero, List.set_cons_succ]
        refine held_one2 (i := 5) (by kernel_rfl) rfl (by rfl) ?_
        refine wp_store_cell1 27 (.tmp 32) (.tmp 28) (by rfl) b7 2 (by rfl) (.int .u64 r) (by rfl) rfl (by kernel_rfl) _ HB8.out.drew (by simp) ?_
        intro w9 B9 O9
        have HN9 := Lib.hid (O9.bx HN8.out.drew (by have := HLT.out; omega))
        have HA9 := Lib.hid (O9.bx HA8.out.drew (by have := HLT.out; omega))
        have HR9 := Lib.hid (O9.bx HR8.out.drew (by have := HLT.out; omega))
        have HX9 := Lib.hid (O9.new X8.out.drew (by have := HLT.out; omega))
        refine ⟨HMK.out _ HN9.out, ?_⟩
        try simp only [Act.put, List.getElem_toArray, List.getElem_cons_succ, List.getElem_cons_zero, List.setIfInBounds_toArray, List.set_cons_zero, List.set_cons_succ]
        refine held_one2 (i := 6) (by kernel_rfl) rfl (by rfl) ?_
        go_simp
        refine ⟨HMK.out _ HN9.out, ?_⟩
        try simp only [Act.put, List.getElem_toArray, List.getElem_cons_succ, List.getElem_cons_zero, List.setIfInBounds_toArray, List.set_cons_zero, List.set_cons_succ]
        refine ⟨by kernel_rfl, ?_⟩
        have HS9 := Lib.hid (show b7 < w9.heap.size from B9.lt)
        go_wp2_with fail
        go_roundw
        case rel => exact ⟨HX9, l, _, p, x, r, rfl, hkids.out.1, Lib.hid rfl, Lib.hid hRu.out.2.1, Lib.hid hz'.out.1, HD, Lib.hid (by have := hpz.out; simp only [T.size] at this; omega), Lib.hid B9, HA9, HR9, HS9⟩
        case measure => rw [hl.out, hsz.out]; simp only [T.size]; omega
      · have HD := Lib.hid (show dn f u (p + l.size + 1) r y = dn f t 0 0 0 by
          rw [← hdn.out]; conv => rhs; unfold dn
          rw [if_neg (by rw [← HPL.out]; exact hf)])
        have hfb : f k (pl : Int) = false := by simpa using hf
        rw [hfb] at HCL
        clear hf hfb hdn
        go_wp2_with fail
        refine (HCL.out _ (HBF.out.to X7.out)).mono ?_
        rintro e w8 ⟨rfl, hx8⟩
        have HB8 := Lib.hid (HB7.out.to hx8)
        have HN8 := Lib.hid (HNB.out.to (hx7.out.step hx8))
        have HA8 := Lib.hid (HA7.out.to hx8)
        have HR8 := Lib.hid (HR7.out.to hx8)
        have X8 := Lib.hid (X7.out.step hx8)
        clear hx8
        obtain ⟨SS, hSS⟩ : ∃ SS : World → Prop, SS = (fun W => W.cell? ⟨w5.heap.size, 6, none⟩ = some (.int .u64 u.ref)) := ⟨_, rfl⟩
        have mkS : ∀ W, Bx W w5.heap.size (trNd g k v ((l.size + u.size + 1 : Nat) : Int) l.ref u.ref).arr → SS W := fun W h1 => by rw [hSS]; exact (h1.cell 6).trans rfl
        have HMK := Lib.hid mkS
        have hS0 : SS w8.drew := mkS _ HN8.out.drew
        have HSS := Lib.hid hSS
        clear hSS mkS
        go_wp2_with fail
        refine wp_region_held (S := SS) (by kernel_rfl) ?_
        refine wpAnyH_take (i := 0) (v := .int .u64 r) rfl (by kernel_rfl) (by kernel_rfl) (by kernel_rfl) (fun _ _ _ h => h) (Or.inl ⟨by rfl, by intro W hW; rw [HSS.out] at hW; go_simp⟩) hS0 ?_
        try simp only [Act.put, List.getElem_toArray, List.getElem_cons_succ, List.getElem_cons_zero, List.setIfInBounds_toArray, List.set_cons_zero, List.set_cons_succ]
        refine wpAnyH_take (i := 1) (v := .int .i64 (pl : Int)) rfl (by kernel_rfl) (by kernel_rfl) (by kernel_rfl) (fun _ _ _ h => h) (Or.inl ⟨by rfl, by intro W hW; rw [HSS.out] at hW; go_simp⟩) hS0 ?_
        try simp only [Act.put, List.getElem_toArray, List.getElem_cons_succ, List.getElem_cons_zero, List.setIfInBounds_toArray, List.set_cons_zero, List.set_cons_succ]
        refine wpAnyH_take (i := 2) (v := .int .i64 (IntKind.i64.wrap ((pl : Int) + 1))) rfl (by kernel_rfl) (by kernel_rfl) (by kernel_rfl) (fun _ _ _ h => h) (Or.inl ⟨by rfl, by intro W hW; rw [HSS.out] at hW; go_simp⟩) hS0 ?_
        rw [e2]
        try simp only [Act.put, List.getElem_toArray, List.getElem_cons_succ, List.getElem_cons_zero, List.setIfInBounds_toArray, List.set_cons_zero, List.set_cons_succ]
        refine wpAnyH_take (i := 3) (v := .pointer (some ⟨w5.heap.size, 5, none⟩)) rfl (by kernel_rfl) (by kernel_rfl) (by kernel_rfl) (fun _ _ _ h => h) (Or.inl ⟨by rfl, by intro W hW; rw [HSS.out] at hW; go_simp⟩) hS0 ?_
        try simp only [Act.put, List.getElem_toArray, List.getElem_cons_succ, List.getElem_cons_zero, List.setIfInBounds_toArray, List.set_cons_zero, List.set_cons_succ]
        refine wpAnyH_take (i := 4) (v := .pointer (some ⟨w5.heap.size, 6, none⟩)) rfl (by kernel_rfl) (by kernel_rfl) (by kernel_rfl) (fun _ _ _ h => h) (Or.inl ⟨by rfl, by intro W hW; rw [HSS.out] at hW; go_simp⟩) hS0 ?_
        try simp only [Act.put, List.getElem_toArray, List.getElem_cons_succ, List.getElem_cons_zero, List.setIfInBounds_toArray, List.set_cons_zero, List.set_cons_succ]
        refine wpAnyH_take (i := 5) (v := .int .u64 u.ref) rfl (by kernel_rfl) (by kernel_rfl) (by kernel_rfl) (fun _ _ _ h => h) (Or.inl ⟨by rfl, by intro W hW; rw [HSS.out] at hW; go_simp⟩) hS0 ?_
        try simp only [Act.put, List.getElem_toArray, List.getElem_cons_succ, List.getElem_cons_zero, List.setIfInBounds_toArray, List.set_cons_zero, List.set_cons_succ]
        refine wpAnyH_take (i := 6) (v := .pointer (some ⟨b7, 1, none⟩)) rfl (by kernel_rfl) (by kernel_rfl) (by kernel_rfl) (fun _ _ _ h => h) (Or.inl ⟨by rfl, by intro W hW; rw [HSS.out] at hW; go_simp⟩) hS0 ?_
        try simp only [Act.put, List.getElem_toArray, List.getElem_cons_succ, List.getElem_cons_zero, List.setIfInBounds_toArray, List.set_cons_zero, List.set_cons_succ]
        refine held_one2 (i := 7) (by kernel_rfl) rfl (by rfl) ?_
        refine wp_store_cell1 27 (.tmp 39) (.tmp 33) (by rfl) b7 1 (by rfl) (.int .u64 r) (by rfl) rfl (by kernel_rfl) _ HB8.out.drew (by simp) ?_
        intro w9 B9 O9
        have HN9 := Lib.hid (O9.bx HN8.out.drew (by have := HLT.out; omega))
        have HA9 := Lib.hid (O9.bx HA8.out.drew (by have := HLT.out; omega))
        have HR9 := Lib.hid (O9.bx HR8.out.drew (by have := HLT.out; omega))
        have HX9 := Lib.hid (O9.new X8.out.drew (by have := HLT.out; omega))
        refine ⟨HMK.out _ HN9.out, ?_⟩
        try simp only [Act.put, List.getElem_toArray, List.getElem_cons_succ, List.getElem_cons_zero, List.setIfInBounds_toArray, List.set_cons_zero, List.set_cons_succ]
        refine held_one2 (i := 8) (by kernel_rfl) rfl (by rfl) ?_
        go_simp
        refine ⟨HMK.out _ HN9.out, ?_⟩
        try simp only [Act.put, List.getElem_toArray, List.getElem_cons_succ, List.getElem_cons_zero, List.setIfInBounds_toArray, List.set_cons_zero, List.set_cons_succ]
        refine held_one2 (i := 9) (by kernel_rfl) rfl (by rfl) ?_
        refine wp_store_cell1 3 (.tmp 40) (.tmp 35) (by rfl) b7 0 (by rfl) (.int .i64 (pl1 : Int)) (by rfl) rfl (by kernel_rfl) _ B9 (by simp) ?_
        intro w10 B10 O10
        have HN10 := Lib.hid (O10.bx HN9.out (by have := HLT.out; omega))
        have HA10 := Lib.hid (O10.bx HA9.out (by have := HLT.out; omega))
        have HR10 := Lib.hid (O10.bx HR9.out (by have := HLT.out; omega))
        have HX10 := Lib.hid (O10.new HX9.out (by have := HLT.out; omega))
        refine ⟨HMK.out _ HN10.out, ?_⟩
        try simp only [Act.put, List.getElem_toArray, List.getElem_cons_succ, List.getElem_cons_zero, List.setIfInBounds_toArray, List.set_cons_zero, List.set_cons_succ]
        refine held_one2 (i := 10) (by kernel_rfl) rfl (by rfl) ?_
        go_simp
        refine ⟨HMK.out _ HN10.out, ?_⟩
        try simp only [Act.put, List.getElem_toArray, List.getElem_cons_succ, List.getElem_cons_zero, List.setIfInBounds_toArray, List.set_cons_zero, List.set_cons_succ]
        refine ⟨by kernel_rfl, ?_⟩
        have HS10 := Lib.hid (show b7 < w10.heap.size from B10.lt)
        go_wp2_with fail
        go_roundw
        case rel => exact ⟨HX10, u, _, pl1, r, y, rfl, hkids.out.2, Lib.hid rfl, Lib.hid hRu.out.2.2, Lib.hid hz'.out.2, Lib.hid (by rw [HPL1.out, HPL.out]; exact HD.out), Lib.hid (by have := hpz.out; have := HPL.out; have := HPL1.out; simp only [T.size] at *; omega), Lib.hid B10, HA10, HR10, HS10⟩
        case measure => rw [hu.out, hsz.out]; simp only [T.size]; omega

end Go.Proofs.Ythgaogbpkedjcaa
