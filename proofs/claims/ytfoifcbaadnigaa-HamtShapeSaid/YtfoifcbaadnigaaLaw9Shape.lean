/-
  The walk of HamtShape.
-/
import Derived.Test.YtfoifcbaadnigaaHtArs
import Derived.Test.YtfoifcbaadnigaaMin8
import Derived.Test.YtfoifcbaadnigaaArOpen
set_option linter.unusedVariables false
set_option linter.unusedSimpArgs false
namespace Go.Proofs.Ytfoifcbaadnigaa
open Go.RowKit

theorem ky_is (z : Int) : (IntKind.i64.wrap (z.tmod 50 + 50)).tmod 50 = ky z := by
  have h1 : -50 < z.tmod 50 := Int.lt_tmod_of_pos z (by omega)
  have h2 : z.tmod 50 < 50 := Int.tmod_lt_of_pos z (by omega)
  rw [show IntKind.i64.wrap (z.tmod 50 + 50) = z.tmod 50 + 50 by rw [IntKind.wrap_i64]; omega]
  rfl
theorem rot_is (m i : Nat) (q : Int) (h0 : 0 < m) (hm : m ≤ 8) (hi : i < m) : (IntKind.i64.wrap ((i : Int) + IntKind.i64.wrap (q.tmod (m : Int) + (m : Int)))).tmod (m : Int) = ((rot (q % (m : Int)).toNat m i : Nat) : Int) := by
  have hp : 0 < (m : Int) := by omega
  have e0 : 0 ≤ q % (m : Int) := Int.emod_nonneg _ (by omega)
  have e1 : q % (m : Int) < m := Int.emod_lt_of_pos _ hp
  have h1 : q.tmod (m : Int) = q % (m : Int) ∨ q.tmod (m : Int) = q % (m : Int) - m := by
    rw [Int.tmod_eq_emod]
    split
    · left; omega
    · right; rw [Int.natAbs_natCast]
  have h3 : ((rot (q % (m : Int)).toNat m i : Nat) : Int) = ((i : Int) + q % (m : Int)) % (m : Int) := by
    unfold rot
    rw [Int.natCast_emod, Int.natCast_add, Int.toNat_of_nonneg e0]
  rw [h3]
  rcases h1 with h | h
  · rw [h, show IntKind.i64.wrap (q % (m : Int) + (m : Int)) = q % (m : Int) + m by rw [IntKind.wrap_i64]; omega, show IntKind.i64.wrap ((i : Int) + (q % (m : Int) + (m : Int))) = (i : Int) + q % (m : Int) + m by rw [IntKind.wrap_i64]; omega]
    rw [Int.tmod_eq_emod_of_nonneg (by omega), Int.add_emod_right]
  · rw [h, show IntKind.i64.wrap (q % (m : Int) - (m : Int) + (m : Int)) = q % (m : Int) by rw [IntKind.wrap_i64]; omega, show IntKind.i64.wrap ((i : Int) + q % (m : Int)) = (i : Int) + q % (m : Int) by rw [IntKind.wrap_i64]; omega]
    rw [Int.tmod_eq_emod_of_nonneg (by omega)]

theorem shp_sm (ks : List Int) (h : ∀ q ∈ ks, 0 ≤ q ∧ q < 50) : Sm (shp ks) :=
  ⟨shp_srt ks, fun x hx => by have := h x.1 ((shp_mem ks x).1 hx).1; omega⟩
theorem keysA_in {zs : List Int} {q : Int} (h : q ∈ keysA zs) : 0 ≤ q ∧ q < 50 := by
  obtain ⟨z, _, rfl⟩ := List.mem_map.1 h
  exact ky_in z
theorem keysB_in {zs : List Int} {s : Nat} {q : Int} (h : q ∈ keysB zs s) : 0 ≤ q ∧ q < 50 := by
  obtain ⟨z, _, rfl⟩ := List.mem_map.1 h
  exact ky_in _

set_option maxHeartbeats 12800000 in
set_option maxRecDepth 100000 in
theorem shape_m (A : Option Addr) (n c m : Nat) (zs : List Int) (q : Int) (w : World) (h : Rd w 1 A m (Ks .i64 zs)) (hnc : n ≤ c) (hc : c ≤ maxLen) (hmn : m ≤ n) (hm8 : m ≤ 8) (emin : min (n : Int) 8 = (m : Int)) (hA : A = none → n = 0) :
    Calls Try.prog 6 #[.slice A n c, .int .i64 q] w fun e w' => e = .returned (.bool true) ∧ Ext w w' := by
  have HN := Lib.hid (fun W => new_yes 512 W (by omega) (by omega))
  rw [show ((512 : Nat) : Int) = 512 from rfl] at HN
  have hmay : ArMay (List.replicate 512 (bare 0)) (down 512) := new_may (by omega) (by omega)
  obtain ⟨ns0, hns⟩ : ∃ ns, ns = List.replicate 512 (bare 0) := ⟨_, rfl⟩
  obtain ⟨fs0, hfs⟩ : ∃ fs, fs = down 512 := ⟨_, rfl⟩
  unfold NewA at HN
  rw [← hns, ← hfs] at hmay HN
  have HMay := Lib.hid hmay
  have HLn := Lib.hid (show fs0.length = 512 by rw [hfs]; simp [down])
  have HAl := Lib.hid (fun W => alive9_is W)
  have HH := Lib.hid h
  have hlen := h.1
  have HL := Lib.hid (show zs.length = m by simpa [Ks] using hlen)
  have hmc : m ≤ c := by omega
  simp only [maxLen] at hc
  clear hmay h hlen hns hfs
  have hBn : m = 0 ∨ ∃ ad, A = some ad := by
    rcases Nat.eq_zero_or_pos m with h' | h'
    · exact .inl h'
    · exact .inr (HH.out.some_ h' (by omega))
  go_enter Try.func6, Try.ntmps6
  go_wp2_with (first | (refine wpList_min8 rfl (.tmp 24) _ rfl n m rfl emin ?_))
  refine (HN.out _).mono ?_; rintro e w1 ⟨g1, c1, h1, d1, rfl, hd11, hd12, hA1, hx1, hf1⟩
  have HA1 := Lib.hid hA1
  have X1 := Lib.hid hx1
  have HB1 := Lib.hid (Bx.new w1 #[.slice (some ⟨g1, 0, none⟩) 512 c1, .slice (some ⟨h1, 0, none⟩) 512 d1] 26)
  clear hA1 hx1 hf1 hd11 hd12
  go_wp2_with fail
  refine (HN.out _).mono ?_; rintro e w2 ⟨g2, c2, h2, d2, rfl, hd21, hd22, hA2, hx2, hf2⟩
  have HA2 := Lib.hid hA2
  have X2 := Lib.hid hx2
  have HB2 := Lib.hid (Bx.new w2 #[.slice (some ⟨g2, 0, none⟩) 512 c2, .slice (some ⟨h2, 0, none⟩) 512 d2] 26)
  clear hA2 hx2 hf2 hd21 hd22
  have hW1 := Lib.hid (show w.heap.size ≤ w1.heap.size ∧ w1.heap.size < w2.heap.size from ⟨X1.out.size, by have := X2.out.size; have := HB1.out.lt; omega⟩)
  have HS1 := Lib.hid (show SmT w1 (.slice (some ⟨g1, 0, none⟩) 512 c1) (.slice (some ⟨h1, 0, none⟩) 512 d1) 0 [] 512 from ⟨_, _, _, _, _, _, ns0, fs0, rfl, rfl, ⟨HA1.out, HMay.out⟩, TabV.nil ns0, Nat.le_of_eq HLn.out.symm⟩)
  have HS2 := Lib.hid (show SmT w2 (.slice (some ⟨g2, 0, none⟩) 512 c2) (.slice (some ⟨h2, 0, none⟩) 512 d2) 0 [] 512 from ⟨_, _, _, _, _, _, ns0, fs0, rfl, rfl, ⟨HA2.out, HMay.out⟩, TabV.nil ns0, Nat.le_of_eq HLn.out.symm⟩)
  have HC1 := Lib.hid (HB1.out.to (X2.out.new (.cells #[.slice (some ⟨g2, 0, none⟩) 512 c2, .slice (some ⟨h2, 0, none⟩) 512 d2] 26)))
  have HC2 := Lib.hid HB2.out
  have HT1 := Lib.hid ((HS1.out.to ((Ext.refl _).new (.cells #[.slice (some ⟨g1, 0, none⟩) 512 c1, .slice (some ⟨h1, 0, none⟩) 512 d1] 26))).to (X2.out.new (.cells #[.slice (some ⟨g2, 0, none⟩) 512 c2, .slice (some ⟨h2, 0, none⟩) 512 d2] 26)))
  have HT2 := Lib.hid (HS2.out.to ((Ext.refl _).new (.cells #[.slice (some ⟨g2, 0, none⟩) 512 c2, .slice (some ⟨h2, 0, none⟩) 512 d2] 26)))
  have X3 := Lib.hid (show Ext w (w2.alloc (.cells #[.slice (some ⟨g2, 0, none⟩) 512 c2, .slice (some ⟨h2, 0, none⟩) 512 d2] 26)) from ((X1.out.new _).step X2.out).new _)
  clear HA1 HA2 HB1 HB2 X1 X2 HS1 HS2
  generalize w1.heap.size = b1 at *
  obtain ⟨b2, hb2⟩ : ∃ b2, b2 = w2.heap.size := ⟨_, rfl⟩
  have Hb2 := Lib.hid hb2
  rw [← hb2] at hW1 HC2
  clear hb2
  obtain ⟨kA, hkA⟩ : ∃ kA, kA = keysA zs := ⟨_, rfl⟩
  obtain ⟨kB, hkB⟩ : ∃ kB, kB = keysB zs (q % (m : Int)).toNat := ⟨_, rfl⟩
  have HKA := Lib.hid hkA
  have HKB := Lib.hid hkB
  clear hkA hkB
  go_wp2_with fail
  try rw [← Hb2.out]
  go_loopw [40, 10, 11, 12, 13, 14, 15, 16, 17, 18, 19, 20, 21] (fun j r s row _ _ _ _ _ _ _ _ _ wr => Hid (Ext w wr) ∧ ∃ (k : Nat) (r1 r2 : Int), k ≤ m ∧ j = .int .i64 k ∧ r = .int .u64 r1 ∧ s = .int .u64 r2 ∧ Hid (∃ A1 n1 c1 B1 m1 d1, Bx wr b1 #[.slice A1 n1 c1, .slice B1 m1 d1] ∧ SmT wr (.slice A1 n1 c1) (.slice B1 m1 d1) r1 (shp (kA.take k)) (512 - 11 * k)) ∧ Hid (∃ A1 n1 c1 B1 m1 d1, Bx wr b2 #[.slice A1 n1 c1, .slice B1 m1 d1] ∧ SmT wr (.slice A1 n1 c1) (.slice B1 m1 d1) r2 (shp (kB.take k)) (512 - 11 * k)) ∧ Hid (RdR wr row (shp (kA.take k)))) (fun j _ _ _ _ _ _ _ _ _ _ _ _ _ => m - (intOf j).toNat)
  case atStart => exact ⟨Lib.hid (X3.out.new _), 0, 0, 0, Nat.zero_le _, rfl, rfl, rfl, Lib.hid ⟨_, _, _, _, _, _, HC1.out.to ((Ext.refl _).new _), HT1.out.to ((Ext.refl _).new _)⟩, Lib.hid ⟨_, _, _, _, _, _, HC2.out.to ((Ext.refl _).new _), HT2.out.to ((Ext.refl _).new _)⟩, Lib.hid ⟨_, _, rfl, Rd.nil _ _ _, Nat.le_refl _, by unfold maxLen; omega⟩⟩
  case round =>
    obtain ⟨hx, k, r1, r2, hk, rfl, rfl, rfl, hS1, hS2, hR⟩ := hrel
    rename World => w4
    clear HC1 HC2 HT1 HT2 X3
    by_cases hlt : k < m
    · obtain ⟨ad, rfl⟩ : ∃ ad, A = some ad := by
        rcases hBn with h' | h'
        · omega
        · exact h'
      have hlen := HL.out
      obtain ⟨z1, hz1⟩ : ∃ z, zs[k]? = some z := ⟨_, List.getElem?_eq_getElem (by omega)⟩
      obtain ⟨p, hp⟩ : ∃ p, p = rot (q % (m : Int)).toNat m k := ⟨_, rfl⟩
      have hpm : p < m := by rw [hp]; exact Nat.mod_lt _ (by omega)
      obtain ⟨z2, hz2⟩ : ∃ z, zs[p]? = some z := ⟨_, List.getElem?_eq_getElem (by omega)⟩
      have e1 : (IntKind.i64.wrap ((k : Int) + IntKind.i64.wrap (q.tmod (m : Int) + (m : Int)))).tmod (m : Int) = (p : Int) := by rw [hp]; exact rot_is m k q (by omega) hm8 hlt
      have c0 : w4.cell? (ad.add k) = some (.int .i64 z1) := (HH.out.to hx.out).cells k _ (by simp [Ks, hz1])
      have c1 : w4.cell? (ad.add p) = some (.int .i64 z2) := (HH.out.to hx.out).cells p _ (by simp [Ks, hz2])
      have hm0 : ¬ (m : Int) = 0 := by omega
      have hm1 : ¬ m = 0 := by omega
      have hmk : ¬ m ≤ k := by omega
      have hmp : ¬ m ≤ p := by omega
      have EA := Lib.hid (show kA.take (k + 1) = kA.take k ++ [ky z1] by
        rw [List.take_add_one, HKA.out]; simp [keysA, hz1])
      have EB := Lib.hid (show kB.take (k + 1) = kB.take k ++ [ky z2] by
        have hz2' := hz2
        rw [hp] at hz2'
        rw [List.take_add_one, HKB.out]
        simp [keysB, hlen, hlt, List.getD_eq_getElem?_getD, hz2'])
      have ky1 := ky_is z1
      have ky2 := ky_is z2
      have KY1 := Lib.hid (ky_in z1)
      have KY2 := Lib.hid (ky_in z2)
      clear hz1 hz2 hp hlen
      go_wp2_with fail
      go_quiet (fail)
      clear c0 c1 e1 ky1 ky2 hm0 hm1 hmk hmp hpm
      obtain ⟨w5, hw5, hx5⟩ : ∃ w5, w5 = w4.drewN nq ∧ Ext w4 w5 := ⟨_, rfl, (Ext.refl _).drewN _⟩
      rw [← hw5]
      clear hw5
      obtain ⟨A1, n1, c1, B1, m1, d1, hB1, hV1⟩ := hS1.out
      obtain ⟨A2, n2, c2, B2, m2, d2, hB2, hV2⟩ := hS2.out
      have hl1 : (shp (kA.take k)).length ≤ 8 := by have h1 := shp_len (kA.take k); have h2 := List.length_take_le k kA; omega
      have hl2 : (shp (kB.take k)).length ≤ 8 := by have h1 := shp_len (kB.take k); have h2 := List.length_take_le k kB; omega
      have HP1 := Lib.hid (smt_put (f := 512 - 11 * (k + 1)) (hV1.less (by omega)) (shp_sm _ (fun q hq => by have hq' := List.mem_of_mem_take hq; rw [HKA.out] at hq'; exact keysA_in hq')) (ky z1) (ky z1) (by have := KY1.out; omega))
      have HP2 := Lib.hid (smt_put (f := 512 - 11 * (k + 1)) (hV2.less (by omega)) (shp_sm _ (fun q hq => by have hq' := List.mem_of_mem_take hq; rw [HKB.out] at hq'; exact keysB_in hq')) (ky z2) (ky z2) (by have := KY2.out; omega))
      rw [← shp_snoc, ← EA.out] at HP1
      rw [← shp_snoc, ← EB.out] at HP2
      obtain ⟨AR, cR, hrow, hrow2⟩ := hR.out
      subst hrow
      have HR := Lib.hid (hR.out.put (by omega) (shp_srt _) (ky z1) (ky z1))
      obtain ⟨nR, hnR⟩ : ∃ nR, nR = (shp (kA.take k)).length := ⟨_, rfl⟩
      rw [← hnR] at HR
      try rw [← hnR]
      rw [← shp_snoc, ← EA.out] at HR
      have HBx1 := Lib.hid (hB1.to hx5)
      have HBx2 := Lib.hid (hB2.to hx5)
      have HX4 := Lib.hid hx5
      have HX := Lib.hid (hx.out.step hx5)
      have k0 : w5.cell? ⟨b1, 0, none⟩ = some (.slice A1 n1 c1) := HBx1.out.cell 0
      have k1 : w5.cell? ⟨b1, 1, none⟩ = some (.slice B1 m1 d1) := HBx1.out.cell 1
      obtain ⟨z, hz⟩ : ∃ z, z = ky z1 := ⟨_, rfl⟩
      obtain ⟨z', hz'⟩ : ∃ z', z' = ky z2 := ⟨_, rfl⟩
      rw [← hz] at HP1 HR ⊢
      rw [← hz'] at HP2 ⊢
      clear hrow2 hnR hB1 hV1 hB2 hV2 hx5 hl1 hl2 hS1 hS2 hR hx hz hz' KY1 KY2 EA EB
      go_wp2_with fail
      refine (HP1.out _ HX4.out).mono ?_
      rintro e w6 ⟨A3, n3, c3, B3, m3, d3, z3, rfl, hV3, hx6⟩
      have X6 := Lib.hid (HX4.out.step hx6)
      have Y6 := Lib.hid hx6
      have HBy2 := Lib.hid (HBx2.out.to hx6)
      have HBy1 := Lib.hid (HBx1.out.to hx6)
      clear hx6 k0 k1
      have HV3 := Lib.hid hV3
      have HN3 := Lib.hid (show b1 < w6.heap.size ∧ b2 < w6.heap.size from ⟨HBy1.out.lt, HBy2.out.lt⟩)
      obtain ⟨w7, hw7⟩ : ∃ w7, w7 = w6.alloc (.cells #[.slice A3 n3 c3, .slice B3 m3 d3] 26) := ⟨_, rfl⟩
      obtain ⟨B7, hx7, hs7⟩ := box_made hw7
      have H7 := Lib.hid hw7
      have HB7 := Lib.hid B7
      have X7 := Lib.hid (X6.out.step hx7)
      have Y7 := Lib.hid (Y6.out.step hx7)
      have Z7 := Lib.hid hx7
      have m0 : w7.cell? ⟨b2, 0, none⟩ = some (.slice A2 n2 c2) := (HBy2.out.to hx7).cell 0
      have m1' : w7.cell? ⟨b2, 1, none⟩ = some (.slice B2 m2 d2) := (HBy2.out.to hx7).cell 1
      rw [hw7] at m0 m1'
      clear hw7 B7 hx7 hs7 hV3
      go_wp2_with fail
      rw [← H7.out]
      refine (HP2.out _ X7.out).mono ?_
      rintro e w8 ⟨A5, n5, c5, B5, m5, d5, z5, rfl, hV5, hx8⟩
      have HB8 := Lib.hid (HB7.out.to hx8)
      have X8 := Lib.hid (HX.out.step (Y7.out.step hx8))
      have Z8 := Lib.hid (Z7.out.step hx8)
      clear hx8 m0 m1'
      obtain ⟨w9, hw9⟩ : ∃ w9, w9 = w8.alloc (.cells #[.slice A5 n5 c5, .slice B5 m5 d5] 26) := ⟨_, rfl⟩
      obtain ⟨B9, hx9, hs9⟩ := box_made hw9
      have X9 := Lib.hid (X8.out.step hx9)
      have H9 := Lib.hid hw9
      have HB9 := Lib.hid B9
      have HA9 := Lib.hid (HB8.out.to hx9)
      have Z9 := Lib.hid (Z8.out.step hx9)
      have HV5 := Lib.hid (hV5.to hx9)
      have Y9 := Lib.hid (Y6.out.step Z9.out)
      have b16 := HA9.out.lt
      clear hw9 B9 hx9 hs9 hV5
      go_wp2_with fail
      rw [← H9.out]
      obtain ⟨SS, hSS⟩ : ∃ SS : World → Prop, SS = (fun W => W.cell? ⟨w6.heap.size, 0, none⟩ = some (.slice A3 n3 c3) ∧ W.cell? ⟨w6.heap.size, 1, none⟩ = some (.slice B3 m3 d3) ∧ W.cell? ⟨w8.heap.size, 0, none⟩ = some (.slice A5 n5 c5) ∧ W.cell? ⟨w8.heap.size, 1, none⟩ = some (.slice B5 m5 d5)) := ⟨_, rfl⟩
      have mkS : ∀ W, Bx W w6.heap.size #[.slice A3 n3 c3, .slice B3 m3 d3] → Bx W w8.heap.size #[.slice A5 n5 c5, .slice B5 m5 d5] → SS W := fun W h1 h2 => by rw [hSS]; exact ⟨h1.cell 0, h1.cell 1, h2.cell 0, h2.cell 1⟩
      have HMK := Lib.hid mkS
      have hS0 : SS w9.drew := mkS _ HA9.out.drew HB9.out.drew
      have HSS := Lib.hid hSS
      clear hSS mkS
      refine wp_region_held (S := SS) (by kernel_rfl) ?_
      refine wpAnyH_take (i := 0) (v := .agg #[.slice A3 n3 c3, .slice B3 m3 d3]) rfl (by kernel_rfl) (by kernel_rfl) (by kernel_rfl) (fun _ _ _ h => h) (Or.inl ⟨by rfl, by intro W hW; rw [HSS.out] at hW; obtain ⟨q0, q1, q2, q3⟩ := hW; go_simp⟩) hS0 ?_
      try simp only [Act.put, List.setIfInBounds_toArray, List.set_cons_zero, List.set_cons_succ]
      refine wpAnyH_take (i := 1) (v := .int .u64 z3) rfl (by kernel_rfl) (by kernel_rfl) (by kernel_rfl) (fun _ _ _ h => h) (Or.inl ⟨by rfl, by intro W hW; rw [HSS.out] at hW; obtain ⟨q0, q1, q2, q3⟩ := hW; go_simp⟩) hS0 ?_
      try simp only [Act.put, List.setIfInBounds_toArray, List.set_cons_zero, List.set_cons_succ]
      refine wpAnyH_take (i := 2) (v := .agg #[.slice A5 n5 c5, .slice B5 m5 d5]) rfl (by kernel_rfl) (by kernel_rfl) (by kernel_rfl) (fun _ _ _ h => h) (Or.inl ⟨by rfl, by intro W hW; rw [HSS.out] at hW; obtain ⟨q0, q1, q2, q3⟩ := hW; go_simp⟩) hS0 ?_
      try simp only [Act.put, List.setIfInBounds_toArray, List.set_cons_zero, List.set_cons_succ]
      refine wpAnyH_take (i := 3) (v := .int .u64 z5) rfl (by kernel_rfl) (by kernel_rfl) (by kernel_rfl) (fun _ _ _ h => h) (Or.inl ⟨by rfl, by intro W hW; rw [HSS.out] at hW; obtain ⟨q0, q1, q2, q3⟩ := hW; go_simp⟩) hS0 ?_
      try simp only [Act.put, List.setIfInBounds_toArray, List.set_cons_zero, List.set_cons_succ]
      refine wpAnyH_take (i := 4) (v := .slice AR nR cR) rfl (by kernel_rfl) (by kernel_rfl) (by kernel_rfl) (fun _ _ _ h => h) (Or.inl ⟨by rfl, by intro W hW; rw [HSS.out] at hW; obtain ⟨q0, q1, q2, q3⟩ := hW; go_simp⟩) hS0 ?_
      try simp only [Act.put, List.setIfInBounds_toArray, List.set_cons_zero, List.set_cons_succ]
      refine wpAnyH_take (i := 5) (v := .int .i64 z) rfl (by kernel_rfl) (by kernel_rfl) (by kernel_rfl) (fun _ _ _ h => h) (Or.inl ⟨by rfl, by intro W hW; rw [HSS.out] at hW; obtain ⟨q0, q1, q2, q3⟩ := hW; go_simp⟩) hS0 ?_
      try simp only [Act.put, List.setIfInBounds_toArray, List.set_cons_zero, List.set_cons_succ]
      refine wpAnyH_take (i := 6) (v := .int .i64 z) rfl (by kernel_rfl) (by kernel_rfl) (by kernel_rfl) (fun _ _ _ h => h) (Or.inl ⟨by rfl, by intro W hW; rw [HSS.out] at hW; obtain ⟨q0, q1, q2, q3⟩ := hW; go_simp⟩) hS0 ?_
      try simp only [Act.put, List.setIfInBounds_toArray, List.set_cons_zero, List.set_cons_succ]
      refine held_one (i := 7) (by kernel_rfl) rfl (by rfl) ?_
      go_simp
      refine (HR.out w9.drew (HX4.out.step (Y9.out.step (Ext.refl w9).drew))).mono ?_
      rintro e w10 ⟨v', rfl, hr10, hx10⟩
      have Q := Lib.hid (Ext.step (Ext.refl w9).drew hx10)
      have HC1 := Lib.hid (HBy1.out.to (Z9.out.step Q.out))
      have HC2 := Lib.hid (HBy2.out.to (Z9.out.step Q.out))
      have HC3 := Lib.hid (HA9.out.to Q.out)
      have HC4 := Lib.hid (HB9.out.to Q.out)
      have HU3 := Lib.hid (HV3.out.to (Z9.out.step Q.out))
      have HU5 := Lib.hid (HV5.out.to Q.out)
      have HR10 := Lib.hid hr10
      have X10 := Lib.hid (X9.out.step Q.out)
      have HNE := Lib.hid (show w6.heap.size ≠ b1 ∧ w6.heap.size ≠ b2 ∧ w8.heap.size ≠ b1 ∧ w8.heap.size ≠ b2 from by have h1 := HN3.out; have h2 := Z8.out.size; omega)
      refine ⟨HMK.out _ HC3.out HC4.out, ?_⟩
      clear hS0 hx10 hr10
      try simp only [Act.put, List.setIfInBounds_toArray, List.set_cons_zero, List.set_cons_succ]
      refine held_one (i := 8) (by kernel_rfl) rfl (by rfl) ?_
      refine wp_store_ar (.tmp 6) (.tmp 102) (by rfl) b1 (by rfl) (.slice A3 n3 c3) (.slice B3 m3 d3) (by rfl) rfl rfl _ HC1.out (by simp) ?_
      intro w11 B11 O11
      have HD1 := Lib.hid (show Bx w11 b1 #[.slice A3 n3 c3, .slice B3 m3 d3] from B11)
      have HD2 := Lib.hid (O11.bx HC2.out (by have := hW1.out; omega))
      have HD3 := Lib.hid (O11.bx HC3.out HNE.out.1)
      have HD4 := Lib.hid (O11.bx HC4.out HNE.out.2.2.1)
      have HW3 := Lib.hid (HU3.out.past HC1.out (by simp) (by simp) O11)
      have HW5 := Lib.hid (HU5.out.past HC1.out (by simp) (by simp) O11)
      have HR11 := Lib.hid (HR10.out.past HC1.out (by simp) (by simp) O11)
      have X11 := Lib.hid (O11.new X10.out (by have := hW1.out; omega))
      refine ⟨HMK.out _ HD3.out HD4.out, ?_⟩
      clear B11 O11
      try simp only [Act.put, List.setIfInBounds_toArray, List.set_cons_zero, List.set_cons_succ]
      refine held_one (i := 9) (by kernel_rfl) rfl (by rfl) ?_
      go_simp
      refine ⟨HMK.out _ HD3.out HD4.out, ?_⟩
      try simp only [Act.put, List.setIfInBounds_toArray, List.set_cons_zero, List.set_cons_succ]
      refine held_one (i := 10) (by kernel_rfl) rfl (by rfl) ?_
      refine wp_store_ar (.tmp 8) (.tmp 104) (by rfl) b2 (by rfl) (.slice A5 n5 c5) (.slice B5 m5 d5) (by rfl) rfl rfl _ HD2.out (by simp) ?_
      intro w12 B12 O12
      have HE2 := Lib.hid (show Bx w12 b2 #[.slice A5 n5 c5, .slice B5 m5 d5] from B12)
      have HE1 := Lib.hid (O12.bx HD1.out (by have := hW1.out; omega))
      have HE3 := Lib.hid (O12.bx HD3.out HNE.out.2.1)
      have HE4 := Lib.hid (O12.bx HD4.out HNE.out.2.2.2)
      have HY3 := Lib.hid (HW3.out.past HD2.out (by simp) (by simp) O12)
      have HY5 := Lib.hid (HW5.out.past HD2.out (by simp) (by simp) O12)
      have HR12 := Lib.hid (HR11.out.past HD2.out (by simp) (by simp) O12)
      have X12 := Lib.hid (O12.new X11.out (by have := hW1.out; omega))
      refine ⟨HMK.out _ HE3.out HE4.out, ?_⟩
      clear B12 O12
      try simp only [Act.put, List.setIfInBounds_toArray, List.set_cons_zero, List.set_cons_succ]
      refine held_one (i := 11) (by kernel_rfl) rfl (by rfl) ?_
      go_simp
      refine ⟨HMK.out _ HE3.out HE4.out, ?_⟩
      try simp only [Act.put, List.setIfInBounds_toArray, List.set_cons_zero, List.set_cons_succ]
      refine held_one (i := 12) (by kernel_rfl) rfl (by rfl) ?_
      go_simp
      refine ⟨HMK.out _ HE3.out HE4.out, ?_⟩
      try simp only [Act.put, List.setIfInBounds_toArray, List.set_cons_zero, List.set_cons_succ]
      refine ⟨by kernel_rfl, ?_⟩
      go_wp2_with fail
      go_roundw
      case rel => exact ⟨X12, k + 1, z3, z5, by omega, by go_num, rfl, rfl, Lib.hid ⟨_, _, _, _, _, _, HE1.out, HY3.out⟩, Lib.hid ⟨_, _, _, _, _, _, HE2.out, HY5.out⟩, HR12⟩
      case measure => simp [intOf]; omega
    · have hkm : k = m := by omega
      have hlen := HL.out
      have hge : m ≤ k := by omega
      obtain ⟨A1, n1, c1, B1, m1, d1, hB1, hV1⟩ := hS1.out
      obtain ⟨A2, n2, c2, B2, m2, d2, hB2, hV2⟩ := hS2.out
      have hrr := hR.out
      rw [List.take_of_length_le (show kA.length ≤ k by rw [HKA.out]; simp [keysA]; omega)] at hrr
      obtain ⟨AR, cR, hrow, hr, hrc, hrm⟩ := hrr
      subst hrow
      have e1 : kA.take k = kA := List.take_of_length_le (by rw [HKA.out]; simp [keysA]; omega)
      have e2 : kB.take k = kB := List.take_of_length_le (by rw [HKB.out]; simp [keysB]; omega)
      have e3 : shp kB = shp kA := by rw [HKA.out, HKB.out]; exact (keys_same _ _).symm
      have hl1 : (shp kA).length ≤ 8 := by have h1 := shp_len kA; have h2 : kA.length = m := by rw [HKA.out]; simp [keysA, hlen]
                                           omega
      rw [e1] at hV1
      rw [e2, e3] at hV2
      have hsm : Sm (shp kA) := shp_sm _ (fun q hq => by rw [HKA.out] at hq; exact keysA_in hq)
      have HI1 := Lib.hid (smt_is hV1 hsm ⟨AR, cR, rfl, hr, hrc, hrm⟩)
      have HI2 := Lib.hid (smt_is hV2 hsm ⟨AR, cR, rfl, hr, hrc, hrm⟩)
      obtain ⟨nR, hnR⟩ : ∃ nR, nR = (shp kA).length := ⟨_, rfl⟩
      rw [← hnR] at HI1 HI2 ⊢
      have HBx1 := Lib.hid hB1
      have HBx2 := Lib.hid hB2
      have HX := Lib.hid hx
      clear hnR hB1 hB2 hV1 hV2 hr hrc hrm e1 e2 e3 hl1 hsm hS1 hS2 hR hx hlen
      go_wp2_with fail
      refine (HAl.out _).mono ?_
      rintro e w5 ⟨rfl, hx5⟩
      have X5 := Lib.hid hx5
      have k0 : w5.cell? ⟨b1, 0, none⟩ = some (.slice A1 n1 c1) := (HBx1.out.to hx5).cell 0
      have k1 : w5.cell? ⟨b1, 1, none⟩ = some (.slice B1 m1 d1) := (HBx1.out.to hx5).cell 1
      clear hx5
      go_wp2_with fail
      refine (HI1.out _ X5.out).mono ?_
      rintro e w6 ⟨rfl, hx6⟩
      have X6 := Lib.hid (X5.out.step hx6)
      have m0 : w6.cell? ⟨b2, 0, none⟩ = some (.slice A2 n2 c2) := (HBx2.out.to X6.out).cell 0
      have m1' : w6.cell? ⟨b2, 1, none⟩ = some (.slice B2 m2 d2) := (HBx2.out.to X6.out).cell 1
      clear hx6 k0 k1
      go_wp2_with fail
      refine (HI2.out _ X6.out).mono ?_
      rintro e w7 ⟨rfl, hx7⟩
      have X7 := Lib.hid (HX.out.step (X6.out.step hx7))
      clear hx7 m0 m1'
      go_wp2_with fail
      go_ret
      exact ⟨rfl, X7.out⟩

theorem HamtShape_walk (w : World) (A : Option Addr) (n c : Nat) (zs : List Int) (h : Rd w 1 A n (Ks .i64 zs)) (hn : n ≤ c) (hc : c ≤ maxLen) (_ : ∀ z ∈ zs, (Lit.int .i64 z).wf = true) (q : Int) (_ : (Lit.int .i64 q).wf = true) :
    Calls Try.prog 6 #[.slice A n c, .int .i64 q] w fun e w' => e = .returned (.bool true) ∧ Ext w w' := by
  have hA : A = none → n = 0 := fun e => by
    rcases Nat.eq_zero_or_pos n with h' | h'
    · exact h'
    · obtain ⟨ad, ha⟩ := h.some_ h' (by omega)
      rw [e] at ha; cases ha
  have hk : min n 8 ≤ n := by omega
  have ht : (Ks .i64 zs).take (min n 8 * 1) = Ks .i64 (zs.take (min n 8)) := by simp [Ks, List.map_take]
  exact shape_m A n c (min n 8) (zs.take (min n 8)) q w (ht ▸ h.take hk) hn hc hk (by omega) (by omega) hA
end Go.Proofs.Ytfoifcbaadnigaa
