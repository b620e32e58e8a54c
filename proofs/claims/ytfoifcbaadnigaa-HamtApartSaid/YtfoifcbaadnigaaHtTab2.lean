/-
  Contracts: which references are tables' (isTable, isTrie, isClash).
-/
import Derived.Test.YtfoifcbaadnigaaHtTab
import Derived.Test.YtfoifcbaadnigaaGF
set_option linter.unusedVariables false
set_option linter.unusedSimpArgs false
namespace Go.Proofs.Ytfoifcbaadnigaa
open Go.RowKit

theorem nd_k (x : Nd) (W : World) : (Instr.field 68 (.agg x.arr) 0).run Try.prog W = .ok (.int .i64 x.k) W := by
  simp only [Instr.field, Sem.run_bind, run_underlying Try.underlying68, Result.andThen_ok]
  exact part_i64 (t := 3) Try.underlying3 x 0 _ x.a0
theorem Bx.kidAt {W : World} {b : Nat} {x : Nd} (h : Bx W b x.arr) {i : Nat} (hi : i < 9) : W.cell? ⟨b, 5 + i, none⟩ = some (.int .u64 (ith x.kids i)) := by
  rw [h.cell]
  have : i = 0 ∨ i = 1 ∨ i = 2 ∨ i = 3 ∨ i = 4 ∨ i = 5 ∨ i = 6 ∨ i = 7 ∨ i = 8 := by omega
  rcases this with rfl | rfl | rfl | rfl | rfl | rfl | rfl | rfl | rfl <;> rfl
theorem Bx.kidRow {W : World} {b : Nat} {x : Nd} (h : Bx W b x.arr) {m : Nat} (hm : m ≤ 9) : Rd W 1 (some ⟨b, 5, none⟩) m (Us (x.kids.take m)) := by
  have hl : (x.kids.take m).length = m := by rw [List.length_take]; simp [Nd.kids]; omega
  refine ⟨by rw [Us_length, hl, Nat.mul_one], fun j u hu => ⟨_, rfl, ?_⟩⟩
  have hj : j < m := by
    have := (List.getElem?_eq_some_iff.1 hu).1
    rw [Us_length, hl] at this
    exact this
  rw [Us_get, List.getElem?_take_of_lt hj, ith_of x.kids (by simp [Nd.kids]; omega)] at hu
  simp at hu
  rw [← hu, ← h.kidAt (i := j) (by omega)]
  congr 1
  unfold Addr.add
  split
  · rename_i h0; subst h0; rfl
  · rfl

theorem ok_kid {x : Nd} (h : x.Ok) (i : Nat) : U (ith x.kids i) := by
  by_cases hi : i < 9
  · exact h _ (List.mem_of_getElem? (ith_of x.kids (by simp [Nd.kids]; omega)))
  · rw [ith_over (by simp [Nd.kids]; omega)]; exact U.zero

set_option maxHeartbeats 4000000 in
set_option maxRecDepth 100000 in
theorem htClash_is (A B : Option Addr) (n c m' d : Nat) (ns : List Nd) (x : Nd) (q : Int) (w : World) (hxo : x.Ok) (h : Rd w 16 A n (flat Nd.cells ns)) (b : Bool) (hb : b = true ↔ ClashOk ns q x) :
    Calls Try.prog 55 #[.agg #[.slice A n c, .slice B m' d], .agg x.arr, .int .i64 q] w fun e w' => e = .returned (.bool b) ∧ Ext w w' := by
  have HA := Lib.hid h
  obtain ⟨w1, hw1⟩ : ∃ w1, w1 = w.alloc (.cells #[.slice A n c, .slice B m' d] 26) := ⟨_, rfl⟩
  obtain ⟨B1, hx1, hs1⟩ := box_made hw1
  obtain ⟨w2, hw2⟩ : ∃ w2, w2 = w1.alloc (.cells x.arr 68) := ⟨_, rfl⟩
  obtain ⟨B2, hx2, hs2⟩ := box_made hw2
  rw [hs1] at B2
  have H1 := Lib.hid hw1
  have H2 := Lib.hid hw2
  have HB1 := Lib.hid (B1.to hx2)
  have HB2 := Lib.hid B2
  have X2 := Lib.hid (hx1.step hx2)
  have HXO := Lib.hid hxo
  have n2 := B2.node
  have k4 : w2.cell? ⟨w.heap.size + 1, 4, none⟩ = some (.int .i64 x.s) := (B2.cell 4).trans x.a4
  have k1 : w2.cell? ⟨w.heap.size + 1, 1, none⟩ = some (.int .i64 x.g) := (B2.cell 1).trans x.a1
  have i0 : w2.cell? ⟨w.heap.size, 0, none⟩ = some (.slice A n c) := HB1.out.cell 0
  have i1 : w2.cell? ⟨w.heap.size, 1, none⟩ = some (.slice B m' d) := HB1.out.cell 1
  have HBB := Lib.hid hb
  clear hw1 B1 hx1 hs1 hw2 B2 hx2 hs2 h hxo hb
  by_cases hs2 : x.s < 2
  · obtain rfl : b = false := by
      cases b with
      | false => rfl
      | true => have := (HBB.out.1 rfl).two; omega
    obtain ⟨s, hs⟩ : ∃ s, s = x.s := ⟨_, rfl⟩
    rw [← hs] at k4 hs2
    clear hs
    go_enter Try.func55, Try.ntmps55
    go_upto_region 1 with fail
    rw [← H1.out, ← H2.out]
    go_wp2_with fail
    go_ret
    exact ⟨rfl, X2.out⟩
  by_cases hs9 : 9 < x.s
  · obtain rfl : b = false := by
      cases b with
      | false => rfl
      | true => have := (HBB.out.1 rfl).le; omega
    obtain ⟨s, hs⟩ : ∃ s, s = x.s := ⟨_, rfl⟩
    rw [← hs] at k4 hs2 hs9
    clear hs
    go_enter Try.func55, Try.ntmps55
    go_upto_region 1 with fail
    rw [← H1.out, ← H2.out]
    go_wp2_with fail
    go_ret
    exact ⟨rfl, X2.out⟩
  obtain ⟨m, hm⟩ : ∃ m : Nat, x.s = m := Int.eq_ofNat_of_zero_le (by omega)
  have HM := Lib.hid hm
  rw [hm] at k4 hs2 hs9
  have hm9 : m ≤ 9 := by omega
  have hm2 : ¬ m < 2 := by omega
  have hm99 : ¬ 9 < m := by omega
  obtain ⟨zs, hzs⟩ : ∃ zs, zs = x.kids.take m := ⟨_, rfl⟩
  have HZ := Lib.hid hzs
  have HR2 := Lib.hid (show ∀ W, Ext w2 W → Rd W 1 (some ⟨w.heap.size + 1, 5, none⟩) m (Us zs) from fun W hW => by rw [hzs]; exact (HB2.out.to hW).kidRow hm9)
  have HW := Lib.hid (fun W (hW : Ext w2 W) cc => htWith_is A B n c m' d ns 4 x.g (some ⟨w.heap.size + 1, 5, none⟩) m cc zs W (HA.out.to (X2.out.step hW)) (HR2.out W hW) hm9 (fun z hz => by
    rw [hzs] at hz
    exact HXO.out z (List.mem_of_mem_take hz)))
  obtain ⟨S, hS⟩ : ∃ S, S = sumS ns zs := ⟨_, rfl⟩
  rw [← hS] at HW
  have HSS := Lib.hid hS
  obtain ⟨u, hu⟩ : ∃ u, u = decide (x = boxNd 4 x.g S zs) := ⟨_, rfl⟩
  have heq : ∀ W, (Op.equalIn 10000 68 (.agg x.arr) (.agg (boxNd 4 x.g S zs).arr)).run Try.prog W = .ok u W := fun W => by rw [hu]; exact nd_eq x (boxNd 4 x.g S zs) W
  have HU := Lib.hid hu
  have s0 := fun q : Later w2 => q.ext.cellOf i0
  have s1 := fun q : Later w2 => q.ext.cellOf i1
  have s2 := fun q : Later w2 => q.ext.cellOf k1
  have Z := Lib.hid (And.intro s0 (And.intro s1 s2))
  clear hm hzs hS hu hs2 hs9 s0 s1 s2
  go_enter Try.func55, Try.ntmps55
  go_upto_region 1 with fail
  rw [← H1.out, ← H2.out]
  go_wp2_with fail
  obtain ⟨s0, s1, s2⟩ := Z.out
  refine wp_region_later w2 (Ext.refl _) (by kernel_rfl) (by kernel_rfl) ?_
  repeat (first
    | go_big_quiet_step (first | (go_at_call 59; exact later_call (fun W hW => HW.out W hW 9)))
    | (refine wpQuiet_load_node ?_ (.tmp 4) (by rfl) _ ?_ x n2 ?_
       · rfl
       · rfl
       simp only [Act.put, List.setIfInBounds_toArray, List.set_cons_zero, List.set_cons_succ]))
  refine wpQuiet_nil ?_
  rintro _ ⟨q1, rfl⟩
  clear s0 s1 s2
  cases u with
  | false =>
    obtain rfl : b = false := by
      cases b with
      | false => rfl
      | true =>
        have h3 := (HBB.out.1 rfl).is
        have h4 := HU.out
        rw [HM.out] at h3
        simp only [Int.toNat_natCast] at h3
        rw [HSS.out, HZ.out] at h4
        exact absurd h3 (of_decide_eq_false h4.symm)
    go_wp2_with fail
    go_ret
    exact ⟨rfl, X2.out.step q1.ext⟩
  | true =>
  have HIS := Lib.hid (show x = boxNd 4 x.g (sumS ns zs) zs by rw [← HSS.out]; exact of_decide_eq_true HU.out.symm)
  have HQ := Lib.hid q1.ext
  go_wp2_with fail
  go_loopw [31, 8, 9] (fun j _ _ wr => Hid (Ext w2 wr) ∧ ∃ k : Nat, k ≤ m ∧ j = .int .i64 k ∧ Hid (∀ i : Nat, i < k → (nodeF ns (ith x.kids i)).k = 3 ∧ TabQ ns 10 q (ith x.kids i) ∧ (0 < i → (nodeF ns (ith x.kids (i - 1))).n < (nodeF ns (ith x.kids i)).n))) (fun j _ _ _ => m - (intOf j).toNat)
  case atStart => exact ⟨HQ, 0, by omega, rfl, Lib.hid (fun i hi => by omega)⟩
  case round =>
    obtain ⟨hx, k, hk, rfl, hP⟩ := hrel
    rename World => w5
    by_cases hkm : k < m
    · obtain ⟨z, hz⟩ : ∃ z, z = ith x.kids k := ⟨_, rfl⟩
      have c5 : w5.cell? ⟨w.heap.size + 1, 5 + k, none⟩ = some (.int .u64 z) := by rw [hz]; exact (HB2.out.to hx.out).kidAt (by omega)
      have hUz : U z := by rw [hz]; exact ok_kid HXO.out k
      have c0 : w5.cell? ⟨w.heap.size, 0, none⟩ = some (.slice A n c) := hx.out.cellOf i0
      have c1 : w5.cell? ⟨w.heap.size, 1, none⟩ = some (.slice B m' d) := hx.out.cellOf i1
      have HN := Lib.hid (fun W (hW : Ext w5 W) => htNode_is A B n c m' d ns z W hUz.1 hUz.2 (HA.out.to (X2.out.step (hx.out.step hW))))
      have HT := Lib.hid (fun (h3 : (nodeF ns z).k = 3) (t : Bool) (ht : t = true ↔ TabQ ns 10 q z) W (hW : Ext w5 W) => htLeafT_is A B n c m' d ns z 10 q W hUz (HA.out.to (X2.out.step (hx.out.step hW))) (by omega) h3 t ht)
      have HKZ := Lib.hid (fun W (hW : Ext w5 W) => htKey_is A B n c m' d ns z W hUz.1 hUz.2 (HA.out.to (X2.out.step (hx.out.step hW))))
      have HZZ := Lib.hid hz
      obtain ⟨y, hy⟩ : ∃ y, y = nodeF ns z := ⟨_, rfl⟩
      have HY := Lib.hid hy
      rw [← hy] at HN HT HKZ
      have hfk := nd_k y
      obtain ⟨kk, hkk⟩ : ∃ kk, kk = y.k := ⟨_, rfl⟩
      rw [← hkk] at hfk HT
      have HKK := Lib.hid hkk
      have hnn : ¬ m ≤ k := by omega
      have hX5 := hx
      clear hx hz hy hkk
      by_cases h3 : kk = 3
      · obtain ⟨t, ht⟩ : ∃ t : Bool, t = true ↔ TabQ ns 10 q z := by
          by_cases hh : TabQ ns 10 q z
          · exact ⟨true, by simp [hh]⟩
          · exact ⟨false, by simp [hh]⟩
        have HT3 := Lib.hid (HT.out h3 t ht)
        have HTT := Lib.hid ht
        subst h3
        clear ht HT
        cases t with
        | false =>
          obtain rfl : b = false := by
            cases b with
            | false => rfl
            | true =>
              have h7 := ((HBB.out.1 rfl).kids k (by rw [HM.out]; simp; exact hkm)).2.1
              rw [← HZZ.out] at h7
              exact absurd (HTT.out.2 h7) (by simp)
          go_wp2_with (first
            | (go_at_call 34; refine (HN.out _ (Ext.refl _)).mono ?_; rintro e w6 ⟨rfl, hx6⟩; have c0' := hx6.cellOf c0; have c1' := hx6.cellOf c1)
            | (go_at_call 37; refine (HT3.out _ hx6).mono ?_; rintro e w7 ⟨rfl, hx7⟩))
          go_ret
          exact ⟨rfl, X2.out.step (hX5.out.step (hx6.step hx7))⟩
        | true =>
          go_wp2_with (first
            | (go_at_call 34; refine (HN.out _ (Ext.refl _)).mono ?_; rintro e w6 ⟨rfl, hx6⟩; have c0' := hx6.cellOf c0; have c1' := hx6.cellOf c1)
            | (go_at_call 37; refine (HT3.out _ hx6).mono ?_; rintro e w7 ⟨rfl, hx7⟩))
          have X7 := Lib.hid (hx6.step hx7)
          have HPk := Lib.hid (show (nodeF ns (ith x.kids k)).k = 3 ∧ TabQ ns 10 q (ith x.kids k) by rw [← HZZ.out, ← HY.out, ← HKK.out]; exact ⟨rfl, by have := HTT.out; simpa using this⟩)
          have e0 : w7.cell? ⟨w.heap.size, 0, none⟩ = some (.slice A n c) := X7.out.cellOf c0
          have e1 : w7.cell? ⟨w.heap.size, 1, none⟩ = some (.slice B m' d) := X7.out.cellOf c1
          have s0 := fun q : Later w7 => q.ext.cellOf e0
          have s1 := fun q : Later w7 => q.ext.cellOf e1
          have HBK := Lib.hid (HB2.out.to (hX5.out.step X7.out))
          clear hx6 hx7 c0 c1 c0' c1' e0 e1 HN HT3
          rcases Nat.eq_zero_or_pos k with h0 | h0
          · subst h0
            have HPP := Lib.hid (show ∀ i : Nat, i < 0 + 1 → (nodeF ns (ith x.kids i)).k = 3 ∧ TabQ ns 10 q (ith x.kids i) ∧ (0 < i → (nodeF ns (ith x.kids (i - 1))).n < (nodeF ns (ith x.kids i)).n) from fun i hi => by
              obtain rfl : i = 0 := by omega
              exact ⟨HPk.out.1, HPk.out.2, fun h => by omega⟩)
            clear hk
            refine wp_region_later w7 (Ext.refl _) (by kernel_rfl) (by kernel_rfl) ?_
            repeat (go_big_quiet_step (fail))
            refine wpQuiet_nil ?_
            rintro _ ⟨q7, rfl⟩
            clear s0 s1
            go_wp2_with fail
            refine ⟨?_, by simp [intOf]; omega⟩
            repeat apply Exists.intro
            exact ⟨⟨Lib.hid (hX5.out.step (X7.out.step q7.ext)), 0 + 1, by omega, rfl, HPP⟩, rfl⟩
          · obtain ⟨k', rfl⟩ : ∃ k', k = k' + 1 := ⟨k - 1, by omega⟩
            obtain ⟨z', hz'⟩ : ∃ z', z' = ith x.kids k' := ⟨_, rfl⟩
            have hUz' : U z' := by rw [hz']; exact ok_kid HXO.out k'
            have c6 : w7.cell? ⟨w.heap.size + 1, 5 + k', none⟩ = some (.int .u64 z') := by rw [hz']; exact HBK.out.kidAt (by omega)
            have s2 := fun q : Later w7 => q.ext.cellOf c6
            have HKZ' := Lib.hid (fun W (hW : Ext w7 W) => htKey_is A B n c m' d ns z' W hUz'.1 hUz'.2 (HA.out.to (X2.out.step (hX5.out.step (X7.out.step hW)))))
            obtain ⟨ka, hka⟩ : ∃ a, a = (nodeF ns z').n := ⟨_, rfl⟩
            obtain ⟨kb, hkb⟩ : ∃ a, a = y.n := ⟨_, rfl⟩
            rw [← hka] at HKZ'
            rw [← hkb] at HKZ
            have HKK1 := Lib.hid (show ka = (nodeF ns (ith x.kids k')).n by rw [hka, hz'])
            have HKK2 := Lib.hid (show kb = (nodeF ns (ith x.kids (k' + 1))).n by rw [hkb, HY.out, HZZ.out])
            have hk1 : ¬ m ≤ k' := by omega
            have hk2 : k' < m := by omega
            clear hz' hka hkb h0
            refine wp_region_later w7 (Ext.refl _) (by kernel_rfl) (by kernel_rfl) ?_
            repeat (go_big_quiet_step (first | (go_at_call 40; first | (with_reducible exact later_call HKZ'.out) | (with_reducible exact later_call (fun W hW => HKZ.out W (X7.out.step hW))))))
            refine wpQuiet_nil ?_
            rintro _ ⟨q7, rfl⟩
            clear s0 s1 s2
            by_cases hlt : ka < kb
            · have hd : ¬ kb ≤ ka := by omega
              have HPP := Lib.hid (show ∀ i : Nat, i < k' + 1 + 1 → (nodeF ns (ith x.kids i)).k = 3 ∧ TabQ ns 10 q (ith x.kids i) ∧ (0 < i → (nodeF ns (ith x.kids (i - 1))).n < (nodeF ns (ith x.kids i)).n) from fun i hi => by
                rcases (by omega : i < k' + 1 ∨ i = k' + 1) with h | rfl
                · exact hP.out i h
                · exact ⟨HPk.out.1, HPk.out.2, fun _ => by simp only [Nat.add_sub_cancel]; rw [← HKK1.out, ← HKK2.out]; exact hlt⟩)
              clear hlt
              go_wp2_with fail
              refine ⟨?_, by simp [intOf]; omega⟩
              repeat apply Exists.intro
              exact ⟨⟨Lib.hid (hX5.out.step (X7.out.step q7.ext)), k' + 1 + 1, by omega, rfl, HPP⟩, rfl, rfl, rfl, rfl⟩
            · have hd : kb ≤ ka := by omega
              obtain rfl : b = false := by
                cases b with
                | false => rfl
                | true =>
                  have h7 := ((HBB.out.1 rfl).kids (k' + 1) (by rw [HM.out]; simp only [Int.toNat_natCast]; omega)).2.2 (by omega)
                  simp only [Nat.add_sub_cancel] at h7
                  rw [← HKK1.out, ← HKK2.out] at h7
                  exact absurd h7 hlt
              clear hlt
              go_wp2_with fail
              go_ret
              exact ⟨rfl, X2.out.step (hX5.out.step (X7.out.step q7.ext))⟩
      · obtain rfl : b = false := by
          cases b with
          | false => rfl
          | true =>
            have h7 := ((HBB.out.1 rfl).kids k (by rw [HM.out]; simp; exact hkm)).1
            rw [← HZZ.out, ← HY.out, ← HKK.out] at h7
            exact absurd h7 h3
        have h33 : (kk != 3) = true := by simp [h3]
        go_wp2_with (first
          | (go_at_call 34; refine (HN.out _ (Ext.refl _)).mono ?_; rintro e w6 ⟨rfl, hx6⟩))
        go_ret
        exact ⟨rfl, X2.out.step (hX5.out.step hx6)⟩
    · obtain rfl : k = m := by omega
      obtain rfl : b = true := HBB.out.2 ⟨by rw [HM.out]; omega, by rw [HM.out]; omega, by rw [HM.out]; simp only [Int.toNat_natCast]; rw [← HZ.out]; exact HIS.out, fun i hi => hP.out i (by rw [HM.out] at hi; simpa using hi)⟩
      go_wp2_with fail
      go_ret
      exact ⟨rfl, X2.out.step hx.out⟩

end Go.Proofs.Ytfoifcbaadnigaa
