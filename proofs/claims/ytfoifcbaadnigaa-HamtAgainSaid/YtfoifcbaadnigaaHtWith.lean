/-
  Contract: the node of tables, or of leaves (nodeWith).
-/
import Derived.Test.YtfoifcbaadnigaaHtNode
set_option linter.unusedVariables false
set_option linter.unusedSimpArgs false
namespace Go.Proofs.Ytfoifcbaadnigaa
open Go.RowKit

theorem ith_over {zs : List Int} {i : Nat} (h : zs.length ≤ i) : ith zs i = 0 := by
  simp [ith, List.getD_eq_getElem?_getD, h]
theorem box_kid (k g s : Int) (zs : List Int) {i : Nat} (hi : i < 9) : (boxNd k g s zs).arr[5 + i]? = some (.int .u64 (ith zs i)) := by
  have : i = 0 ∨ i = 1 ∨ i = 2 ∨ i = 3 ∨ i = 4 ∨ i = 5 ∨ i = 6 ∨ i = 7 ∨ i = 8 := by omega
  rcases this with rfl | rfl | rfl | rfl | rfl | rfl | rfl | rfl | rfl <;> rfl
theorem box_else (k g s : Int) (zs us : List Int) {j : Nat} (hj : j < 5 ∨ 14 ≤ j) : (boxNd k g s zs).arr[j]? = (boxNd k g s us).arr[j]? := by
  by_cases h : j < 16
  · have : j = 0 ∨ j = 1 ∨ j = 2 ∨ j = 3 ∨ j = 4 ∨ j = 14 ∨ j = 15 := by omega
    rcases this with rfl | rfl | rfl | rfl | rfl | rfl | rfl <;> rfl
  · rw [Array.getElem?_eq_none (by rw [Nd.arr_size]; omega), Array.getElem?_eq_none (by rw [Nd.arr_size]; omega)]
theorem box_copied {w : World} {b k : Nat} {zs : List Int} {kd g s : Int} (hB : Bx w b (boxNd kd g s []).arr) (hz : zs.length = k) (hk : k ≤ 9) : Bx (w.setCells b 5 (Us zs)) b (boxNd kd g s zs).arr := by
  have hin : ∀ j, j < (Us zs).length → (w.cell? ⟨b, 5 + j, none⟩).isSome = true := fun j hj => by
    rw [Us_length] at hj
    rw [hB.cell, box_kid _ _ _ _ (by omega)]; rfl
  refine ⟨Nat.lt_of_lt_of_le hB.lt (setCells_only b _ 5 w w (Only.refl b w)).size, fun j => ?_, fun j => by rw [World.frozen?_setCells]; exact hB.free j⟩
  by_cases h1 : 5 ≤ j ∧ j < 5 + k
  · obtain ⟨i, rfl⟩ : ∃ i, j = 5 + i := ⟨j - 5, by omega⟩
    rw [World.cell?_setCells_in b (Us zs) 5 w hin i (by rw [Us_length]; omega), box_kid _ _ _ _ (by omega), ← List.getElem?_eq_getElem (by rw [Us_length]; omega), Us_get, ith_of zs (by omega)]
    rfl
  · rw [World.cell?_setCells_out b (Us zs) 5 w ⟨b, j, none⟩ (fun _ _ => by
      show j < 5 ∨ 5 + (Us zs).length ≤ j
      rw [Us_length]
      omega), hB.cell]
    by_cases h2 : j < 5 ∨ 14 ≤ j
    · exact box_else _ _ _ _ _ h2
    · obtain ⟨i, rfl⟩ : ∃ i, j = 5 + i := ⟨j - 5, by omega⟩
      rw [box_kid _ _ _ _ (by omega), box_kid _ _ _ _ (by omega), ith_over (by simp), ith_over (by omega)]

/-- THE OPERATION: references are copied into a node's kids. -/
theorem wpList_copy_kids {ops : Array Oper} {rest : List Oper} {o : Oper} {a : Act} {w : World} {Q : Exit → Act → World → Prop} (hgd : o.guard = none) (d s : Operand)
    (ho : o.op = .call { callee := .builtin .copy, args := #[d, s], argTypes := #[78, 78] }) (b : Nat) (hd : a.eval d = .slice (some ⟨b, 5, none⟩) 9 9) (S : Option Addr) (k c : Nat) (hs : a.eval s = .slice S k c) (zs : List Int)
    (hS : Rd w 1 S k (Us zs)) (hk : k ≤ 9) (kd g z : Int) (hB : Bx w b (boxNd kd g z []).arr)
    (h : ∀ W, Bx W b (boxNd kd g z zs).arr → Only b w W → wpList Try.prog ops Q rest (a.put o.dst (goInt k)) W) : wpList Try.prog ops Q (o :: rest) a w := by
  have hz : zs.length = k := hS.u64len
  have hX := box_copied hB hz hk
  have hrun : (Builtin.copy_ #[78, 78] o.type #[.slice (some ⟨b, 5, none⟩) 9 9, .slice S k c]).run Try.prog w = .ok (goInt k) (w.setCells b 5 (Us zs)) := by
    cases S with
    | none =>
      have h0 : k = 0 := by
        rcases Nat.eq_zero_or_pos k with h | h
        · exact h
        · obtain ⟨_, h'⟩ := hS.some_ h (by omega)
          cases h'
      subst h0
      rw [List.eq_nil_of_length_eq_zero hz]
      exact run_copy_none w _ _ _ 31 _ _ _ _ _ _ Try.underlying78 (by kernel_rfl) (by simp)
    | some ad =>
      have := run_copy_cells (P := Try.prog) w 78 78 o.type 31 b 5 9 9 ad k c (Us zs) Try.underlying78 (by kernel_rfl) (by rw [Us_length, hz]; exact (Nat.min_eq_left hk).symm) hS.cells (fun j hj => by
        rw [Us_length] at hj
        rw [hB.cell, box_kid _ _ _ _ (by omega)]; rfl) (fun j _ => hB.free _) (Us_one zs)
      rw [Us_length, hz] at this
      exact this
  refine wpList_plain hgd fun K hK => ?_
  unfold Oper.wp execOp
  simp only [ho, resolve, invoke, builtin, Sem.run_bind, Sem.run_pure, Result.andThen_ok, List.map_toArray, List.map_cons, List.map_nil, hd, hs, hrun]
  exact hK _ _ (h _ hX (setCells_only b _ 5 w w (Only.refl b w)))

/-- What references' tables have, added up. -/
def sumS (ns : List Nd) (zs : List Int) : Int := zs.foldl (fun s z => wrap64 (s + szF ns z)) 0
theorem sumS_snoc {ns : List Nd} {zs : List Int} {k : Nat} (hk : k < zs.length) : sumS ns (zs.take (k + 1)) = wrap64 (sumS ns (zs.take k) + szF ns (ith zs k)) := by
  unfold sumS
  rw [List.take_add_one, ith_of zs hk]
  simp
theorem box_sum (k g s s' : Int) (zs : List Int) : (boxNd k g s zs).arr.setIfInBounds 4 (.int .i64 s') = (boxNd k g s' zs).arr := rfl

set_option maxHeartbeats 1600000 in
set_option maxRecDepth 100000 in
theorem htWith_is (A B : Option Addr) (n c m d : Nat) (ns : List Nd) (kd gen : Int) (K : Option Addr) (k cK : Nat) (zs : List Int) (w : World) (h : Rd w 16 A n (flat Nd.cells ns)) (hK : Rd w 1 K k (Us zs)) (hk9 : k ≤ 9) (hU : ∀ z ∈ zs, U z) :
    Calls Try.prog 59 #[.agg #[.slice A n c, .slice B m d], .int .i64 kd, .int .i64 gen, .slice K k cK] w fun e w' => e = .returned (.agg (boxNd kd gen (sumS ns zs) zs).arr) ∧ Ext w w' := by
  have hz : zs.length = k := hK.u64len
  obtain ⟨w1, hw1⟩ : ∃ w1, w1 = w.alloc (.cells #[.slice A n c, .slice B m d] 26) := ⟨_, rfl⟩
  obtain ⟨w2, hw2⟩ : ∃ w2, w2 = w1.alloc (.cells #[.int .i64 0, .int .i64 0, .int .i64 0, .int .i64 0, .int .i64 0, .int .u64 0, .int .u64 0, .int .u64 0, .int .u64 0, .int .u64 0, .int .u64 0, .int .u64 0, .int .u64 0, .int .u64 0, .int .i64 0, .int .i64 0] 68) := ⟨_, rfl⟩
  obtain ⟨w3, hw3⟩ : ∃ w3, w3 = w2.alloc (.cells #[.int .i64 0, .int .i64 0, .int .i64 0, .int .i64 0, .int .i64 0, .int .u64 0, .int .u64 0, .int .u64 0, .int .u64 0, .int .u64 0, .int .u64 0, .int .u64 0, .int .u64 0, .int .u64 0, .int .i64 0, .int .i64 0] 68) := ⟨_, rfl⟩
  obtain ⟨B1, hx1, hs1⟩ := box_made hw1
  obtain ⟨B2, hx2, hs2⟩ := box_made hw2
  obtain ⟨B3, hx3, hs3⟩ := box_made hw3
  rw [hs1] at B2
  rw [hs2, hs1] at B3
  have HB1 := Lib.hid (B1.to (hx2.step hx3))
  have HB2 := Lib.hid (B2.to hx3)
  have HB3 := Lib.hid B3
  have H1 := Lib.hid hw1
  have H2 := Lib.hid hw2
  have H3 := Lib.hid hw3
  have X3 := Lib.hid ((hx1.step hx2).step hx3)
  have HA := Lib.hid h
  have HK := Lib.hid hK
  have HS := Lib.hid (fun i (hi : i < k) W (hW : Ext w W) => htSize_is A B n c m d ns (ith zs i) W (hU _ (List.mem_of_getElem? (ith_of zs (by omega)))).1 (hU _ (List.mem_of_getElem? (ith_of zs (by omega)))).2 (HA.out.to hW))
  have HZ := Lib.hid hz
  clear hw1 hw2 hw3 B1 B2 B3 hx1 hx2 hx3 hs1 hs2 hs3 h hK hU hz
  go_enter Try.func59, Try.ntmps59
  go_wp2_with (first
    | (rw [← H1.out, ← H2.out, ← H3.out]; refine wpList_store_box (by rfl) _ _ (by rfl) _ (by rfl) (boxNd kd gen 0 []) (by rfl) _ HB3.out rfl ?_; intro w4 hb4 ho4)
    | (refine wpList_copy_kids rfl (.tmp 16) (.tmp 17) (by rfl) (w.heap.size + 1 + 1) (by rfl) K k cK (by rfl) zs (HK.out.to (ho4.new X3.out (by omega))) hk9 kd gen 0 hb4 ?_
       intro w5 hb5 ho5))
  have HB5 := Lib.hid hb5
  have hA5 := Lib.hid ((ho4.trans ho5).bx HB1.out (by omega))
  have hR5 := Lib.hid ((ho4.trans ho5).bx HB2.out (by omega))
  have X5 := Lib.hid ((ho4.trans ho5).new X3.out (by omega))
  clear hb4 ho4 hb5 ho5
  go_loopw [21, 11] (fun j _ wr => Hid (Ext w wr) ∧ Hid (Bx wr w.heap.size #[.slice A n c, .slice B m d]) ∧ Hid (Bx wr (w.heap.size + 1) #[.int .i64 0, .int .i64 0, .int .i64 0, .int .i64 0, .int .i64 0, .int .u64 0, .int .u64 0, .int .u64 0, .int .u64 0, .int .u64 0, .int .u64 0, .int .u64 0, .int .u64 0, .int .u64 0, .int .i64 0, .int .i64 0]) ∧ ∃ i : Nat, i ≤ k ∧ j = .int .i64 i ∧ Hid (Bx wr (w.heap.size + 1 + 1) (boxNd kd gen (sumS ns (zs.take i)) zs).arr)) (fun j _ _ => k - (intOf j).toNat)
  case atStart => exact ⟨X5, hA5, hR5, 0, by omega, rfl, HB5⟩
  case round =>
    obtain ⟨hx, hba, hbr, i, hi, rfl, hbn⟩ := hrel
    rename World => w6
    by_cases hik : i < k
    · obtain ⟨ad, rfl⟩ := HK.out.some_ (by omega) (by omega)
      have c0 : w6.cell? (ad.add i) = some (.int .u64 (ith zs i)) := hx.out.cellOf (HK.out.u64 hik)
      have HSI := Lib.hid (HS.out i hik)
      have HN := Lib.hid (sumS_snoc (ns := ns) (zs := zs) (k := i) (by rw [HZ.out]; exact hik))
      obtain ⟨zi, hzi⟩ : ∃ zi, zi = ith zs i := ⟨_, rfl⟩
      obtain ⟨s0, hs0⟩ : ∃ s, s = sumS ns (zs.take i) := ⟨_, rfl⟩
      rw [← hs0] at hbn
      rw [← hs0] at HN
      rw [← hzi] at HN HSI c0
      obtain ⟨si, hsi⟩ : ∃ s, s = szF ns zi := ⟨_, rfl⟩
      rw [← hsi] at HN HSI
      have z0 := fun q : Later w6 => (hba.out.to q.ext).cell 0
      have z1 := fun q : Later w6 => (hba.out.to q.ext).cell 1
      have z4 : ∀ q : Later w6, q.w.cell? ⟨w.heap.size + 1 + 1, 4, none⟩ = some (.int .i64 s0) := fun q => ((hbn.out.to q.ext).cell 4).trans rfl
      simp only [List.getElem?_toArray, List.getElem?_cons_zero, List.getElem?_cons_succ] at z0 z1
      have Z := Lib.hid (And.intro z0 (And.intro z1 z4))
      clear z0 z1 z4 hs0 hzi hsi
      go_wp2_with fail
      obtain ⟨z0, z1, z4⟩ := Z.out
      refine wp_region_later_tail 7 w6 (Ext.refl _) (by kernel_rfl) (by kernel_rfl) ?_
      simp only [List.take_succ_cons, List.take_zero, List.drop_succ_cons, List.drop_zero]
      repeat (go_big_quiet_step (first | (go_at_call 35; exact later_call (fun W hW => HSI.out W (hx.out.step hW)))))
      refine wpQuiet_nil ?_
      rintro _ ⟨q, rfl⟩
      clear z0 z1 z4
      have g4 := (hbn.out.to q.ext).free 4
      have g0 : q.w.cell? ⟨w.heap.size + 1 + 1, 4, none⟩ = some (.int .i64 s0) := ((hbn.out.to q.ext).cell 4).trans rfl
      obtain ⟨w8, hw8⟩ : ∃ w8, w8 = q.w.setCell ⟨w.heap.size + 1 + 1, 4, none⟩ (.int .i64 (wrap64 (s0 + si))) := ⟨_, rfl⟩
      have O8 : Only (w.heap.size + 1 + 1) q.w w8 := by rw [hw8]; exact (Only.refl _ _).set _ _
      have B8 : Bx w8 (w.heap.size + 1 + 1) (boxNd kd gen (sumS ns (zs.take (i + 1))) zs).arr := by rw [hw8, HN.out, ← box_sum kd gen s0]; exact (hbn.out.to q.ext).set (by rw [Nd.arr_size]; omega) _
      have F8 := Lib.hid (And.intro (O8.new (hx.out.step q.ext) (by omega)) (And.intro (O8.bx (hba.out.to q.ext) (by omega)) (And.intro (O8.bx (hbr.out.to q.ext) (by omega)) B8)))
      have H8 := Lib.hid hw8
      clear hw8 O8 B8
      go_wp2_with fail
      rw [← H8.out]
      exact ⟨⟨Lib.hid F8.out.1, Lib.hid F8.out.2.1, Lib.hid F8.out.2.2.1, i + 1, by omega, rfl, Lib.hid F8.out.2.2.2⟩, by simp [intOf]; omega⟩
    · obtain rfl : i = k := by omega
      have n5 := hbn.out.node
      rw [List.take_of_length_le (by rw [HZ.out]; exact Nat.le_refl _)] at n5
      have HBR := hbr.out
      have HX5 := hx
      clear hx hba hbr hbn
      go_wp2_with (first
        | (refine wpList_load_nd (by rfl) _ (by rfl) _ (by rfl) (boxNd kd gen (sumS ns zs) zs) n5 ?_)
        | (refine wpList_store_box (by rfl) _ _ (by rfl) _ (by rfl) (boxNd kd gen (sumS ns zs) zs) (by rfl) _ HBR rfl ?_; intro wz hbz hoz))
      refine bodyPost_ret (results_nd1 rfl _ _ ⟨w.heap.size + 1, 0, none⟩ (boxNd kd gen (sumS ns zs) zs) (by rfl) hbz.node) rfl ⟨rfl, ?_⟩
      exact hoz.new HX5.out (by omega)

end Go.Proofs.Ytfoifcbaadnigaa
