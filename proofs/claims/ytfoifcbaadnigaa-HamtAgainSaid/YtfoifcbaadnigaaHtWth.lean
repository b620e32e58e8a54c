/-
  Contract: a table in which a key's new leaf comes in the place of its old one (with), of a maker that has room.
-/
import Derived.Test.YtfoifcbaadnigaaHtWthM
set_option linter.unusedVariables false
set_option linter.unusedSimpArgs false
namespace Go.Proofs.Ytfoifcbaadnigaa
open Go.RowKit

theorem TOut.only {b : Nat} {ns : List Nd} {fs : List Int} {c : Nat} {g : List Nd → Int → Prop} {w : World} {e : Ending} {w' : World} (h : TOut b ns fs c g w e w') : Only b w w' := by
  obtain ⟨ns', fs', z, h1, h2, h3, _⟩ := h
  exact h3
theorem step_append_rd {P : Program} {w : World} {ops : Array Oper} {o : Oper} {a : Act} {K : Act → World → Prop} {Q : Exit → Act → World → Prop} {E : Prop} (hgd : o.guard = none) (s x : Operand) (t : TypeId)
    (ho : o.op = .call { callee := .builtin .append, args := #[s, x], argTypes := #[t, t] })
    (base : Nat) (e : TypeId) (i : TypeInfo) (z : Value) (size bytes : Nat) (ht : P.underlying t = some (.slice e)) (hi : P.info? e = some i) (hz : i.zero = some z)
    (hsize : i.size = size) (hby : i.bytes = bytes) (hzs : z.cells.size = size) (hsz : 0 < size)
    (v : Value) (n : Nat) (xs : List Value) (hs : a.eval s = v) (hown : w.ownsRow base e size v n xs)
    (A : Option Addr) (m c : Nat) (news : List Value) (hx : a.eval x = .slice A m c) (hr : Rd w size A m news) (h1 : ∀ u ∈ news, u.oneCell' = true)
    (h63 : n + m ≤ maxLen) (hbytes : (n + m) * bytes ≤ 140737488355328) (hbase : base ≤ w.heap.size)
    (h : ∀ v' w', w'.ownsRow base e size v' (n + m) (xs ++ news) → w.grownBy w' v.ownBlock → (v'.ownBlock = v.ownBlock ∨ v'.ownBlock = some w.heap.size) → K (a.put o.dst v') w') :
    if Region.wanted o (yielded ops a.tmps) = true then Oper.wp P o a w K Q else E := by
  have hw : Region.wanted o (yielded ops a.tmps) = true := by simp [Region.wanted, hgd]
  rw [if_pos hw]
  obtain ⟨v', w', hrun, h2, h3, h4⟩ := run_append_rd (P := P) w base t o.type e i z size bytes ht hi hz hsize hby hzs hsz v n xs hown A m c news hr h1 h63 hbytes hbase
  unfold Oper.wp
  simp [execOp, ho, resolve, invoke, builtin, hs, hx, hrun, Result.andThen]
  exact h v' w' h2 h3 h4
def WthG (key : Int) (lv : Nat) (t : HT) (new : List Lf) (ns' : List Nd) (z : Int) : Prop := ∃ t', Tr ns' lv t' ∧ t'.ref = z ∧ t'.lvs.Perm (newLs key t new)
def WthC (t : HT) : Prop :=
  ∀ (lv b : Nat) (ns : List Nd) (fs : List Int) (key : Int) (new : List Lf) (L : Option Addr) (n cL : Nat) (w : World), Mk w b ns fs 0 → WG ns key lv t new → Rd w 1 L n (Us (new.map Lf.r)) → lv ≤ 10 → 10 - lv ≤ fs.length →
    Calls Try.prog 23 #[.agg #[.pointer (some ⟨b, 0, none⟩)], .int .u64 t.ref, .int .i64 key, .int .i64 lv, .slice L n cL] w (TOut b ns fs (10 - lv) (WthG key lv t new) w)

set_option maxHeartbeats 4000000 in
set_option maxRecDepth 100000 in
/-- No digits are told apart. -/
theorem htWth_flat (t : HT) (hnk : t = .nil ∨ ∃ y, t = .leaf y) : WthC t := by
  intro lv b ns fs key new L n cL w h hg hL hlv hf
  obtain ⟨A, nA, cA, B, m, d, hb, ha, hA, hB⟩ := h.box
  obtain ⟨w1, hw1⟩ : ∃ w1, w1 = w.alloc (.cells #[.pointer (some ⟨b, 0, none⟩)] 62) := ⟨_, rfl⟩
  obtain ⟨B1, hx1, hs1⟩ := box_made hw1
  obtain ⟨w2, hw2⟩ : ∃ w2, w2 = w1.alloc (.cells #[.int .i64 key] 2) := ⟨_, rfl⟩
  obtain ⟨B2, hx2, hs2⟩ := box_made hw2
  rw [hs1] at B2
  have H1 := Lib.hid hw1
  have H2 := Lib.hid hw2
  have HB1 := Lib.hid (B1.to hx2)
  have HB2 := Lib.hid B2
  have X2 := Lib.hid (hx1.step hx2)
  have HBb := Lib.hid (hb.to (hx1.step hx2))
  have e0 : w2.cell? ⟨b, 0, none⟩ = some (.slice A nA cA) := HBb.out.cell 0
  have e1 : w2.cell? ⟨b, 1, none⟩ = some (.slice B m d) := HBb.out.cell 1
  have e2 : w2.cell? ⟨w.heap.size, 0, none⟩ = some (.pointer (some ⟨b, 0, none⟩)) := HB1.out.cell 0
  have HN := Lib.hid (htNode_is A B nA cA m d ns t.ref w2 hg.tr.u.1 hg.tr.u.2 (ha.nodes.to (hx1.step hx2)))
  have HA := Lib.hid ha
  have HMk := Lib.hid h
  have HG := Lib.hid hg
  have HL := Lib.hid hL
  have HF := Lib.hid hf
  have HOK := Lib.hid h.ok
  have hbw := Lib.hid hb.lt
  have hlby : lby key t lv = t.lvs := by rcases hnk with rfl | ⟨y, rfl⟩ <;> rfl
  have hkind : (nodeF ns t.ref).k ≠ 2 := by
    rcases hnk with rfl | ⟨y, rfl⟩
    · simp only [HT.ref]; rw [nodeF_zero]; simp [bare]
    · obtain ⟨g, e⟩ := Lv.nodeF hg.tr.rp
      simp only [HT.ref]; rw [e]; simp [leafNd]
  have hlen1 : t.lvs.length ≤ 1 := by rcases hnk with rfl | ⟨y, rfl⟩ <;> simp [HT.lvs]
  have HLv := Lib.hid (fun W (hW : Ext w W) => htLv_is A B nA cA m d ns h.ok key t lv hg.tr.rp hg.tr.sh W (ha.nodes.to hW) hg.tr.u)
  rw [hlby] at HLv
  obtain ⟨x, hx⟩ : ∃ x, x = nodeF ns t.ref := ⟨_, rfl⟩
  rw [← hx] at HN hkind
  have HK := Lib.hid hkind
  have hUl : ∀ i, i < (t.lvs.map Lf.r).length → U (ith (t.lvs.map Lf.r) i) := fun i hi => by
    obtain ⟨y, hy, he⟩ := List.mem_map.1 (List.mem_of_getElem? (ith_of _ hi))
    rw [← he]
    exact rp_u h.ok hg.tr.rp hg.tr.sh hg.tr.u y hy
  have HTL := Lib.hid (show ∀ W, Ext w2 W → Tells 46 (.pointer (some ⟨w.heap.size, 0, none⟩)) (.pointer (some ⟨w.heap.size + 1, 0, none⟩)) (fun z => (nodeF ns z).n == key) (t.lvs.map Lf.r) W from fun W hW i hi W' hW' =>
    htWith1_is A B nA cA m d ns key _ 0 b w.heap.size (w.heap.size + 1) W' (HBb.out.to (hW.step hW')) (HB1.out.to (hW.step hW')) (HB2.out.to (hW.step hW')) (HA.out.nodes.to (X2.out.step (hW.step hW'))) (hUl i hi))
  have HDl := Lib.hid (fun base S n' c' W (hW : Ext w2 W) hr => htDel1_is 46 (fun args w => by kernel_rfl) (.pointer (some ⟨w.heap.size, 0, none⟩)) (.pointer (some ⟨w.heap.size + 1, 0, none⟩)) base S n' c' (t.lvs.map Lf.r) (fun z => (nodeF ns z).n == key) W hr (by simpa using hlen1) (HTL.out W hW))
  have hfil : (t.lvs.map Lf.r).filter (fun z => !((nodeF ns z).n == key)) = (offK key t.lvs).map Lf.r := by
    unfold offK
    rw [List.filter_map]
    congr 1
    apply List.filter_congr
    intro y hy
    obtain ⟨g, e⟩ := (rp_lvs hg.tr.rp hy).nodeF
    simp [e, leafNd]
  have HFil := Lib.hid hfil
  have hgood := hg.good h.ok
  have hnl : (newLs key t new).length ≤ 2 := by
    have h1 := offK_le key t.lvs
    have h2 := hg.one
    simp only [newLs, List.length_append]; omega
  have hcost := ctF_two (10 - lv) lv _ (by omega) hgood hnl
  have HTb := Lib.hid (fun S n' c' W (hM : Mk W b ns fs 0) hr => htTable_is (10 - lv) lv (by omega) b ns fs (newLs key t new) S n' c' W hM hr (by omega) hgood (by omega))
  have HCost := Lib.hid hcost
  have HLen := Lib.hid (And.intro hlen1 hnl)
  have e3 : (x.k == 2) = false := by simp [HK.out]
  obtain ⟨i0, hi0, hz0, hz1, hz2⟩ := info_parts ref_inf
  clear hnk hlby hkind hlen1 hx hUl hfil hgood hnl hcost
  clear hw1 B1 hx1 hs1 hw2 B2 hx2 hs2 h hg hL hf hb ha hA hB
  go_enter Try.func23, Try.ntmps23
  go_upto_region 1 with fail
  rw [← H1.out, ← H2.out]
  go_wp2_with fail
  refine HN.out.mono ?_; rintro e w3 ⟨rfl, hx3⟩
  obtain ⟨w4, hw4⟩ : ∃ w4, w4 = w3.alloc (.cells x.arr 68) := ⟨_, rfl⟩
  obtain ⟨B4, hx4, hs4⟩ := box_made hw4
  have H4 := Lib.hid hw4
  have HB4 := Lib.hid B4
  have X4 := Lib.hid (X2.out.step (hx3.step hx4))
  have X24 := Lib.hid (hx3.step hx4)
  have hs3 := Lib.hid (show w.heap.size + 2 ≤ w3.heap.size by have := HB2.out.lt; have := hx3.size; omega)
  have k0 : w4.cell? ⟨w3.heap.size, 0, none⟩ = some (.int .i64 x.k) := (B4.cell 0).trans x.a0
  clear hw4 B4 hs4 hx3 hx4
  have s0 : w4.cell? ⟨b, 0, none⟩ = some (.slice A nA cA) := X24.out.cellOf e0
  have s1 : w4.cell? ⟨b, 1, none⟩ = some (.slice B m d) := X24.out.cellOf e1
  have s2 : w4.cell? ⟨w.heap.size, 0, none⟩ = some (.pointer (some ⟨b, 0, none⟩)) := X24.out.cellOf e2
  have s3 : w4.cell? ⟨w.heap.size + 1, 0, none⟩ = some (.int .i64 key) := X24.out.cellOf (HB2.out.cell 0)
  have HSS := Lib.hid (show ∀ W, Ext w4 W → W.cell? ⟨b, 0, none⟩ = some (.slice A nA cA) ∧ W.cell? ⟨b, 1, none⟩ = some (.slice B m d) ∧ W.cell? ⟨w.heap.size, 0, none⟩ = some (.pointer (some ⟨b, 0, none⟩)) ∧ W.cell? ⟨w.heap.size + 1, 0, none⟩ = some (.int .i64 key) from fun W hW => ⟨hW.cellOf s0, hW.cellOf s1, hW.cellOf s2, hW.cellOf s3⟩)
  go_upto_region 6 with (first
    | (refine wpList_store_nd (W := w3) (by rfl) _ _ (by rfl) (by rfl) x (by rfl) _ (by rfl) (by rfl) ?_; rw [← H4.out]))
  clear e0 e1 e2 k0 s0 s1 s2 s3
  go_region_held3 (fun W => W.cell? ⟨b, 0, none⟩ = some (.slice A nA cA) ∧ W.cell? ⟨b, 1, none⟩ = some (.slice B m d) ∧ W.cell? ⟨w.heap.size, 0, none⟩ = some (.pointer (some ⟨b, 0, none⟩)) ∧ W.cell? ⟨w.heap.size + 1, 0, none⟩ = some (.int .i64 key)) (exact HSS.out _ (by repeat (first | exact Ext.refl _ | assumption | with_reducible refine Ext.drew ?_ | with_reducible refine Ext.new ?_ _))) (first
    | (go_at_call 33; refine (HLv.out _ ?_).mono ?_
       · exact X4.out.step (by repeat (first | exact Ext.refl _ | assumption | with_reducible refine Ext.drew ?_ | with_reducible refine Ext.new ?_ _))
       rintro e w5 ⟨S5, n5, c5, rfl, ⟨_, ho5⟩, hx5'⟩
       have hx5 : Ext w4 w5 := Ext.step (by repeat (first | exact Ext.refl _ | assumption | with_reducible refine Ext.drew ?_ | with_reducible refine Ext.new ?_ _)) hx5'
       have hr5 := own_low (ho5 HLen.out.1) (show w4.heap.size ≤ _ from by first | exact Nat.le_refl _ | simp)
       clear hx5' ho5)
    | (go_at_call 45; refine (HDl.out w4.heap.size S5 n5 c5 _ (X24.out.step hx5) hr5).mono ?_
       rintro e w6 ⟨S6, n6, c6, rfl, hr6, hk6⟩
       have hx6 : Ext w4 w6 := hk6 w4 hx5 (Nat.le_refl _)
       clear hk6))
  all_goals
    have hr7 := hr6
    rw [HFil.out] at hr7
    have HR6 := Lib.hid hr7
    have HX6 := Lib.hid hx6
    have hn6 : ((offK key t.lvs).map Lf.r).length = n6 := (Rd.own hr7).u64len
    have hn61 : n6 ≤ 1 := by
      have h1 := offK_le key t.lvs
      have h2 := HLen.out.1
      simp only [List.length_map] at hn6; omega
    have hnL : n ≤ 1 := by
      have h1 := HL.out.u64len
      have h2 := HG.out.one
      simp only [List.length_map] at h1; omega
    have s2 : w6.cell? ⟨w.heap.size, 0, none⟩ = some (.pointer (some ⟨b, 0, none⟩)) := (HSS.out _ hx6).2.2.1
    have HS2 := Lib.hid (show ∀ W, Ext w6 W → W.cell? ⟨w.heap.size, 0, none⟩ = some (.pointer (some ⟨b, 0, none⟩)) from fun W hW => hW.cellOf s2)
    have H46 := Lib.hid hx6.size
    have HWL := Lib.hid (show newLs key t new = offK key t.lvs ++ new from rfl)
    clear hr6 hr7 hx6 hn6 hr5 hx5 s2
    go_upto_region 7 with fail
    go_region_held3 (fun W => W.cell? ⟨w.heap.size, 0, none⟩ = some (.pointer (some ⟨b, 0, none⟩))) (first | exact hs8 | exact hs7 | (refine HS2.out _ ?_; (repeat (first | exact Ext.refl _ | assumption | with_reducible refine Ext.drew ?_ | with_reducible refine Ext.new ?_ _)); done)) (first
      | (refine step_append_rd rfl (.tmp 57) (.tmp 58) _ rfl w4.heap.size 31 i0 _ 1 8 Try.underlying78 hi0 hz0 hz1 hz2 rfl (by omega) (.slice S6 n6 c6) n6 (Us ((offK key t.lvs).map Lf.r)) (by rfl) (own_ext HR6.out ?_) L n cL (Us (new.map Lf.r)) (by rfl) (HL.out.to (X4.out.step (HX6.out.step ?_))) (Us_one _) (by simp only [maxLen]; omega) (by omega) (Nat.le_trans H46.out ?_) ?_
         · repeat (first | exact Ext.refl _ | assumption | with_reducible refine Ext.drew ?_ | with_reducible refine Ext.new ?_ _)
         · repeat (first | exact Ext.refl _ | assumption | with_reducible refine Ext.drew ?_ | with_reducible refine Ext.new ?_ _)
         · first | exact Nat.le_refl _ | simp
         intro v7 w7 ho7 hg7 hb7
         obtain ⟨S7, c7, rfl⟩ := own_slice ho7
         have hE7 : Ext w4 w7 := own_back (by first | exact HX6.out | exact HX6.out.drew) (by first | exact H46.out | (simp; exact H46.out)) hg7 (fun g hg => (HR6.out.lt g hg).1)
         have hs7 : w7.cell? ⟨w.heap.size, 0, none⟩ = some (.pointer (some ⟨b, 0, none⟩)) := (HSS.out _ hE7).2.2.1
         have hR7 : Rd w7 1 S7 (n6 + n) (Us ((newLs key t new).map Lf.r)) := by
           have := Rd.own ho7
           rw [show Us ((newLs key t new).map Lf.r) = Us ((offK key t.lvs).map Lf.r) ++ Us (new.map Lf.r) by rw [HWL.out]; simp [Us]]
           exact this
         clear ho7 hg7 hb7)
      | (go_at_call 47; refine (HTb.out S7 (n6 + n) c7 _ (HMk.out.to (X4.out.step hE7)) hR7).mono ?_
         rintro e w8 hno'
         obtain ⟨z, rfl, hno⟩ := hno'.split
         have hs8 : w8.cell? ⟨w.heap.size, 0, none⟩ = some (.pointer (some ⟨b, 0, none⟩)) := hno.out.only.cellOf hs7 (by have := hbw.out; show w.heap.size ≠ b; omega)
         clear hno'))
    all_goals
      have HFIN := Lib.hid (show TOut b ns fs (10 - lv) (WthG key lv t new) w (.returned (.int .u64 z)) w8 from by
        have h1 := hno.out.mono HCost.out (g' := WthG key lv t new) (fun ns' z _ h => h)
        obtain ⟨ns', fs', z', hz', hm, ho, hg, hu, hfr, hgood⟩ := h1
        exact ⟨ns', fs', z', hz', hm, ((Only.refl b w).ext (X4.out.step hE7)).trans ho, hg, hu, (FarTo.ext (X4.out.step hE7) hbw.out).trans hfr (X4.out.step hE7).size, hgood⟩)
      clear hno hs7 hs8 hR7 hE7
      go_wp2_with fail
      go_ret
      exact HFIN.out

end Go.Proofs.Ytfoifcbaadnigaa
