/-
  Contract: whether a reference is the table of a row at a level (Is of the document's answers on tables).
-/
import Derived.Test.YtfoifcbaadnigaaRfLeaf
set_option linter.unusedVariables false
set_option linter.unusedSimpArgs false
namespace Go.Proofs.Ytfoifcbaadnigaa
open Go.RowKit

theorem Nd.a7 (x : Nd) : x.arr[7]? = some (.int .u64 x.r2) := rfl
theorem Nd.a8 (x : Nd) : x.arr[8]? = some (.int .u64 x.r3) := rfl
/-- The contract at a level, over rows of a kind. -/
def IsO (P : Nat → Row → Prop) (lv : Nat) : Prop := ∀ (A B : Option Addr) (n c m' d : Nat) (ns : List Nd), (∀ x ∈ ns, x.Ok) → ∀ (l : Row) (r : Int) (L : Option Addr) (m cL : Nat) (w : World) (b : Bool), l.length = m → m ≤ 1000 → m ≤ cL → cL ≤ maxLen → RdI w L m l → P lv l → U r → Rd w 16 A n (flat Nd.cells ns) →
    (b = true ↔ IsH ns lv r l) → Calls Try.prog 13 #[.agg #[.slice A n c, .slice B m' d], .int .u64 r, .slice L m cL, .int .i64 lv] w fun e w' => e = .returned (.bool b) ∧ Ext w w'

set_option maxHeartbeats 3200000 in
set_option maxRecDepth 100000 in
theorem htIs_nil (A B : Option Addr) (n c m' d : Nat) (ns : List Nd) (r : Int) (L : Option Addr) (cL lv : Nat) (w : World) (b : Bool) (hb : b = true ↔ IsH ns lv r []) :
    Calls Try.prog 13 #[.agg #[.slice A n c, .slice B m' d], .int .u64 r, .slice L 0 cL, .int .i64 lv] w fun e w' => e = .returned (.bool b) ∧ Ext w w' := by
  have HB := Lib.hid (show b = (r == 0) by rw [Bool.eq_iff_iff, hb, isH_nil]; simp)
  clear hb
  go_enter Try.func13, Try.ntmps13
  go_wp2_with fail
  go_ret
  exact ⟨by rw [HB.out]; rfl, (Ext.refl w).new _⟩

set_option maxHeartbeats 3200000 in
set_option maxRecDepth 100000 in
theorem htIs_one (A B : Option Addr) (n c m' d : Nat) (ns : List Nd) (r : Int) (x : Int × Int) (L : Option Addr) (cL lv : Nat) (w : World) (b : Bool) (hL : RdI w L 1 [x]) (hU : U r) (h : Rd w 16 A n (flat Nd.cells ns)) (hb : b = true ↔ IsH ns lv r [x]) :
    Calls Try.prog 13 #[.agg #[.slice A n c, .slice B m' d], .int .u64 r, .slice L 1 cL, .int .i64 lv] w fun e w' => e = .returned (.bool b) ∧ Ext w w' := by
  obtain ⟨k, v⟩ := x
  obtain ⟨w1, hw1⟩ : ∃ w1, w1 = w.alloc (.cells #[.slice A n c, .slice B m' d] 26) := ⟨_, rfl⟩
  obtain ⟨B1, hx1, hs1⟩ := box_made hw1
  have H1 := Lib.hid hw1
  have X1 := Lib.hid hx1
  have HL := Lib.hid (fun W (hW : Ext w1 W) => rfLeaf_is A B n c m' d ns r k v W hU (h.to (hx1.step hW)) b (by rw [hb, isH_one]; rfl))
  obtain ⟨ad, rfl, hit⟩ := hL.item (k := 0) (x := (k, v)) rfl
  have s0 := fun q : Later w1 => (B1.to q.ext).cell 0
  have s1 := fun q : Later w1 => (B1.to q.ext).cell 1
  have s2 := fun q : Later w1 => (hit.to (hx1.step q.ext)).1
  have s3 := fun q : Later w1 => (hit.to (hx1.step q.ext)).2
  have e0 : ad.add 0 = ad := by unfold Addr.add; simp
  simp only [List.getElem?_toArray, List.getElem?_cons_zero, List.getElem?_cons_succ, Nat.zero_mul, e0] at s0 s1 s2 s3
  clear hw1 hx1 hs1 B1 hb hL hit h
  go_enter Try.func13, Try.ntmps13
  go_wp2_with fail
  rw [← H1.out]
  refine wp_region_later w1 (Ext.refl _) (by kernel_rfl) (by kernel_rfl) ?_
  repeat (go_big_quiet_step (first | (go_at_call 26; exact later_call HL.out)))
  refine wpQuiet_nil ?_
  rintro _ ⟨q, rfl⟩
  clear s0 s1 s2 s3
  go_wp2_with fail
  go_ret
  exact ⟨rfl, X1.out.step q.ext⟩

set_option maxHeartbeats 6400000 in
set_option maxRecDepth 100000 in
theorem htIs_step (P : Nat → Row → Prop) (lv : Nat) (hlv : lv < 10) (hP : ∀ l, P lv l → ∀ i : Int, P (lv + 1) (ofD l lv i)) (rec : IsO P (lv + 1)) : IsO P lv := by
  intro A B n c m' d ns hok l r L m cL w b hlm hm hmc hcL hL hp hU h hb
  by_cases h0 : m = 0
  · subst h0
    obtain rfl : l = [] := List.eq_nil_of_length_eq_zero hlm
    exact htIs_nil A B n c m' d ns r L cL lv w b hb
  by_cases h1 : m = 1
  · subst h1
    obtain ⟨x, rfl⟩ := List.length_eq_one_iff.1 hlm
    exact htIs_one A B n c m' d ns r x L cL lv w b hL hU h hb
  have h2 : 2 ≤ m := by omega
  obtain ⟨w1, hw1⟩ : ∃ w1, w1 = w.alloc (.cells #[.slice A n c, .slice B m' d] 26) := ⟨_, rfl⟩
  obtain ⟨B1, hx1, hs1⟩ := box_made hw1
  have H1 := Lib.hid hw1
  have X1 := Lib.hid hx1
  have HB1 := Lib.hid B1
  have k0 : w1.cell? ⟨w.heap.size, 0, none⟩ = some (.slice A n c) := B1.cell 0
  have k1 : w1.cell? ⟨w.heap.size, 1, none⟩ = some (.slice B m' d) := B1.cell 1
  obtain ⟨adL, rfl⟩ := hL.some_ (by omega) (by omega)
  have HREC := Lib.hid rec
  have HLM := Lib.hid hlm
  have HL := Lib.hid hL
  have HP := Lib.hid (hP l hp)
  have HA := Lib.hid h
  have HBB := Lib.hid hb
  have HOK := Lib.hid hok
  have HM := Lib.hid hm
  have HMC := Lib.hid hmc
  have HCL := Lib.hid hcL
  have HNil := Lib.hid (show l ≠ [] by rintro rfl; simp at hlm; omega)
  clear hw1 hx1 hs1 B1 rec hlm hL hP hp h hb hok hcL
  have hm0 : ¬ ((m : Int) = 0) := by omega
  have hm1 : ¬ ((m : Int) = 1) := by omega
  have hlv' : (lv : Int) < 10 := by omega
  rcases got_or ns r with ⟨p, x, hg⟩ | hg
  · have HAt := Lib.hid (at_yes A n c m' d B ns r p x w1 hU.1 hU.2 (HA.out.to X1.out) hg)
    obtain ⟨ad, rfl, hnd⟩ := NdAt.of (HA.out.to X1.out) hg.at_
    have HND := Lib.hid hnd
    have hl : ns.length = n := by
      have := HA.out.1
      rw [flat_length Nd.cells_length] at this
      omega
    have hpn : p < n := by have := (List.getElem?_eq_some_iff.1 hg.at_).1; omega
    have hnp : ¬ n ≤ p := by omega
    have hp0 : ¬ ((p : Int) < 0) := by omega
    have HOX := Lib.hid (HOK.out x (List.mem_of_getElem? hg.at_))
    obtain ⟨gg, hgg⟩ : ∃ gg, gg = x.g := ⟨_, rfl⟩
    have HIFF := Lib.hid (show b = true ↔ x = boxNd 2 gg m [x.r0, x.r1, x.r2, x.r3] ∧ IsH ns (lv + 1) x.r0 (ofD l lv 0) ∧ IsH ns (lv + 1) x.r1 (ofD l lv 1) ∧ IsH ns (lv + 1) x.r2 (ofD l lv 2) ∧ IsH ns (lv + 1) x.r3 (ofD l lv 3) by
      have := isH_trie (lv := lv) hlv (l := l) (by have := HLM.out; omega) hg
      rw [HLM.out] at this
      rw [HBB.out, this, hgg])
    have HGG := Lib.hid hgg
    clear hnd hl hg hgg
    go_enter Try.func13, Try.ntmps13
    go_wp2_with fail
    rw [← H1.out]
    refine HAt.out.mono ?_; rintro e w3 ⟨rfl, hx3⟩
    have k0 : w3.cell? ⟨w.heap.size, 0, none⟩ = some (.slice (some ad) n c) := (HB1.out.to hx3).cell 0
    have k1 : w3.cell? ⟨w.heap.size, 1, none⟩ = some (.slice B m' d) := (HB1.out.to hx3).cell 1
    have hn3 := HND.out.to hx3
    obtain ⟨w4, hw4⟩ : ∃ w4, w4 = w3.alloc (.cells x.arr 68) := ⟨_, rfl⟩
    obtain ⟨B4, hx4, hs4⟩ := box_made hw4
    have H4 := Lib.hid hw4
    have HB4 := Lib.hid B4
    have HBA4 := Lib.hid (HB1.out.to (hx3.step hx4))
    have X4 := Lib.hid (X1.out.step (hx3.step hx4))
    have HLT := Lib.hid (show w.heap.size < w3.heap.size ∧ w4.heap.size = w3.heap.size + 1 from ⟨Nat.lt_of_lt_of_le HB1.out.lt hx3.size, hs4⟩)
    have s2 : w4.cell? ⟨w3.heap.size, 1, none⟩ = some (.int .i64 gg) := by rw [HGG.out]; exact (HB4.out.cell 1).trans x.a1
    obtain ⟨w5, hw5⟩ : ∃ w5, w5 = w4.alloc (.cells #[.int .i64 2, .int .i64 gg, .int .i64 0, .int .i64 0, .int .i64 m, .int .u64 0, .int .u64 0, .int .u64 0, .int .u64 0, .int .u64 0, .int .u64 0, .int .u64 0, .int .u64 0, .int .u64 0, .int .i64 0, .int .i64 0] 68) := ⟨_, rfl⟩
    obtain ⟨B5', hx5, hs5⟩ := box_made hw5
    have B5 : Bx w5 w4.heap.size (boxNd 2 gg m []).arr := B5'
    clear B5'
    have H5 := Lib.hid hw5
    have HB5 := Lib.hid B5
    have HBN5 := Lib.hid (HB4.out.to hx5)
    have HBA5 := Lib.hid (HBA4.out.to hx5)
    have X5 := Lib.hid (X4.out.step hx5)
    have HNE := Lib.hid (show w4.heap.size ≠ w3.heap.size ∧ w4.heap.size ≠ w.heap.size ∧ w.heap.size ≤ w4.heap.size by have := HLT.out; omega)
    clear hw4 B4 hx4 hs4 hx3 hw5 B5 hx5 hs5
    go_wp2_with (first
      | (refine wpList_load_nd (by rfl) _ (by rfl) _ (by rfl) x hn3 ?_)
      | (refine wpList_store_nd (W := w3) (by rfl) _ _ (by rfl) (by rfl) x (by rfl) _ (by rfl) (by rfl) ?_
         rw [← H4.out]))
    clear k0 k1 hn3
    go_loopw [12] (fun j wr => Hid (Ext w wr) ∧ ∃ i : Int, j = .int .i64 i ∧ 0 ≤ i ∧ i ≤ 4 ∧ Hid (Bx wr w.heap.size #[.slice (some ad) n c, .slice B m' d]) ∧ Hid (Bx wr w3.heap.size x.arr) ∧ Hid (Bx wr w4.heap.size (boxNd 2 gg m ([x.r0, x.r1, x.r2, x.r3].take i.toNat)).arr) ∧
        Hid ((0 < i → IsH ns (lv + 1) x.r0 (ofD l lv 0)) ∧ (1 < i → IsH ns (lv + 1) x.r1 (ofD l lv 1)) ∧ (2 < i → IsH ns (lv + 1) x.r2 (ofD l lv 2)) ∧ (3 < i → IsH ns (lv + 1) x.r3 (ofD l lv 3)))) (fun j _ => (4 - intOf j).toNat)
    case atStart =>
      try rw [← H5.out]
      exact ⟨X5, 0, rfl, by omega, by omega, HBA5, HBN5, HB5, Lib.hid ⟨by omega, by omega, by omega, by omega⟩⟩
    case round =>
      obtain ⟨hx, i, rfl, hi0, hi4, Ha, Hn, Hw, Hd⟩ := hrel
      rename World => w8
      rcases (by omega : i = 0 ∨ i = 1 ∨ i = 2 ∨ i = 3 ∨ i = 4) with rfl | rfl | rfl | rfl | rfl
      · -- round 0
        have c5 : w8.cell? ⟨w3.heap.size, 5, none⟩ = some (.int .u64 x.r0) := (Hn.out.cell 5).trans x.a5
        go_wp2_with (first
          | (refine wpList_store_cell (by rfl) 31 (.tmp 58) (.tmp 56) (by rfl) w4.heap.size 5 (by rfl) (.int .u64 x.r0) (by rfl) rfl (by kernel_rfl) _ Hw.out (by rw [Nd.arr_size]; omega) ?_
             intro w9 B9 O9))
        have HB9 := Lib.hid (show Bx w9 w4.heap.size (boxNd 2 gg m [x.r0]).arr from B9)
        have HN9 := Lib.hid (O9.bx Hn.out HNE.out.1.symm)
        have HA9 := Lib.hid (O9.bx Ha.out HNE.out.2.1.symm)
        have X9 := Lib.hid (O9.new hx.out HNE.out.2.2)
        have s0 : w9.cell? ⟨w.heap.size, 0, none⟩ = some (.slice (some ad) n c) := HA9.out.cell 0
        have s1 : w9.cell? ⟨w.heap.size, 1, none⟩ = some (.slice B m' d) := HA9.out.cell 1
        have s2 : w9.cell? ⟨w3.heap.size, 5, none⟩ = some (.int .u64 x.r0) := (HN9.out.cell 5).trans x.a5
        clear B9 O9 c5
        obtain ⟨b2, hb2⟩ : ∃ b : Bool, b = true ↔ IsH ns (lv + 1) x.r0 (ofD l lv 0) := by
          by_cases hq : IsH ns (lv + 1) x.r0 (ofD l lv 0)
          · exact ⟨true, by simp [hq]⟩
          · exact ⟨false, by simp [hq]⟩
        have HO := Lib.hid (fun W (hW : Ext w9 W) => rfOf_is (some adL) m cL l lv 0 W (HL.out.to (X9.out.step hW)) HM.out (by omega))
        have HC := Lib.hid (fun (W : World) (hW : Ext w9 W) (LA : Option Addr) (lc : Nat) (h1 : RdI W LA (ofD l lv 0).length (ofD l lv 0)) (h2 : (ofD l lv 0).length ≤ lc) (h3 : lc ≤ maxLen) =>
          HREC.out (some ad) B n c m' d ns HOK.out (ofD l lv 0) x.r0 LA _ lc W b2 rfl (Nat.le_trans (Nat.le_trans (List.length_filter_le _ _) (Nat.le_of_eq HLM.out)) HM.out) h2 h3 h1 (HP.out 0) (HOX.out x.r0 (by simp [Nd.kids])) (HA.out.to (X9.out.step hW)) hb2)
        obtain ⟨o, ho⟩ : ∃ o, o = ofD l lv 0 := ⟨_, rfl⟩
        rw [← ho] at HO HC hb2
        have HOE := Lib.hid ho
        have HB2 := Lib.hid hb2
        obtain ⟨mo, hmo⟩ : ∃ mo, mo = o.length := ⟨_, rfl⟩
        rw [← hmo] at HC
        unfold RowA at HO
        rw [← hmo] at HO
        clear ho hb2 hmo
        obtain ⟨lv1, hlv1⟩ : ∃ z : Int, z = ((lv + 1 : Nat) : Int) := ⟨_, rfl⟩
        rw [← hlv1] at HC
        have e1 : IntKind.i64.wrap ((lv : Int) + 1) = lv1 := by rw [hlv1, IntKind.wrap_i64]; omega
        clear hlv1
        go_region_held3 (fun W => W.cell? ⟨w.heap.size, 0, none⟩ = some (.slice (some ad) n c) ∧ W.cell? ⟨w.heap.size, 1, none⟩ = some (.slice B m' d) ∧ W.cell? ⟨w3.heap.size, 5, none⟩ = some (.int .u64 x.r0)) (first | exact ⟨u0, u1, u2⟩ | exact ⟨t0, t1, t2⟩ | exact ⟨(Ext.refl w9).drew.cellOf s0, (Ext.refl w9).drew.cellOf s1, (Ext.refl w9).drew.cellOf s2⟩ | exact ⟨s0, s1, s2⟩ | go_keep) (first
          | (go_at_call 28
             refine (HO.out _ (Ext.refl w9).drew).mono ?_
             rintro e W2 ⟨LA, lc, rfl, hr2, hc2, hm2, hx2⟩
             have x2 : Ext w9 W2 := (Ext.refl w9).drew.step hx2
             have t0 := x2.cellOf s0
             have t1 := x2.cellOf s1
             have t2 := x2.cellOf s2
             clear hx2)
          | (go_at_call 13
             refine (HC.out _ x2 LA lc hr2 hc2 hm2).mono ?_
             rintro e W3 ⟨rfl, hx3'⟩
             have x3 : Ext w9 W3 := x2.step hx3'
             have u0 := x3.cellOf s0
             have u1 := x3.cellOf s1
             have u2 := x3.cellOf s2
             clear hx3'))
        have HX3 := Lib.hid x3
        clear s0 s1 s2 t0 t1 t2 u0 u1 u2 x2 x3 hr2 hc2 hm2 e1
        cases b2
        · obtain rfl : b = false := by
            cases b
            · rfl
            · exact absurd (HIFF.out.1 rfl).2.1 (by rw [← HOE.out, ← HB2.out]; simp)
          clear HIFF
          go_wp2_with fail
          go_ret
          exact ⟨rfl, X9.out.step HX3.out⟩
        · have HK := Lib.hid (show IsH ns (lv + 1) x.r0 (ofD l lv 0) by rw [← HOE.out, ← HB2.out])
          go_wp2_with fail
          go_roundw
          case rel => exact ⟨Lib.hid (X9.out.step HX3.out), 1, by go_num, by omega, by omega, Lib.hid (HA9.out.to HX3.out), Lib.hid (HN9.out.to HX3.out), Lib.hid (HB9.out.to HX3.out), Lib.hid ⟨fun _ => HK.out, by omega, by omega, by omega⟩⟩
          case measure => simp [intOf]
      · -- round 1
        have c5 : w8.cell? ⟨w3.heap.size, 6, none⟩ = some (.int .u64 x.r1) := (Hn.out.cell 6).trans x.a6
        go_wp2_with (first
          | (refine wpList_store_cell (by rfl) 31 (.tmp 58) (.tmp 56) (by rfl) w4.heap.size 6 (by rfl) (.int .u64 x.r1) (by rfl) rfl (by kernel_rfl) _ Hw.out (by rw [Nd.arr_size]; omega) ?_
             intro w9 B9 O9))
        have HB9 := Lib.hid (show Bx w9 w4.heap.size (boxNd 2 gg m [x.r0, x.r1]).arr from B9)
        have HN9 := Lib.hid (O9.bx Hn.out HNE.out.1.symm)
        have HA9 := Lib.hid (O9.bx Ha.out HNE.out.2.1.symm)
        have X9 := Lib.hid (O9.new hx.out HNE.out.2.2)
        have s0 : w9.cell? ⟨w.heap.size, 0, none⟩ = some (.slice (some ad) n c) := HA9.out.cell 0
        have s1 : w9.cell? ⟨w.heap.size, 1, none⟩ = some (.slice B m' d) := HA9.out.cell 1
        have s2 : w9.cell? ⟨w3.heap.size, 6, none⟩ = some (.int .u64 x.r1) := (HN9.out.cell 6).trans x.a6
        clear B9 O9 c5
        obtain ⟨b2, hb2⟩ : ∃ b : Bool, b = true ↔ IsH ns (lv + 1) x.r1 (ofD l lv 1) := by
          by_cases hq : IsH ns (lv + 1) x.r1 (ofD l lv 1)
          · exact ⟨true, by simp [hq]⟩
          · exact ⟨false, by simp [hq]⟩
        have HO := Lib.hid (fun W (hW : Ext w9 W) => rfOf_is (some adL) m cL l lv 1 W (HL.out.to (X9.out.step hW)) HM.out (by omega))
        have HC := Lib.hid (fun (W : World) (hW : Ext w9 W) (LA : Option Addr) (lc : Nat) (h1 : RdI W LA (ofD l lv 1).length (ofD l lv 1)) (h2 : (ofD l lv 1).length ≤ lc) (h3 : lc ≤ maxLen) =>
          HREC.out (some ad) B n c m' d ns HOK.out (ofD l lv 1) x.r1 LA _ lc W b2 rfl (Nat.le_trans (Nat.le_trans (List.length_filter_le _ _) (Nat.le_of_eq HLM.out)) HM.out) h2 h3 h1 (HP.out 1) (HOX.out x.r1 (by simp [Nd.kids])) (HA.out.to (X9.out.step hW)) hb2)
        obtain ⟨o, ho⟩ : ∃ o, o = ofD l lv 1 := ⟨_, rfl⟩
        rw [← ho] at HO HC hb2
        have HOE := Lib.hid ho
        have HB2 := Lib.hid hb2
        obtain ⟨mo, hmo⟩ : ∃ mo, mo = o.length := ⟨_, rfl⟩
        rw [← hmo] at HC
        unfold RowA at HO
        rw [← hmo] at HO
        clear ho hb2 hmo
        obtain ⟨lv1, hlv1⟩ : ∃ z : Int, z = ((lv + 1 : Nat) : Int) := ⟨_, rfl⟩
        rw [← hlv1] at HC
        have e1 : IntKind.i64.wrap ((lv : Int) + 1) = lv1 := by rw [hlv1, IntKind.wrap_i64]; omega
        clear hlv1
        go_region_held3 (fun W => W.cell? ⟨w.heap.size, 0, none⟩ = some (.slice (some ad) n c) ∧ W.cell? ⟨w.heap.size, 1, none⟩ = some (.slice B m' d) ∧ W.cell? ⟨w3.heap.size, 6, none⟩ = some (.int .u64 x.r1)) (first | exact ⟨u0, u1, u2⟩ | exact ⟨t0, t1, t2⟩ | exact ⟨(Ext.refl w9).drew.cellOf s0, (Ext.refl w9).drew.cellOf s1, (Ext.refl w9).drew.cellOf s2⟩ | exact ⟨s0, s1, s2⟩ | go_keep) (first
          | (go_at_call 28
             refine (HO.out _ (Ext.refl w9).drew).mono ?_
             rintro e W2 ⟨LA, lc, rfl, hr2, hc2, hm2, hx2⟩
             have x2 : Ext w9 W2 := (Ext.refl w9).drew.step hx2
             have t0 := x2.cellOf s0
             have t1 := x2.cellOf s1
             have t2 := x2.cellOf s2
             clear hx2)
          | (go_at_call 13
             refine (HC.out _ x2 LA lc hr2 hc2 hm2).mono ?_
             rintro e W3 ⟨rfl, hx3'⟩
             have x3 : Ext w9 W3 := x2.step hx3'
             have u0 := x3.cellOf s0
             have u1 := x3.cellOf s1
             have u2 := x3.cellOf s2
             clear hx3'))
        have HX3 := Lib.hid x3
        clear s0 s1 s2 t0 t1 t2 u0 u1 u2 x2 x3 hr2 hc2 hm2 e1
        cases b2
        · obtain rfl : b = false := by
            cases b
            · rfl
            · exact absurd (HIFF.out.1 rfl).2.2.1 (by rw [← HOE.out, ← HB2.out]; simp)
          clear HIFF
          go_wp2_with fail
          go_ret
          exact ⟨rfl, X9.out.step HX3.out⟩
        · have HK := Lib.hid (show IsH ns (lv + 1) x.r1 (ofD l lv 1) by rw [← HOE.out, ← HB2.out])
          go_wp2_with fail
          go_roundw
          case rel => exact ⟨Lib.hid (X9.out.step HX3.out), 2, by go_num, by omega, by omega, Lib.hid (HA9.out.to HX3.out), Lib.hid (HN9.out.to HX3.out), Lib.hid (HB9.out.to HX3.out), Lib.hid ⟨fun _ => Hd.out.1 (by omega), fun _ => HK.out, by omega, by omega⟩⟩
          case measure => simp [intOf]
      · -- round 2
        have c5 : w8.cell? ⟨w3.heap.size, 7, none⟩ = some (.int .u64 x.r2) := (Hn.out.cell 7).trans x.a7
        go_wp2_with (first
          | (refine wpList_store_cell (by rfl) 31 (.tmp 58) (.tmp 56) (by rfl) w4.heap.size 7 (by rfl) (.int .u64 x.r2) (by rfl) rfl (by kernel_rfl) _ Hw.out (by rw [Nd.arr_size]; omega) ?_
             intro w9 B9 O9))
        have HB9 := Lib.hid (show Bx w9 w4.heap.size (boxNd 2 gg m [x.r0, x.r1, x.r2]).arr from B9)
        have HN9 := Lib.hid (O9.bx Hn.out HNE.out.1.symm)
        have HA9 := Lib.hid (O9.bx Ha.out HNE.out.2.1.symm)
        have X9 := Lib.hid (O9.new hx.out HNE.out.2.2)
        have s0 : w9.cell? ⟨w.heap.size, 0, none⟩ = some (.slice (some ad) n c) := HA9.out.cell 0
        have s1 : w9.cell? ⟨w.heap.size, 1, none⟩ = some (.slice B m' d) := HA9.out.cell 1
        have s2 : w9.cell? ⟨w3.heap.size, 7, none⟩ = some (.int .u64 x.r2) := (HN9.out.cell 7).trans x.a7
        clear B9 O9 c5
        obtain ⟨b2, hb2⟩ : ∃ b : Bool, b = true ↔ IsH ns (lv + 1) x.r2 (ofD l lv 2) := by
          by_cases hq : IsH ns (lv + 1) x.r2 (ofD l lv 2)
          · exact ⟨true, by simp [hq]⟩
          · exact ⟨false, by simp [hq]⟩
        have HO := Lib.hid (fun W (hW : Ext w9 W) => rfOf_is (some adL) m cL l lv 2 W (HL.out.to (X9.out.step hW)) HM.out (by omega))
        have HC := Lib.hid (fun (W : World) (hW : Ext w9 W) (LA : Option Addr) (lc : Nat) (h1 : RdI W LA (ofD l lv 2).length (ofD l lv 2)) (h2 : (ofD l lv 2).length ≤ lc) (h3 : lc ≤ maxLen) =>
          HREC.out (some ad) B n c m' d ns HOK.out (ofD l lv 2) x.r2 LA _ lc W b2 rfl (Nat.le_trans (Nat.le_trans (List.length_filter_le _ _) (Nat.le_of_eq HLM.out)) HM.out) h2 h3 h1 (HP.out 2) (HOX.out x.r2 (by simp [Nd.kids])) (HA.out.to (X9.out.step hW)) hb2)
        obtain ⟨o, ho⟩ : ∃ o, o = ofD l lv 2 := ⟨_, rfl⟩
        rw [← ho] at HO HC hb2
        have HOE := Lib.hid ho
        have HB2 := Lib.hid hb2
        obtain ⟨mo, hmo⟩ : ∃ mo, mo = o.length := ⟨_, rfl⟩
        rw [← hmo] at HC
        unfold RowA at HO
        rw [← hmo] at HO
        clear ho hb2 hmo
        obtain ⟨lv1, hlv1⟩ : ∃ z : Int, z = ((lv + 1 : Nat) : Int) := ⟨_, rfl⟩
        rw [← hlv1] at HC
        have e1 : IntKind.i64.wrap ((lv : Int) + 1) = lv1 := by rw [hlv1, IntKind.wrap_i64]; omega
        clear hlv1
        go_region_held3 (fun W => W.cell? ⟨w.heap.size, 0, none⟩ = some (.slice (some ad) n c) ∧ W.cell? ⟨w.heap.size, 1, none⟩ = some (.slice B m' d) ∧ W.cell? ⟨w3.heap.size, 7, none⟩ = some (.int .u64 x.r2)) (first | exact ⟨u0, u1, u2⟩ | exact ⟨t0, t1, t2⟩ | exact ⟨(Ext.refl w9).drew.cellOf s0, (Ext.refl w9).drew.cellOf s1, (Ext.refl w9).drew.cellOf s2⟩ | exact ⟨s0, s1, s2⟩ | go_keep) (first
          | (go_at_call 28
             refine (HO.out _ (Ext.refl w9).drew).mono ?_
             rintro e W2 ⟨LA, lc, rfl, hr2, hc2, hm2, hx2⟩
             have x2 : Ext w9 W2 := (Ext.refl w9).drew.step hx2
             have t0 := x2.cellOf s0
             have t1 := x2.cellOf s1
             have t2 := x2.cellOf s2
             clear hx2)
          | (go_at_call 13
             refine (HC.out _ x2 LA lc hr2 hc2 hm2).mono ?_
             rintro e W3 ⟨rfl, hx3'⟩
             have x3 : Ext w9 W3 := x2.step hx3'
             have u0 := x3.cellOf s0
             have u1 := x3.cellOf s1
             have u2 := x3.cellOf s2
             clear hx3'))
        have HX3 := Lib.hid x3
        clear s0 s1 s2 t0 t1 t2 u0 u1 u2 x2 x3 hr2 hc2 hm2 e1
        cases b2
        · obtain rfl : b = false := by
            cases b
            · rfl
            · exact absurd (HIFF.out.1 rfl).2.2.2.1 (by rw [← HOE.out, ← HB2.out]; simp)
          clear HIFF
          go_wp2_with fail
          go_ret
          exact ⟨rfl, X9.out.step HX3.out⟩
        · have HK := Lib.hid (show IsH ns (lv + 1) x.r2 (ofD l lv 2) by rw [← HOE.out, ← HB2.out])
          go_wp2_with fail
          go_roundw
          case rel => exact ⟨Lib.hid (X9.out.step HX3.out), 3, by go_num, by omega, by omega, Lib.hid (HA9.out.to HX3.out), Lib.hid (HN9.out.to HX3.out), Lib.hid (HB9.out.to HX3.out), Lib.hid ⟨fun _ => Hd.out.1 (by omega), fun _ => Hd.out.2.1 (by omega), fun _ => HK.out, by omega⟩⟩
          case measure => simp [intOf]
      · -- round 3
        have c5 : w8.cell? ⟨w3.heap.size, 8, none⟩ = some (.int .u64 x.r3) := (Hn.out.cell 8).trans x.a8
        go_wp2_with (first
          | (refine wpList_store_cell (by rfl) 31 (.tmp 58) (.tmp 56) (by rfl) w4.heap.size 8 (by rfl) (.int .u64 x.r3) (by rfl) rfl (by kernel_rfl) _ Hw.out (by rw [Nd.arr_size]; omega) ?_
             intro w9 B9 O9))
        have HB9 := Lib.hid (show Bx w9 w4.heap.size (boxNd 2 gg m [x.r0, x.r1, x.r2, x.r3]).arr from B9)
        have HN9 := Lib.hid (O9.bx Hn.out HNE.out.1.symm)
        have HA9 := Lib.hid (O9.bx Ha.out HNE.out.2.1.symm)
        have X9 := Lib.hid (O9.new hx.out HNE.out.2.2)
        have s0 : w9.cell? ⟨w.heap.size, 0, none⟩ = some (.slice (some ad) n c) := HA9.out.cell 0
        have s1 : w9.cell? ⟨w.heap.size, 1, none⟩ = some (.slice B m' d) := HA9.out.cell 1
        have s2 : w9.cell? ⟨w3.heap.size, 8, none⟩ = some (.int .u64 x.r3) := (HN9.out.cell 8).trans x.a8
        clear B9 O9 c5
        obtain ⟨b2, hb2⟩ : ∃ b : Bool, b = true ↔ IsH ns (lv + 1) x.r3 (ofD l lv 3) := by
          by_cases hq : IsH ns (lv + 1) x.r3 (ofD l lv 3)
          · exact ⟨true, by simp [hq]⟩
          · exact ⟨false, by simp [hq]⟩
        have HO := Lib.hid (fun W (hW : Ext w9 W) => rfOf_is (some adL) m cL l lv 3 W (HL.out.to (X9.out.step hW)) HM.out (by omega))
        have HC := Lib.hid (fun (W : World) (hW : Ext w9 W) (LA : Option Addr) (lc : Nat) (h1 : RdI W LA (ofD l lv 3).length (ofD l lv 3)) (h2 : (ofD l lv 3).length ≤ lc) (h3 : lc ≤ maxLen) =>
          HREC.out (some ad) B n c m' d ns HOK.out (ofD l lv 3) x.r3 LA _ lc W b2 rfl (Nat.le_trans (Nat.le_trans (List.length_filter_le _ _) (Nat.le_of_eq HLM.out)) HM.out) h2 h3 h1 (HP.out 3) (HOX.out x.r3 (by simp [Nd.kids])) (HA.out.to (X9.out.step hW)) hb2)
        obtain ⟨o, ho⟩ : ∃ o, o = ofD l lv 3 := ⟨_, rfl⟩
        rw [← ho] at HO HC hb2
        have HOE := Lib.hid ho
        have HB2 := Lib.hid hb2
        obtain ⟨mo, hmo⟩ : ∃ mo, mo = o.length := ⟨_, rfl⟩
        rw [← hmo] at HC
        unfold RowA at HO
        rw [← hmo] at HO
        clear ho hb2 hmo
        obtain ⟨lv1, hlv1⟩ : ∃ z : Int, z = ((lv + 1 : Nat) : Int) := ⟨_, rfl⟩
        rw [← hlv1] at HC
        have e1 : IntKind.i64.wrap ((lv : Int) + 1) = lv1 := by rw [hlv1, IntKind.wrap_i64]; omega
        clear hlv1
        go_region_held3 (fun W => W.cell? ⟨w.heap.size, 0, none⟩ = some (.slice (some ad) n c) ∧ W.cell? ⟨w.heap.size, 1, none⟩ = some (.slice B m' d) ∧ W.cell? ⟨w3.heap.size, 8, none⟩ = some (.int .u64 x.r3)) (first | exact ⟨u0, u1, u2⟩ | exact ⟨t0, t1, t2⟩ | exact ⟨(Ext.refl w9).drew.cellOf s0, (Ext.refl w9).drew.cellOf s1, (Ext.refl w9).drew.cellOf s2⟩ | exact ⟨s0, s1, s2⟩ | go_keep) (first
          | (go_at_call 28
             refine (HO.out _ (Ext.refl w9).drew).mono ?_
             rintro e W2 ⟨LA, lc, rfl, hr2, hc2, hm2, hx2⟩
             have x2 : Ext w9 W2 := (Ext.refl w9).drew.step hx2
             have t0 := x2.cellOf s0
             have t1 := x2.cellOf s1
             have t2 := x2.cellOf s2
             clear hx2)
          | (go_at_call 13
             refine (HC.out _ x2 LA lc hr2 hc2 hm2).mono ?_
             rintro e W3 ⟨rfl, hx3'⟩
             have x3 : Ext w9 W3 := x2.step hx3'
             have u0 := x3.cellOf s0
             have u1 := x3.cellOf s1
             have u2 := x3.cellOf s2
             clear hx3'))
        have HX3 := Lib.hid x3
        clear s0 s1 s2 t0 t1 t2 u0 u1 u2 x2 x3 hr2 hc2 hm2 e1
        cases b2
        · obtain rfl : b = false := by
            cases b
            · rfl
            · exact absurd (HIFF.out.1 rfl).2.2.2.2 (by rw [← HOE.out, ← HB2.out]; simp)
          clear HIFF
          go_wp2_with fail
          go_ret
          exact ⟨rfl, X9.out.step HX3.out⟩
        · have HK := Lib.hid (show IsH ns (lv + 1) x.r3 (ofD l lv 3) by rw [← HOE.out, ← HB2.out])
          go_wp2_with fail
          go_roundw
          case rel => exact ⟨Lib.hid (X9.out.step HX3.out), 4, by go_num, by omega, by omega, Lib.hid (HA9.out.to HX3.out), Lib.hid (HN9.out.to HX3.out), Lib.hid (HB9.out.to HX3.out), Lib.hid ⟨fun _ => Hd.out.1 (by omega), fun _ => Hd.out.2.1 (by omega), fun _ => Hd.out.2.2.1 (by omega), fun _ => HK.out⟩⟩
          case measure => simp [intOf]
      · -- behind the last round
        have nx := Hn.out.node
        have ny : NdAt w8 ⟨w4.heap.size, 0, none⟩ (boxNd 2 gg m [x.r0, x.r1, x.r2, x.r3]) := Hw.out.node
        obtain ⟨y, hy⟩ : ∃ y, y = boxNd 2 gg m [x.r0, x.r1, x.r2, x.r3] := ⟨_, rfl⟩
        rw [← hy] at ny
        have hbe : decide (x = y) = b := by
          rw [Bool.eq_iff_iff, HIFF.out, decide_eq_true_eq, hy]
          exact ⟨fun h => ⟨h, Hd.out.1 (by omega), Hd.out.2.1 (by omega), Hd.out.2.2.1 (by omega), Hd.out.2.2.2 (by omega)⟩, fun h => h.1⟩
        have heq : ∀ W, (Op.equalIn 10000 68 (.agg x.arr) (.agg y.arr)).run Try.prog W = .ok b W := fun W => by rw [← hbe]; exact nd_eq x y W
        clear hbe hy
        go_wp2_with (first
          | (refine wpList_load_nd (by rfl) (.tmp 10) (by rfl) _ (by rfl) x nx ?_)
          | (refine wpList_load_nd (by rfl) (.tmp 11) (by rfl) _ (by rfl) y ny ?_))
        go_ret
        exact ⟨rfl, hx.out⟩
  · have HAt := Lib.hid (at_no A n c m' d B ns r w1 hU.1 hU.2 (HA.out.to X1.out) hg)
    obtain rfl : b = false := by
      cases b
      · rfl
      · exact absurd (HBB.out.1 rfl) (isH_gone HNil.out hg)
    clear hg
    go_enter Try.func13, Try.ntmps13
    go_wp2_with fail
    rw [← H1.out]
    refine HAt.out.mono ?_; rintro e w3 ⟨rfl, hx3⟩
    go_wp2_with fail
    go_ret
    exact ⟨rfl, X1.out.step hx3⟩

/-- A kind of rows that goes down the levels, and has a contract at the last one. -/
theorem htIs_all (P : Nat → Row → Prop) (hP : ∀ lv, lv < 10 → ∀ l, P lv l → ∀ i : Int, P (lv + 1) (ofD l lv i)) (h10 : IsO P 10) : ∀ k lv, lv + k = 10 → IsO P lv := by
  intro k
  induction k with
  | zero => intro lv h; obtain rfl : lv = 10 := by omega
            exact h10
  | succ k ih => intro lv h; exact htIs_step P lv (by omega) (hP lv (by omega)) (ih (lv + 1) (by omega))
/-- Rows whose hashes are unlike, of one way down to a level. -/
def Apt (lv : Nat) (l : Row) : Prop := l.Pairwise (fun a b => hsI a.1 ≠ hsI b.1) ∧ ∀ x ∈ l, ∀ y ∈ l, pas x.1 lv = pas y.1 lv
theorem Apt.down {lv : Nat} {l : Row} (h : Apt lv l) (i : Int) : Apt (lv + 1) (ofD l lv i) :=
  ⟨h.1.filter _, fun x hx y hy => by
    obtain ⟨x1, x2⟩ := mem_ofD.1 hx
    obtain ⟨y1, y2⟩ := mem_ofD.1 hy
    rw [pas_succ, pas_succ, h.2 x x1 y y1, x2, y2]⟩
theorem Apt.top {l : Row} (h : l.Pairwise (fun a b => hsI a.1 ≠ hsI b.1)) : Apt 0 l := ⟨h, fun x _ y _ => by rw [pas_zero, pas_zero]⟩
theorem Apt.few {l : Row} (h : Apt 10 l) : l.length ≤ 1 := by
  match l, h with
  | [], _ => exact Nat.zero_le _
  | [x], _ => exact Nat.le_refl _
  | x :: y :: l, h =>
    have h1 := h.2 x (by simp) y (by simp)
    rw [pas_all, pas_all] at h1
    have h2 := (List.pairwise_cons.1 h.1).1 y (by simp)
    exact absurd h1 h2
theorem htIs_apt : IsO Apt 0 := by
  refine htIs_all Apt (fun lv _ l h i => h.down i) ?_ 10 0 rfl
  intro A B n c m' d ns hok l r L m cL w b hlm hm hmc hcL hL hp hU h hb
  have := hp.few
  by_cases h0 : m = 0
  · subst h0
    obtain rfl : l = [] := List.eq_nil_of_length_eq_zero hlm
    exact htIs_nil A B n c m' d ns r L cL 10 w b hb
  · obtain rfl : m = 1 := by omega
    obtain ⟨x, rfl⟩ := List.length_eq_one_iff.1 hlm
    exact htIs_one A B n c m' d ns r x L cL 10 w b hL hU h hb

end Go.Proofs.Ytfoifcbaadnigaa
