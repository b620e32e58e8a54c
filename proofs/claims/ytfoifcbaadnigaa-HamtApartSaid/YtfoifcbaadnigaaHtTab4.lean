/-
  Contracts: which references are tables' (isTable, isTrie, isClash).
-/
import Derived.Test.YtfoifcbaadnigaaHtTab3
set_option linter.unusedVariables false
set_option linter.unusedSimpArgs false
namespace Go.Proofs.Ytfoifcbaadnigaa
open Go.RowKit

set_option maxHeartbeats 2000000 in
set_option maxRecDepth 100000 in
theorem htClashT_is (A B : Option Addr) (n c m d : Nat) (ns : List Nd) (r : Int) (lv : Nat) (q : Int) (w : World) (hU : U r) (h : Rd w 16 A n (flat Nd.cells ns)) (hlv : lv ≤ 10) (hok : ∀ x ∈ ns, x.Ok) (hk : (nodeF ns r).k = 4) (b : Bool) (hb : b = true ↔ TabQ ns lv q r) :
    Calls Try.prog 37 #[.agg #[.slice A n c, .slice B m d], .int .u64 r, .int .i64 lv, .int .i64 q] w fun e w' => e = .returned (.bool b) ∧ Ext w w' := by
  rw [tabQ_clash hk] at hb
  have HA := Lib.hid h
  obtain ⟨w1, hw1⟩ : ∃ w1, w1 = w.alloc (.cells #[.slice A n c, .slice B m d] 26) := ⟨_, rfl⟩
  obtain ⟨B1, hx1, hs1⟩ := box_made hw1
  have HN := Lib.hid (htNode_is A B n c m d ns r w1 hU.1 hU.2 (h.to hx1))
  obtain ⟨x, hx⟩ : ∃ x, x = nodeF ns r := ⟨_, rfl⟩
  try rw [← hx] at hb
  rw [← hx] at hk HN
  have hxo : x.Ok := by rw [hx]; exact nodeF_ok hok r
  have HK := Lib.hid hk
  have HC := Lib.hid (fun (h10 : lv = 10) W (hW : Ext w W) => htClash_is A B n c m d ns x q W hxo (h.to hW) b (by rw [hb]; exact ⟨fun h => h.2, fun h => ⟨h10, h⟩⟩))
  have HB := Lib.hid (show lv ≠ 10 → b = false from fun hne => by
    cases b with
    | false => rfl
    | true => exact absurd (hb.1 rfl).1 hne)
  clear hb hk hx hxo
  have H1 := Lib.hid hw1
  have HB1 := Lib.hid B1
  have X1 := Lib.hid hx1
  have j0 : w1.cell? ⟨w.heap.size, 0, none⟩ = some (.slice A n c) := B1.cell 0
  have j1 : w1.cell? ⟨w.heap.size, 1, none⟩ = some (.slice B m d) := B1.cell 1
  clear hw1 B1 hx1 hs1 h
  go_enter Try.func37, Try.ntmps37
  go_wp2_with fail
  rw [← H1.out]
  go_wp2_with fail
  refine HN.out.mono ?_; rintro e w3 ⟨rfl, hx3⟩
  obtain ⟨w4, hw4⟩ : ∃ w4, w4 = w3.alloc (.cells x.arr 68) := ⟨_, rfl⟩
  obtain ⟨B4, hx4, hs4⟩ := box_made hw4
  have H4 := Lib.hid hw4
  have HB4 := Lib.hid B4
  have HBA := Lib.hid (HB1.out.to (hx3.step hx4))
  have X4 := Lib.hid (X1.out.step (hx3.step hx4))
  have hs3 := Lib.hid (show w.heap.size < w3.heap.size by have := HB1.out.lt; have := hx3.size; omega)
  have n4 := B4.node
  have k0 : w4.cell? ⟨w3.heap.size, 0, none⟩ = some (.int .i64 4) := by rw [← HK.out]; exact (B4.cell 0).trans x.a0
  have k1 : w4.cell? ⟨w3.heap.size, 1, none⟩ = some (.int .i64 x.g) := (B4.cell 1).trans x.a1
  have k2 : w4.cell? ⟨w3.heap.size, 2, none⟩ = some (.int .i64 x.n) := (B4.cell 2).trans x.a2
  have k3 : w4.cell? ⟨w3.heap.size, 3, none⟩ = some (.int .i64 x.v) := (B4.cell 3).trans x.a3
  have i0 : w4.cell? ⟨w.heap.size, 0, none⟩ = some (.slice A n c) := HBA.out.cell 0
  have i1 : w4.cell? ⟨w.heap.size, 1, none⟩ = some (.slice B m d) := HBA.out.cell 1
  clear hw4 B4 hx3 hx4 hs4 j0 j1
  by_cases h10 : lv = 10
  · subst h10
    have HCC := Lib.hid (HC.out rfl)
    go_wp2_with (first
      | (refine wpList_store_nd (W := w3) (by rfl) _ _ (by rfl) (by rfl) x (by rfl) _ (by rfl) (by rfl) ?_; rw [← H4.out])
      | (refine wpList_load_nd (by rfl) _ (by rfl) _ (by rfl) x n4 ?_)
      | (go_at_call 55; refine (HCC.out _ X4.out).mono ?_; rintro e w5 ⟨rfl, hx5⟩))
    go_ret
    exact ⟨rfl, X4.out.step hx5⟩
  · obtain rfl : b = false := HB.out h10
    have hne : ((lv : Int) == 10) = false := by simp; omega
    clear HC HB
    go_wp2_with (first
      | (refine wpList_store_nd (W := w3) (by rfl) _ _ (by rfl) (by rfl) x (by rfl) _ (by rfl) (by rfl) ?_; rw [← H4.out])
      | (refine wpList_load_nd (by rfl) _ (by rfl) _ (by rfl) x n4 ?_))
    go_ret
    exact ⟨rfl, X4.out⟩

set_option maxHeartbeats 2000000 in
set_option maxRecDepth 100000 in
theorem htTrieT_is (A B : Option Addr) (n c m d : Nat) (ns : List Nd) (r : Int) (lv : Nat) (q : Int) (w : World) (hU : U r) (h : Rd w 16 A n (flat Nd.cells ns)) (hlv : lv ≤ 10) (hok : ∀ x ∈ ns, x.Ok) (hq0 : 0 ≤ q) (hq1 : q < (4 : Int) ^ lv) (HI : lv < 10 → TabC A B n c m d ns w (lv + 1)) (hk : (nodeF ns r).k = 2) (b : Bool) (hb : b = true ↔ TabQ ns lv q r) :
    Calls Try.prog 37 #[.agg #[.slice A n c, .slice B m d], .int .u64 r, .int .i64 lv, .int .i64 q] w fun e w' => e = .returned (.bool b) ∧ Ext w w' := by
  rw [tabQ_trie hq0 hq1 hk] at hb
  have HA := Lib.hid h
  obtain ⟨w1, hw1⟩ : ∃ w1, w1 = w.alloc (.cells #[.slice A n c, .slice B m d] 26) := ⟨_, rfl⟩
  obtain ⟨B1, hx1, hs1⟩ := box_made hw1
  have HN := Lib.hid (htNode_is A B n c m d ns r w1 hU.1 hU.2 (h.to hx1))
  obtain ⟨x, hx⟩ : ∃ x, x = nodeF ns r := ⟨_, rfl⟩
  try rw [← hx] at hb
  rw [← hx] at hk HN
  have hxo : x.Ok := by rw [hx]; exact nodeF_ok hok r
  have HK := Lib.hid hk
  have HC := Lib.hid (fun (h10 : lv < 10) W (hW : Ext w W) => htTrie_is A B n c m d ns x lv q W hxo (h.to hW) h10 hq0 hq1 (fun z q t W' hW' => HI h10 z q t W' (hW.step hW')) b (by rw [hb]; exact ⟨fun h => h.2, fun h => ⟨h10, h⟩⟩))
  have HB := Lib.hid (show ¬ lv < 10 → b = false from fun hne => by
    cases b with
    | false => rfl
    | true => exact absurd (hb.1 rfl).1 hne)
  clear HI hq0 hq1
  clear hb hk hx hxo
  have H1 := Lib.hid hw1
  have HB1 := Lib.hid B1
  have X1 := Lib.hid hx1
  have j0 : w1.cell? ⟨w.heap.size, 0, none⟩ = some (.slice A n c) := B1.cell 0
  have j1 : w1.cell? ⟨w.heap.size, 1, none⟩ = some (.slice B m d) := B1.cell 1
  clear hw1 B1 hx1 hs1 h
  go_enter Try.func37, Try.ntmps37
  go_wp2_with fail
  rw [← H1.out]
  go_wp2_with fail
  refine HN.out.mono ?_; rintro e w3 ⟨rfl, hx3⟩
  obtain ⟨w4, hw4⟩ : ∃ w4, w4 = w3.alloc (.cells x.arr 68) := ⟨_, rfl⟩
  obtain ⟨B4, hx4, hs4⟩ := box_made hw4
  have H4 := Lib.hid hw4
  have HB4 := Lib.hid B4
  have HBA := Lib.hid (HB1.out.to (hx3.step hx4))
  have X4 := Lib.hid (X1.out.step (hx3.step hx4))
  have hs3 := Lib.hid (show w.heap.size < w3.heap.size by have := HB1.out.lt; have := hx3.size; omega)
  have n4 := B4.node
  have k0 : w4.cell? ⟨w3.heap.size, 0, none⟩ = some (.int .i64 2) := by rw [← HK.out]; exact (B4.cell 0).trans x.a0
  have k1 : w4.cell? ⟨w3.heap.size, 1, none⟩ = some (.int .i64 x.g) := (B4.cell 1).trans x.a1
  have k2 : w4.cell? ⟨w3.heap.size, 2, none⟩ = some (.int .i64 x.n) := (B4.cell 2).trans x.a2
  have k3 : w4.cell? ⟨w3.heap.size, 3, none⟩ = some (.int .i64 x.v) := (B4.cell 3).trans x.a3
  have i0 : w4.cell? ⟨w.heap.size, 0, none⟩ = some (.slice A n c) := HBA.out.cell 0
  have i1 : w4.cell? ⟨w.heap.size, 1, none⟩ = some (.slice B m d) := HBA.out.cell 1
  clear hw4 B4 hx3 hx4 hs4 j0 j1
  by_cases h10 : lv < 10
  · have HCC := Lib.hid (HC.out h10)
    have hlt : (lv : Int) < 10 := by omega
    have hng : ¬ 10 ≤ lv := by omega
    go_wp2_with (first
      | (refine wpList_store_nd (W := w3) (by rfl) _ _ (by rfl) (by rfl) x (by rfl) _ (by rfl) (by rfl) ?_; rw [← H4.out])
      | (refine wpList_load_nd (by rfl) _ (by rfl) _ (by rfl) x n4 ?_)
      | (go_at_call 56; refine (HCC.out _ X4.out).mono ?_; rintro e w5 ⟨rfl, hx5⟩))
    go_ret
    exact ⟨rfl, X4.out.step hx5⟩
  · obtain rfl : b = false := HB.out h10
    have hne : ¬ (lv : Int) < 10 := by omega
    clear HC HB
    go_wp2_with (first
      | (refine wpList_store_nd (W := w3) (by rfl) _ _ (by rfl) (by rfl) x (by rfl) _ (by rfl) (by rfl) ?_; rw [← H4.out])
      | (refine wpList_load_nd (by rfl) _ (by rfl) _ (by rfl) x n4 ?_))
    go_ret
    exact ⟨rfl, X4.out⟩

set_option maxHeartbeats 2000000 in
set_option maxRecDepth 100000 in
theorem htNoneT_is (A B : Option Addr) (n c m d : Nat) (ns : List Nd) (r : Int) (lv : Nat) (q : Int) (w : World) (hU : U r) (h : Rd w 16 A n (flat Nd.cells ns)) (hlv : lv ≤ 10) (hok : ∀ x ∈ ns, x.Ok) (kk : Int) (hk2 : kk ≠ 2) (hk3 : kk ≠ 3) (hk4 : kk ≠ 4) (hk : (nodeF ns r).k = kk) (b : Bool) (hb : b = true ↔ TabQ ns lv q r) :
    Calls Try.prog 37 #[.agg #[.slice A n c, .slice B m d], .int .u64 r, .int .i64 lv, .int .i64 q] w fun e w' => e = .returned (.bool b) ∧ Ext w w' := by
  rw [tabQ_none (by rw [hk]; exact hk2) (by rw [hk]; exact hk3) (by rw [hk]; exact hk4)] at hb
  have HA := Lib.hid h
  obtain ⟨w1, hw1⟩ : ∃ w1, w1 = w.alloc (.cells #[.slice A n c, .slice B m d] 26) := ⟨_, rfl⟩
  obtain ⟨B1, hx1, hs1⟩ := box_made hw1
  have HN := Lib.hid (htNode_is A B n c m d ns r w1 hU.1 hU.2 (h.to hx1))
  obtain ⟨x, hx⟩ : ∃ x, x = nodeF ns r := ⟨_, rfl⟩
  try rw [← hx] at hb
  rw [← hx] at hk HN
  have hxo : x.Ok := by rw [hx]; exact nodeF_ok hok r
  have HK := Lib.hid hk
  have e2 : (kk == 2) = false := by simp [hk2]
  have e3 : (kk == 3) = false := by simp [hk3]
  have e4 : (kk == 4) = false := by simp [hk4]
  have HB := Lib.hid (show b = (r == 0) by rw [Bool.eq_iff_iff, hb, beq_iff_eq])
  clear hk2 hk3 hk4
  clear hb hk hx hxo
  have H1 := Lib.hid hw1
  have HB1 := Lib.hid B1
  have X1 := Lib.hid hx1
  have j0 : w1.cell? ⟨w.heap.size, 0, none⟩ = some (.slice A n c) := B1.cell 0
  have j1 : w1.cell? ⟨w.heap.size, 1, none⟩ = some (.slice B m d) := B1.cell 1
  clear hw1 B1 hx1 hs1 h
  go_enter Try.func37, Try.ntmps37
  go_wp2_with fail
  rw [← H1.out]
  go_wp2_with fail
  refine HN.out.mono ?_; rintro e w3 ⟨rfl, hx3⟩
  obtain ⟨w4, hw4⟩ : ∃ w4, w4 = w3.alloc (.cells x.arr 68) := ⟨_, rfl⟩
  obtain ⟨B4, hx4, hs4⟩ := box_made hw4
  have H4 := Lib.hid hw4
  have HB4 := Lib.hid B4
  have HBA := Lib.hid (HB1.out.to (hx3.step hx4))
  have X4 := Lib.hid (X1.out.step (hx3.step hx4))
  have hs3 := Lib.hid (show w.heap.size < w3.heap.size by have := HB1.out.lt; have := hx3.size; omega)
  have n4 := B4.node
  have k0 : w4.cell? ⟨w3.heap.size, 0, none⟩ = some (.int .i64 kk) := by rw [← HK.out]; exact (B4.cell 0).trans x.a0
  have k1 : w4.cell? ⟨w3.heap.size, 1, none⟩ = some (.int .i64 x.g) := (B4.cell 1).trans x.a1
  have k2 : w4.cell? ⟨w3.heap.size, 2, none⟩ = some (.int .i64 x.n) := (B4.cell 2).trans x.a2
  have k3 : w4.cell? ⟨w3.heap.size, 3, none⟩ = some (.int .i64 x.v) := (B4.cell 3).trans x.a3
  have i0 : w4.cell? ⟨w.heap.size, 0, none⟩ = some (.slice A n c) := HBA.out.cell 0
  have i1 : w4.cell? ⟨w.heap.size, 1, none⟩ = some (.slice B m d) := HBA.out.cell 1
  clear hw4 B4 hx3 hx4 hs4 j0 j1
  obtain rfl : b = (r == 0) := HB.out
  clear HB
  go_wp2_with (first
    | (refine wpList_store_nd (W := w3) (by rfl) _ _ (by rfl) (by rfl) x (by rfl) _ (by rfl) (by rfl) ?_; rw [← H4.out])
    | (refine wpList_load_nd (by rfl) _ (by rfl) _ (by rfl) x n4 ?_))
  go_ret
  exact ⟨rfl, X4.out⟩

theorem htTable_lv (A B : Option Addr) (n c m d : Nat) (ns : List Nd) (hok : ∀ x ∈ ns, x.Ok) : ∀ (j lv : Nat), lv + j = 10 → ∀ w : World, Rd w 16 A n (flat Nd.cells ns) → TabC A B n c m d ns w lv := by
  intro j
  induction j with
  | zero =>
    intro lv hj w h z q t W hW hU hq0 hq1 ht
    by_cases h3 : (nodeF ns z).k = 3
    · exact htLeafT_is A B n c m d ns z lv q W hU (h.to hW) (by omega) h3 t ht
    by_cases h4 : (nodeF ns z).k = 4
    · exact htClashT_is A B n c m d ns z lv q W hU (h.to hW) (by omega) hok h4 t ht
    by_cases h2 : (nodeF ns z).k = 2
    · exact htTrieT_is A B n c m d ns z lv q W hU (h.to hW) (by omega) hok hq0 hq1 (fun h => by omega) h2 t ht
    exact htNoneT_is A B n c m d ns z lv q W hU (h.to hW) (by omega) hok _ h2 h3 h4 rfl t ht
  | succ j ih =>
    intro lv hj w h z q t W hW hU hq0 hq1 ht
    by_cases h3 : (nodeF ns z).k = 3
    · exact htLeafT_is A B n c m d ns z lv q W hU (h.to hW) (by omega) h3 t ht
    by_cases h4 : (nodeF ns z).k = 4
    · exact htClashT_is A B n c m d ns z lv q W hU (h.to hW) (by omega) hok h4 t ht
    by_cases h2 : (nodeF ns z).k = 2
    · exact htTrieT_is A B n c m d ns z lv q W hU (h.to hW) (by omega) hok hq0 hq1 (fun h' => ih (lv + 1) (by omega) W (h.to hW)) h2 t ht
    exact htNoneT_is A B n c m d ns z lv q W hU (h.to hW) (by omega) hok _ h2 h3 h4 rfl t ht

/-- A reference is a table's. -/
def TabAt (ns : List Nd) (r : Int) : Prop := ∃ t, Rp ns t ∧ t.ref = r ∧ Sh 0 t ∧ t.size ≤ 200
theorem tabAt_iff {ns : List Nd} {r : Int} : TabAt ns r ↔ TabQ ns 0 0 r := by
  constructor
  · rintro ⟨t, h1, h2, h3, h4⟩
    exact ⟨t, h1, h2, h3, fun x _ => pas_zero _, h4⟩
  · rintro ⟨t, h1, h2, h3, _, h4⟩
    exact ⟨t, h1, h2, h3, h4⟩

set_option maxHeartbeats 1000000 in
theorem htRight_is (A B : Option Addr) (n c m d : Nat) (ns : List Nd) (fs : List Int) (r : Int) (w : World) (h : Ar w A n B m ns fs) (hn : n ≤ 1000) (hm : m ≤ 1000) (hU : U r) (b : Bool) (hb : b = true ↔ ArMay ns fs ∧ TabAt ns r) :
    Calls Try.prog 19 #[.agg #[.slice A n c, .slice B m d], .int .u64 r] w fun e w' => e = .returned (.bool b) ∧ Ext w w' := by
  have hx1 : Ext w (w.alloc (.cells #[.slice A n c, .slice B m d] 26)) := (Ext.refl w).new _
  obtain ⟨b1, hb1⟩ : ∃ b : Bool, b = true ↔ ArMay ns fs := by
    by_cases hh : ArMay ns fs
    · exact ⟨true, by simp [hh]⟩
    · exact ⟨false, by simp [hh]⟩
  obtain ⟨b2, hb2⟩ : ∃ b : Bool, b = true ↔ TabAt ns r := by
    by_cases hh : TabAt ns r
    · exact ⟨true, by simp [hh]⟩
    · exact ⟨false, by simp [hh]⟩
  have HBB := Lib.hid (show b = (b1 && b2) by rw [Bool.eq_iff_iff, hb, Bool.and_eq_true, hb1, hb2])
  have HR := Lib.hid (fun W (hW : Ext w W) => arRight_is A B n m c d ns fs W (h.to hW) hn hm b1 hb1)
  have HT := Lib.hid (fun W (hW : Ext w W) => htTable_lv A B n c m d ns h.ok 10 0 (by omega) w h.nodes r 0 b2 W hW hU (Int.le_refl _) (by decide) (by rw [hb2]; exact tabAt_iff))
  have HX1 := Lib.hid hx1
  clear hb hb1 hb2 h hx1
  cases b1 with
  | false =>
    obtain rfl : b = false := by rw [HBB.out]; rfl
    go_enter Try.func19, Try.ntmps19
    go_wp2_with (first
      | (go_at_call 36; refine (HR.out _ HX1.out).mono ?_; rintro e w2 ⟨rfl, hx2⟩))
    go_ret
    exact ⟨rfl, HX1.out.step hx2⟩
  | true =>
    obtain rfl : b = b2 := by rw [HBB.out]; rfl
    have j0 : (w.alloc (.cells #[.slice A n c, .slice B m d] 26)).cell? ⟨w.heap.size, 0, none⟩ = some (.slice A n c) := (Bx.new w _ _).cell 0
    have j1 : (w.alloc (.cells #[.slice A n c, .slice B m d] 26)).cell? ⟨w.heap.size, 1, none⟩ = some (.slice B m d) := (Bx.new w _ _).cell 1
    go_enter Try.func19, Try.ntmps19
    go_wp2_with (first
      | (go_at_call 36; refine (HR.out _ HX1.out).mono ?_; rintro e w2 ⟨rfl, hx2⟩; have j0' := hx2.cellOf j0; have j1' := hx2.cellOf j1)
      | (go_at_call 37; refine (HT.out _ (HX1.out.step hx2)).mono ?_; rintro e w3 ⟨rfl, hx3⟩))
    go_ret
    exact ⟨rfl, HX1.out.step (hx2.step hx3)⟩

end Go.Proofs.Ytfoifcbaadnigaa
