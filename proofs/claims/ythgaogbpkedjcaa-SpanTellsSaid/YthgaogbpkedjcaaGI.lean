/-
  Texts in one: RfRow RfTop OrMath OrNode SpNode.
-/
import Derived.Test.YthgaogbpkedjcaaRowX
import Derived.Test.YthgaogbpkedjcaaGB
import Derived.Test.YthgaogbpkedjcaaTrRight
import Derived.Test.YthgaogbpkedjcaaGH
import Derived.Test.YthgaogbpkedjcaaTrMeetM
import Derived.Test.YthgaogbpkedjcaaGG

/-
  Contract: what is met from a reference on, as the document tells it (Row).
-/
set_option linter.unusedVariables false
set_option linter.unusedSimpArgs false
namespace Go.Proofs.Ythgaogbpkedjcaa
open Go.RowKit

def itc (x : Int × Int) : List Value := [.int .i64 x.1, .int .i64 x.2]
theorem itc_length (x : Int × Int) : (itc x).length = 2 := rfl
theorem itc_one (x : Int × Int) : ∀ u ∈ itc x, u.oneCell' = true := by
  intro u hu
  simp [itc] at hu
  rcases hu with rfl | rfl <;> rfl
theorem item_info : (Try.prog.info? 40).map (fun i => (i.zero, i.size, i.bytes)) = some (some (.agg #[.int .i64 0, .int .i64 0]), 2, 16) := by kernel_rfl
/-- In w a slice shows a row. -/
abbrev RdI (w : World) (A : Option Addr) (n : Nat) (l : Row) : Prop := Rd w 2 A n (flat itc l)
theorem RdI.len {w : World} {A : Option Addr} {n : Nat} {l : Row} (h : RdI w A n l) : l.length = n := by
  have := h.1
  rw [flat_length itc_length] at this
  omega

def RowA (l : Row) (w : World) (e : Ending) (w' : World) : Prop :=
  ∃ A c, e = .returned (.slice A l.length c) ∧ RdI w' A l.length l ∧ l.length ≤ c ∧ c ≤ maxLen ∧ Ext w w'

set_option maxHeartbeats 3200000 in
set_option maxRecDepth 100000 in
theorem row_is (A B : Option Addr) (n c m' d : Nat) (ns : List Nd) (hok : ∀ x ∈ ns, x.Ok) : ∀ (m : Nat) (r : Int) (w : World), m ≤ 1000 → U r → Rd w 16 A n (flat Nd.cells ns) →
    Calls Try.prog 16 #[.agg #[.slice A n c, .slice B m' d], .int .u64 r, .int .i64 m] w (RowA (rowF ns m r) w) := by
  intro m
  induction m using Nat.strongRecOn with
  | _ m ih =>
    intro r w hm hU h
    obtain ⟨w1, hw1⟩ : ∃ w1, w1 = w.alloc (.cells #[.slice A n c, .slice B m' d] 25) := ⟨_, rfl⟩
    obtain ⟨w2, hw2⟩ : ∃ w2, w2 = w1.alloc (.cells #[] 40) := ⟨_, rfl⟩
    obtain ⟨B1, hx1, hs1⟩ := box_made hw1
    obtain ⟨B2, hx2, hs2⟩ := box_made hw2
    have HB1 := Lib.hid (B1.to hx2)
    have H1 := Lib.hid hw1
    have H2 := Lib.hid hw2
    have X2 := Lib.hid (hx1.step hx2)
    have HA := Lib.hid (h.to X2.out)
    have k0 : w2.cell? ⟨w.heap.size, 0, none⟩ = some (.slice A n c) := (B1.to hx2).cell 0
    have k1 : w2.cell? ⟨w.heap.size, 1, none⟩ = some (.slice B m' d) := (B1.to hx2).cell 1
    have HS1 := Lib.hid hs1
    have HS2 := Lib.hid hs2
    have HIH := Lib.hid ih
    have hl : ns.length = n := by
      have := h.1
      rw [flat_length Nd.cells_length] at this
      omega
    have HL := Lib.hid hl
    have HOK := Lib.hid hok
    have HROW := Lib.hid (RowX.nil w2 w.heap.size [w.heap.size] 40 2 ⟨w.heap.size + 1, 0, none⟩)
    rcases got_or ns r with ⟨p, x, hg⟩ | hg
    · have HAt := Lib.hid (at_yes A n c m' d B ns r p x w2 hU.1 hU.2 HA.out hg)
      cases m with
      | zero =>
        have HE := Lib.hid (show RowA (rowF ns 0 r) w = RowA [] w by rw [rowF_zero])
        have hp0 : ¬ ((p : Int) < 0) := by omega
        rw [HE.out]
        clear hw1 hw2 B1 B2 hx1 hx2 hs1 hs2 ih h hl hok hg
        go_enter Try.func16, Try.ntmps16
        go_wp2_with fail
        rw [← H1.out, ← H2.out]
        refine HAt.out.mono ?_; rintro e w3 ⟨rfl, hx3⟩
        go_wp2_with fail
        go_ret
        exact ⟨some ⟨w.heap.size + 1, 0, none⟩, 0, rfl, Rd.nil _ _ _, Nat.le_refl _, by unfold maxLen; omega, X2.out.step hx3⟩
      | succ m =>
        obtain ⟨l1, hl1⟩ : ∃ l, l = rowF ns m x.r0 := ⟨_, rfl⟩
        obtain ⟨l2, hl2⟩ : ∃ l, l = rowF ns (m - l1.length) x.r1 := ⟨_, rfl⟩
        have hlen1 : l1.length ≤ m := by rw [hl1]; exact rowF_len ns m x.r0
        have hlen2 : l2.length ≤ m - l1.length := by rw [hl2]; exact rowF_len ns _ x.r1
        have HE := Lib.hid (show RowA (rowF ns (m + 1) r) w = RowA (l1 ++ (x.n, x.v) :: l2) w by rw [rowF_got m hg, hl2, hl1])
        rw [HE.out]
        have hokx := hok x (List.mem_of_getElem? hg.at_)
        have hU0 : U x.r0 := hokx x.r0 (by simp [Nd.kids])
        have hU1 : U x.r1 := hokx x.r1 (by simp [Nd.kids])
        have HC1 := Lib.hid (fun W (hW : Ext w W) => ih m (by omega) x.r0 W (by omega) hU0 (h.to hW))
        rw [← hl1] at HC1
        have HC2 := Lib.hid (fun W (hW : Ext w W) => ih (m - l1.length) (by omega) x.r1 W (by omega) hU1 (h.to hW))
        rw [← hl2] at HC2
        obtain ⟨ad, rfl, hnd⟩ := NdAt.of h hg.at_
        have HND := Lib.hid hnd
        have hpn : p < n := by have := (List.getElem?_eq_some_iff.1 hg.at_).1; omega
        have hnp : ¬ n ≤ p := by omega
        have hp0 : ¬ ((p : Int) < 0) := by omega
        obtain ⟨i0, hi0, hz0, hz1, hz2⟩ := info_parts item_info
        have hm1000 : m + 1 ≤ 1000 := hm
        have HLen2 := Lib.hid hlen2
        clear hw1 hw2 B1 B2 hx1 hx2 hs1 hs2 ih h hl hok hg hl1 hl2 hokx hU0 hU1 hnd hlen2 hm
        go_enter Try.func16, Try.ntmps16
        go_wp2_with fail
        rw [← H1.out, ← H2.out]
        refine HAt.out.mono ?_; rintro e w3 ⟨rfl, hx3⟩
        have k0 : w3.cell? ⟨w.heap.size, 0, none⟩ = some (.slice (some ad) n c) := (HB1.out.to hx3).cell 0
        have k1 : w3.cell? ⟨w.heap.size, 1, none⟩ = some (.slice B m' d) := (HB1.out.to hx3).cell 1
        have hn3 := HND.out.to (X2.out.step hx3)
        obtain ⟨w4, hw4⟩ : ∃ w4, w4 = w3.alloc (.cells x.arr 66) := ⟨_, rfl⟩
        obtain ⟨B4, hx4, hs4⟩ := box_made hw4
        have H4 := Lib.hid hw4
        have HB4 := Lib.hid B4
        have HBA4 := Lib.hid (HB1.out.to (hx3.step hx4))
        have HROW4 := Lib.hid ((HROW.out.to hx3).add hx4 (Nat.le_refl _))
        have X4 := Lib.hid (X2.out.step (hx3.step hx4))
        have HLT := Lib.hid (show w.heap.size < w3.heap.size ∧ w4.heap.size = w3.heap.size + 1 from ⟨Nat.lt_of_lt_of_le HB1.out.lt hx3.size, hs4⟩)
        clear hw4 B4 hx4 hs4 hx3
        go_wp2_with (first
          | (refine wpList_load_nd (by rfl) _ (by rfl) _ (by rfl) x hn3 ?_)
          | (refine wpList_store_nd (W := w3) (by rfl) _ _ (by rfl) (by rfl) x (by rfl) _ (by rfl) (by rfl) ?_
             rw [← H4.out]
             have k0 : w4.cell? ⟨w.heap.size, 0, none⟩ = some (.slice (some ad) n c) := HBA4.out.cell 0
             have k1 : w4.cell? ⟨w.heap.size, 1, none⟩ = some (.slice B m' d) := HBA4.out.cell 1
             have c5 : w4.cell? ⟨w3.heap.size, 5, none⟩ = some (.int .u64 x.r0) := (HB4.out.cell 5).trans x.a5))
        refine (HC1.out _ X4.out).mono ?_
        rintro e w5 ⟨A1, c1, rfl, hr1, hc1, hc1m, hx5⟩
        obtain ⟨a, ha⟩ : ∃ a, a = l1.length := ⟨_, rfl⟩
        rw [← ha] at hr1 hc1 hlen1 HLen2 HC2 ⊢
        have HLa := Lib.hid ha
        have HR1 := Lib.hid hr1
        have HROW5 := Lib.hid (HROW4.out.to hx5)
        have HB5 := Lib.hid (HB4.out.to hx5)
        have HBA5 := Lib.hid (HBA4.out.to hx5)
        have X5 := Lib.hid (X4.out.step hx5)
        have hb5 := Lib.hid (show w.heap.size ≤ w5.heap.size from X5.out.size)
        have hex5 := Lib.hid (show ∀ b ∈ [w3.heap.size, w.heap.size], b < w5.heap.size by
          intro b hb
          have h1 := HB5.out.lt
          have h2 := HBA5.out.lt
          simp at hb
          rcases hb with rfl | rfl <;> assumption)
        have ha1000 : a ≤ 1000 := by omega
        obtain ⟨nn, hnn⟩ : ∃ nn, nn = x.n := ⟨_, rfl⟩
        obtain ⟨vv, hvv⟩ : ∃ vv, vv = x.v := ⟨_, rfl⟩
        have HNN := Lib.hid hnn
        have HVV := Lib.hid hvv
        clear hr1 hx5 ha hnn hvv hc1 hc1m
        go_wp2_with (first
          | (at_builtin
             refine wpList_append_x _ rfl (.tmp 26) (.tmp 33) _ rfl 40 i0 _ 2 16 Try.underlying31 hi0 hz0 hz1 hz2 rfl (by omega) w.heap.size [w3.heap.size, w.heap.size] _ 0 [] rfl HROW5.out A1 a c1 (flat itc l1) rfl HR1.out (flat_one itc_one _) (by simp only [maxLen]; omega) (by omega) hb5.out hex5.out ?_
             intro A6 c6 w6 hr6 ap6
             rw [Nat.zero_add] at hr6 ⊢
             have hB6 := ap6.keep _ _ (by simp) HB5.out
             have hBA6 := ap6.keep _ _ (by simp) HBA5.out
             have X6 := Lib.hid (ap6.old w X5.out (Nat.le_refl _))
             have n2 : w6.cell? ⟨w3.heap.size, 2, none⟩ = some (.int .i64 nn) := by rw [HNN.out]; exact (hB6.cell 2).trans x.a2
             have n3 : w6.cell? ⟨w3.heap.size, 3, none⟩ = some (.int .i64 vv) := by rw [HVV.out]; exact (hB6.cell 3).trans x.a3
             obtain ⟨w7, hw7⟩ : ∃ w7, w7 = w6.alloc (.cells #[.int .i64 nn, .int .i64 vv] 40) := ⟨_, rfl⟩
             obtain ⟨B7, hx7, hs7⟩ := box_made hw7
             have HR7 := Lib.hid (show RdI w7 (some ⟨w6.heap.size, 0, none⟩) 1 [(nn, vv)] by rw [hw7]; exact Rd.lit w6 #[.int .i64 nn, .int .i64 vv] 40 1 rfl)
             have HROW7 := Lib.hid (hr6.to hx7)
             have HB7 := Lib.hid (hB6.to hx7)
             have HBA7 := Lib.hid (hBA6.to hx7)
             have X7 := Lib.hid (X6.out.step hx7)
             have H7 := Lib.hid hw7
             have hb7 := Lib.hid (show w.heap.size ≤ w7.heap.size from X7.out.size)
             have hex7 := Lib.hid (show ∀ b ∈ [w3.heap.size, w.heap.size], b < w7.heap.size by
               intro b hb
               have h1 := HB7.out.lt
               have h2 := HBA7.out.lt
               simp at hb
               rcases hb with rfl | rfl <;> assumption)
             clear hr6 ap6 hB6 hBA6 hw7 B7 hx7 hs7)
          | (at_builtin
             rw [← H7.out]
             refine wpList_append_x _ rfl (.tmp 35) (.tmp 41) _ rfl 40 i0 _ 2 16 Try.underlying31 hi0 hz0 hz1 hz2 rfl (by omega) w.heap.size [w3.heap.size, w.heap.size] _ a ([] ++ flat itc l1) rfl HROW7.out (some ⟨w6.heap.size, 0, none⟩) 1 1 (flat itc [(nn, vv)]) rfl HR7.out (flat_one itc_one _) (by simp only [maxLen]; omega) (by omega) hb7.out hex7.out ?_
             intro A8 c8 w8 hr8 ap8
             have hB8 := ap8.keep _ _ (by simp) HB7.out
             have hBA8 := ap8.keep _ _ (by simp) HBA7.out
             have X8 := Lib.hid (ap8.old w X7.out (Nat.le_refl _))
             have HROW8 := Lib.hid hr8
             have HBA8 := Lib.hid hBA8
             have HB8 := Lib.hid hB8
             have c6 : w8.cell? ⟨w3.heap.size, 6, none⟩ = some (.int .u64 x.r1) := (hB8.cell 6).trans x.a6
             have k0 : w8.cell? ⟨w.heap.size, 0, none⟩ = some (.slice (some ad) n c) := hBA8.cell 0
             have k1 : w8.cell? ⟨w.heap.size, 1, none⟩ = some (.slice B m' d) := hBA8.cell 1
             clear hr8 ap8 hB8 hBA8))
        rw [show ((m : Int) + 1 - ((a : Int) + 1)) = ((m - a : Nat) : Int) by omega]
        clear c5 c6
        refine (HC2.out _ X8.out).mono ?_
        rintro e w9 ⟨A9, c9, rfl, hr9, hc9, hc9m, hx9⟩
        obtain ⟨b, hb⟩ : ∃ b, b = l2.length := ⟨_, rfl⟩
        rw [← hb] at hr9 hc9 ⊢
        have hbm : b ≤ 1000 := by have := HLen2.out; omega
        have HLb := Lib.hid hb
        have HR9 := Lib.hid hr9
        have HROW9 := Lib.hid (HROW8.out.to hx9)
        have X9 := Lib.hid (X8.out.step hx9)
        have hb9 := Lib.hid (show w.heap.size ≤ w9.heap.size from X9.out.size)
        have hex9 := Lib.hid (show ∀ b ∈ [w3.heap.size, w.heap.size], b < w9.heap.size by
          intro b hb
          have h1 := (HB8.out.to hx9).lt
          have h2 := (HBA8.out.to hx9).lt
          simp at hb
          rcases hb with rfl | rfl <;> assumption)
        clear hr9 hx9 hb hc9 hc9m k0 k1 n2 n3
        go_wp2_with (first
          | (at_builtin
             refine wpList_append_x _ rfl (.tmp 43) (.tmp 52) _ rfl 40 i0 _ 2 16 Try.underlying31 hi0 hz0 hz1 hz2 rfl (by omega) w.heap.size [w3.heap.size, w.heap.size] _ (a + 1) _ rfl HROW9.out A9 b c9 (flat itc l2) rfl HR9.out (flat_one itc_one _) (by simp only [maxLen]; omega) (by omega) hb9.out hex9.out ?_
             intro A10 c10 w10 hr10 ap10))
        have HF := Lib.hid (show RowA (l1 ++ (x.n, x.v) :: l2) w (.returned (.slice A10 (a + 1 + b : Nat) c10)) w10 by
          have hlen : (l1 ++ (x.n, x.v) :: l2).length = a + 1 + b := by rw [HLa.out, HLb.out]; simp; omega
          obtain ⟨A', c', e1, e2, e3⟩ := hr10.slice
          injection e1 with _ _ e1
          subst e1
          refine ⟨A10, c10, by rw [hlen], ?_, by rw [hlen]; exact e2, e3, ap10.old w X9.out (Nat.le_refl _)⟩
          have hr := hr10.rd
          rw [hlen]
          rw [List.nil_append, flat_append, flat_append, HNN.out, HVV.out] at hr
          simpa using hr)
        clear hr10 ap10
        go_ret
        exact HF.out
    · have HAt := Lib.hid (at_no A n c m' d B ns r w2 hU.1 hU.2 HA.out hg)
      have HE := Lib.hid (show RowA (rowF ns m r) w = RowA [] w by rw [rowF_gone m hg])
      rw [HE.out]
      clear hw1 hw2 B1 B2 hx1 hx2 hs1 hs2 ih h hl hok hg
      go_enter Try.func16, Try.ntmps16
      go_wp2_with fail
      rw [← H1.out, ← H2.out]
      refine HAt.out.mono ?_; rintro e w3 ⟨rfl, hx3⟩
      go_wp2_with fail
      go_ret
      exact ⟨some ⟨w.heap.size + 1, 0, none⟩, 0, rfl, Rd.nil _ _ _, Nat.le_refl _, by unfold maxLen; omega, X2.out.step hx3⟩

end Go.Proofs.Ythgaogbpkedjcaa

/-
  Contracts of the document's answers on rows: the key above all others (top), whether a row is in order (Ordered), a key's place (At).
-/
set_option linter.unusedVariables false
set_option linter.unusedSimpArgs false
namespace Go.Proofs.Ythgaogbpkedjcaa
open Go.RowKit

/-- The two cells of an item. -/
def ItAt (w : World) (a : Addr) (x : Int × Int) : Prop := w.cell? a = some (.int .i64 x.1) ∧ w.cell? { block := a.block, off := a.off + 1 } = some (.int .i64 x.2)
theorem RdI.item {w : World} {A : Option Addr} {n : Nat} {l : Row} (h : RdI w A n l) {k : Nat} {x : Int × Int} (hx : l[k]? = some x) : ∃ ad, A = some ad ∧ ItAt w (ad.add (k * 2)) x := by
  obtain ⟨ad, ha, h0⟩ := h.2 (k * 2 + 0) (.int .i64 x.1) ((flat_get itc_length l k 0 x hx (by omega)).trans rfl)
  obtain ⟨ad', ha', h1⟩ := h.2 (k * 2 + 1) (.int .i64 x.2) ((flat_get itc_length l k 1 x hx (by omega)).trans rfl)
  rw [ha] at ha'
  injection ha' with ha'
  subst ha'
  refine ⟨ad, ha, h0, ?_⟩
  rw [← addr_add] at h1
  exact h1
theorem ItAt.to {w w' : World} {a : Addr} {x : Int × Int} (h : ItAt w a x) (hx : Ext w w') : ItAt w' a x := ⟨hx.cellOf h.1, hx.cellOf h.2⟩

def TopA (l : Row) (w : World) (e : Ending) (w' : World) : Prop :=
  ((l = [] ∧ e = .returned (.int .i64 (-1))) ∨ ∃ a k v b, l = a ++ (k, v) :: b ∧ (∀ y ∈ a, Bef k y.1) ∧ (∀ y ∈ b, Bef k y.1) ∧ e = .returned (.int .i64 (a.length : Nat))) ∧ Ext w w'
/-- Up to a place the j-th key is above all others. -/
def Best (l : Row) (k j : Nat) : Prop := ∀ (i : Nat) (x y : Int × Int), i < k → i ≠ j → l[j]? = some y → l[i]? = some x → Bef y.1 x.1
theorem srt_get {l : Row} (h : Srt l) {i j : Nat} {x y : Int × Int} (hx : l[i]? = some x) (hy : l[j]? = some y) (hij : i < j) : x.1 < y.1 := by
  obtain ⟨h1, e1⟩ := List.getElem?_eq_some_iff.1 hx
  obtain ⟨h2, e2⟩ := List.getElem?_eq_some_iff.1 hy
  rw [← e1, ← e2]
  exact List.pairwise_iff_getElem.1 h i j h1 h2 hij
theorem srt_ne {l : Row} (h : Srt l) {i j : Nat} {x y : Int × Int} (hx : l[i]? = some x) (hy : l[j]? = some y) (hij : i ≠ j) : x.1 ≠ y.1 := by
  rcases Nat.lt_or_gt_of_ne hij with h' | h'
  · have := srt_get h hx hy h'; omega
  · have := srt_get h hy hx h'; omega
theorem best_first (l : Row) : Best l 1 0 := fun i x y hi hij _ _ => by omega
theorem best_new {l : Row} {k j : Nat} {x y : Int × Int} (hb : Best l k j) (hj : j < k) (hx : l[k]? = some x) (hy : l[j]? = some y) (h : Bef x.1 y.1) : Best l (k + 1) k := by
  intro i z u hi hik hu hz
  rw [hx] at hu
  injection hu with hu
  subst hu
  by_cases e : i = j
  · subst e
    rw [hy] at hz
    injection hz with hz
    subst hz
    exact h
  · exact h.trans (hb i z y (by omega) e hy hz)
theorem best_old {l : Row} {k j : Nat} {x y : Int × Int} (hs : Srt l) (hb : Best l k j) (hj : j < k) (hx : l[k]? = some x) (hy : l[j]? = some y) (h : ¬ Bef x.1 y.1) : Best l (k + 1) j := by
  intro i z u hi hij hu hz
  rw [hy] at hu
  injection hu with hu
  subst hu
  by_cases e : i = k
  · subst e
    rw [hx] at hz
    injection hz with hz
    subst hz
    exact (Bef.total (srt_ne hs hx hy (by omega))).resolve_left h
  · exact hb i z y (by omega) hij hy hz
theorem best_all {l : Row} {j : Nat} (hj : j < l.length) (hb : Best l l.length j) : ∃ a k v b, l = a ++ (k, v) :: b ∧ (∀ y ∈ a, Bef k y.1) ∧ (∀ y ∈ b, Bef k y.1) ∧ a.length = j := by
  refine ⟨l.take j, l[j].1, l[j].2, l.drop (j + 1), ?_, ?_, ?_, by simp; omega⟩
  · conv => lhs; rw [← List.take_append_drop j l, List.drop_eq_getElem_cons hj]
  · intro y hy
    obtain ⟨i, hi⟩ := List.getElem?_of_mem hy
    rw [List.getElem?_take] at hi
    split at hi
    · exact hb i y l[j] (by omega) (by omega) (List.getElem?_eq_getElem hj) hi
    · cases hi
  · intro y hy
    obtain ⟨i, hi⟩ := List.getElem?_of_mem hy
    rw [List.getElem?_drop] at hi
    exact hb _ y l[j] (List.getElem?_eq_some_iff.1 hi).1 (by omega) (List.getElem?_eq_getElem hj) hi

set_option maxHeartbeats 2000000 in
theorem top_is (A : Option Addr) (n c : Nat) (l : Row) (w : World) (h : RdI w A n l) (hn : n ≤ 1000) (hs : Srt l) :
    Calls Try.prog 54 #[.slice A n c] w (TopA l w) := by
  have hl := Lib.hid h.len
  have HH := Lib.hid h
  have HS := Lib.hid hs
  clear h hs
  go_enter Try.func54, Try.ntmps54
  go_wp2_with fail
  go_loopw [3, 8, 4, 5] (fun b j _ _ wr => Hid (Ext w wr) ∧ ∃ k : Nat, k ≤ n ∧ j = .int .i64 k ∧ ((k = 0 ∧ b = .int .i64 (-1)) ∨ ∃ m : Nat, m < k ∧ b = .int .i64 m ∧ Hid (Best l k m))) (fun _ j _ _ _ => n - (intOf j).toNat)
  case atStart => exact ⟨Lib.hid (Ext.refl _), 0, Nat.zero_le _, rfl, .inl ⟨rfl, rfl⟩⟩
  case round =>
    obtain ⟨hx, k, hk, rfl, hb⟩ := hrel
    rename World => w4
    by_cases hlt : k < n
    · obtain ⟨x, hxk⟩ : ∃ x, l[k]? = some x := ⟨_, List.getElem?_eq_getElem (by have := hl.out; omega)⟩
      obtain ⟨ad, rfl, hit⟩ := HH.out.item hxk
      obtain ⟨x1, x2⟩ := x
      obtain ⟨c0, c1⟩ := hit.to hx.out
      have HX := Lib.hid hxk
      have hx1 := Lib.hid (hx.out.new (.cells #[.int .i64 x1, .int .i64 x2] 40))
      simp only at c0 c1
      clear hxk hit
      rcases hb with ⟨hk0, rfl⟩ | ⟨m, hm, rfl, hbest⟩
      · have HK0 := Lib.hid hk0
        clear hk0
        go_wp2_with fail
        refine wp_region_later _ (Ext.refl _) (by kernel_rfl) (by kernel_rfl) ?_
        repeat (go_big_quiet_step (fail))
        refine wpQuiet_nil ?_
        rintro _ ⟨q, rfl⟩
        go_wp2_with fail
        go_roundw
        case rel => exact ⟨Lib.hid (hx1.out.step q.ext), k + 1, by omega, by go_num, .inr ⟨k, by omega, rfl, Lib.hid (by rw [HK0.out]; exact best_first l)⟩⟩
        case measure => simp [intOf]; omega
      · obtain ⟨y, hym⟩ : ∃ y, l[m]? = some y := ⟨_, List.getElem?_eq_getElem (by have := hl.out; omega)⟩
        obtain ⟨ad', e', hit'⟩ := HH.out.item hym
        injection e' with e'
        obtain rfl : ad = ad' := e'
        obtain ⟨y1, y2⟩ := y
        have HY := Lib.hid hym
        have d0 := fun q : Later (w4.alloc (.cells #[.int .i64 x1, .int .i64 x2] 40)) => (hit'.to (hx1.out.step q.ext)).1
        have b0 := Bx.new w4 #[.int .i64 x1, .int .i64 x2] 40
        have d1 := fun q : Later (w4.alloc (.cells #[.int .i64 x1, .int .i64 x2] 40)) => (b0.to q.ext).cell 0
        simp only [List.getElem?_toArray, List.getElem?_cons_zero, List.getElem?_cons_succ] at d0 d1
        have hm0 : decide ((m : Int) < 0) = false := by simp
        have hmn : m < n := by omega
        have hnm : ¬ n ≤ m := by omega
        have HBf := Lib.hid (fun W => refBefore_is x1 y1 W)
        clear hym hit' b0
        cases hbb : bef x1 y1
        · rw [hbb] at HBf
          have HN := Lib.hid (best_old HS.out hbest.out hm HX.out HY.out (bef_not.1 hbb))
          clear hbb hbest
          go_wp2_with fail
          refine wp_region_later _ (Ext.refl _) (by kernel_rfl) (by kernel_rfl) ?_
          repeat (go_big_quiet_step (first | (go_at_call 70; exact later_same (fun W _ => HBf.out W))))
          refine wpQuiet_nil ?_
          rintro _ ⟨q, rfl⟩
          clear d0 d1
          go_wp2_with fail
          go_roundw
          case rel => exact ⟨Lib.hid (hx1.out.step q.ext), k + 1, by omega, by go_num, .inr ⟨m, by omega, rfl, HN⟩⟩
          case measure => simp [intOf]; omega
        · rw [hbb] at HBf
          have HN := Lib.hid (best_new hbest.out hm HX.out HY.out (bef_iff.1 hbb))
          clear hbb hbest
          go_wp2_with fail
          refine wp_region_later _ (Ext.refl _) (by kernel_rfl) (by kernel_rfl) ?_
          repeat (go_big_quiet_step (first | (go_at_call 70; exact later_same (fun W _ => HBf.out W))))
          refine wpQuiet_nil ?_
          rintro _ ⟨q, rfl⟩
          clear d0 d1
          go_wp2_with fail
          go_roundw
          case rel => exact ⟨Lib.hid (hx1.out.step q.ext), k + 1, by omega, by go_num, .inr ⟨k, by omega, rfl, HN⟩⟩
          case measure => simp [intOf]; omega
    · obtain rfl : k = n := by omega
      rcases hb with ⟨rfl, rfl⟩ | ⟨m, hm, rfl, hbest⟩
      · have hnil : l = [] := List.eq_nil_of_length_eq_zero hl.out
        have HF := Lib.hid (show TopA l w (.returned (.int .i64 (-1))) w4 from ⟨.inl ⟨hnil, rfl⟩, hx.out⟩)
        clear hnil
        go_wp2_with fail
        go_ret
        exact HF.out
      · have HF := Lib.hid (show TopA l w (.returned (.int .i64 m)) w4 from ⟨.inr (by
          obtain ⟨a, k', v, b, h1, h2, h3, h4⟩ := best_all (l := l) (j := m) (by rw [hl.out]; exact hm) (by rw [hl.out]; exact hbest.out)
          exact ⟨a, k', v, b, h1, h2, h3, by rw [h4]⟩), hx.out⟩)
        clear hbest
        go_wp2_with fail
        go_ret
        exact HF.out

end Go.Proofs.Ythgaogbpkedjcaa

/-
  The mathematics of places in a map: the way down a tree to a border.
-/
set_option linter.unusedVariables false
set_option linter.unusedSimpArgs false
namespace Go.Proofs.Ythgaogbpkedjcaa
open Go.RowKit

/-- Down a tree to a border: its place, and the nodes ahead of it and behind it. -/
def dn (f : Int → Int → Bool) : T → Nat → Int → Int → Nat × Int × Int
  | .nil, p, x, y => (p, x, y)
  | .node r l k v u, p, x, y => if f k ((p + l.size : Nat) : Int) = true then dn f l p x r else dn f u (p + l.size + 1) r y
/-- A reference is that of a key's node. -/
def T.At : T → Int → Int × Int → Prop
  | .nil, _, _ => False
  | .node r l k v u, z, a => (z = r ∧ a = (k, v)) ∨ l.At z a ∨ u.At z a
theorem at_node {ns : List Nd} (hok : ∀ x ∈ ns, x.Ok) {t : T} : Rep ns t → U t.ref → ∀ {z : Int} {a : Int × Int}, t.At z a → z ≠ 0 ∧ U z ∧ (nodeF ns z).n = a.1 ∧ (nodeF ns z).v = a.2 := by
  induction t with
  | nil => intro _ _ z a h; exact absurd h (by simp [T.At])
  | node r l k v u ih1 ih2 =>
    intro hR hU z a h
    have hk := hR.kids hok
    rcases h with ⟨rfl, rfl⟩ | h | h
    · obtain ⟨g, hn⟩ := hR.node
      rw [hn]
      exact ⟨hR.ref_nz, hU, rfl, rfl⟩
    · exact ih1 hR.2.1 hk.1 h
    · exact ih2 hR.2.2 hk.2 h

def Mono (f : Int → Int → Bool) (p : Nat) (l : Row) : Prop := ∀ (i j : Nat) (a b : Int × Int), i ≤ j → l[i]? = some a → l[j]? = some b → f a.1 ((p + i : Nat) : Int) = true → f b.1 ((p + j : Nat) : Int) = true
theorem Mono.left {f : Int → Int → Bool} {p : Nat} {a b : Row} (h : Mono f p (a ++ b)) : Mono f p a := fun i j x y hij hx hy hf =>
  h i j x y hij (by rw [List.getElem?_append_left (List.getElem?_eq_some_iff.1 hx).1]; exact hx) (by rw [List.getElem?_append_left (List.getElem?_eq_some_iff.1 hy).1]; exact hy) hf
theorem Mono.right {f : Int → Int → Bool} {p : Nat} {a b : Row} (h : Mono f p (a ++ b)) : Mono f (p + a.length) b := fun i j x y hij hx hy hf => by
  have := h (a.length + i) (a.length + j) x y (by omega) (by rw [List.getElem?_append_right (by omega), show a.length + i - a.length = i by omega]; exact hx) (by rw [List.getElem?_append_right (by omega), show a.length + j - a.length = j by omega]; exact hy)
  rw [← Nat.add_assoc, ← Nat.add_assoc] at this
  exact this hf

/-- A border of a row. -/
structure Cut (f : Int → Int → Bool) (p : Nat) (l : Row) (q : Nat) : Prop where
  le : q ≤ l.length
  lt : ∀ (i : Nat) (a : Int × Int), i < q → l[i]? = some a → f a.1 ((p + i : Nat) : Int) = false
  ge : ∀ (i : Nat) (a : Int × Int), q ≤ i → l[i]? = some a → f a.1 ((p + i : Nat) : Int) = true

theorem dn_is (f : Int → Int → Bool) (t : T) : ∀ (p : Nat) (x y : Int), Mono f p t.row → ∃ q, Cut f p t.row q ∧ (dn f t p x y).1 = p + q ∧
    ((q = 0 ∧ (dn f t p x y).2.1 = x) ∨ ∃ a, 0 < q ∧ t.row[q - 1]? = some a ∧ t.At (dn f t p x y).2.1 a) ∧
    ((q = t.row.length ∧ (dn f t p x y).2.2 = y) ∨ ∃ a, t.row[q]? = some a ∧ t.At (dn f t p x y).2.2 a) := by
  induction t with
  | nil =>
    intro p x y _
    exact ⟨0, ⟨by simp [T.row], fun i a h => by omega, fun i a _ h => by simp [T.row] at h⟩, rfl, .inl ⟨rfl, rfl⟩, .inl ⟨rfl, rfl⟩⟩
  | node r l k v u ih1 ih2 =>
    intro p x y hm
    have hll := T.row_length l
    have hmid : (l.row ++ (k, v) :: u.row)[l.size]? = some (k, v) := by rw [← hll]; simp
    simp only [T.row] at hm ⊢
    unfold dn
    by_cases hf : f k ((p + l.size : Nat) : Int) = true
    · rw [if_pos hf]
      obtain ⟨q, hc, h1, h2, h3⟩ := ih1 p x r hm.left
      have hql := hc.le
      refine ⟨q, ⟨by simp; omega, fun i a hi ha => ?_, fun i a hi ha => ?_⟩, h1, ?_, ?_⟩
      · rw [List.getElem?_append_left (by omega)] at ha
        exact hc.lt i a hi ha
      · by_cases e : i < l.row.length
        · rw [List.getElem?_append_left e] at ha
          exact hc.ge i a hi ha
        · exact hm l.size i (k, v) a (by omega) hmid ha hf
      · rcases h2 with h2 | ⟨a, ha, hb, hd⟩
        · exact .inl h2
        · refine .inr ⟨a, ha, ?_, .inr (.inl hd)⟩
          rw [List.getElem?_append_left (by omega)]
          exact hb
      · rcases h3 with ⟨e, h3⟩ | ⟨a, ha, hd⟩
        · refine .inr ⟨(k, v), ?_, .inl ⟨h3, rfl⟩⟩
          rw [e, hll]; exact hmid
        · refine .inr ⟨a, ?_, .inr (.inl hd)⟩
          rw [List.getElem?_append_left (List.getElem?_eq_some_iff.1 ha).1]
          exact ha
    · rw [if_neg hf]
      have hm2 : Mono f (p + l.size + 1) u.row := by
        have := hm
        rw [show l.row ++ (k, v) :: u.row = (l.row ++ [(k, v)]) ++ u.row by simp] at this
        have := this.right
        rw [show (l.row ++ [(k, v)]).length = l.size + 1 by simp [hll]] at this
        exact this
      obtain ⟨q, hc, h1, h2, h3⟩ := ih2 (p + l.size + 1) r y hm2
      have hql := hc.le
      have hget : ∀ i, l.size + 1 ≤ i → (l.row ++ (k, v) :: u.row)[i]? = u.row[i - (l.size + 1)]? := fun i hi => by
        rw [List.getElem?_append_right (by omega), hll]
        rw [show i - l.size = (i - (l.size + 1)) + 1 by omega]
        rfl
      refine ⟨l.size + 1 + q, ⟨by simp; omega, fun i a hi ha => ?_, fun i a hi ha => ?_⟩, by omega, ?_, ?_⟩
      · by_cases e : i < l.size + 1
        · cases hb : f a.1 ((p + i : Nat) : Int) with
          | false => rfl
          | true => exact absurd (hm i l.size a (k, v) (by omega) ha hmid hb) hf
        · rw [hget i (by omega)] at ha
          have := hc.lt (i - (l.size + 1)) a (by omega) ha
          rw [show p + l.size + 1 + (i - (l.size + 1)) = p + i by omega] at this
          exact this
      · rw [hget i (by omega)] at ha
        have := hc.ge (i - (l.size + 1)) a (by omega) ha
        rw [show p + l.size + 1 + (i - (l.size + 1)) = p + i by omega] at this
        exact this
      · right
        rcases h2 with ⟨e, h2⟩ | ⟨a, ha, hb, hd⟩
        · subst e
          exact ⟨(k, v), by omega, hmid, .inl ⟨h2, rfl⟩⟩
        · refine ⟨a, by omega, ?_, .inr (.inr hd)⟩
          rw [hget _ (by omega), show l.size + 1 + q - 1 - (l.size + 1) = q - 1 by omega]
          exact hb
      · rcases h3 with ⟨e, h3⟩ | ⟨a, ha, hd⟩
        · exact .inl ⟨by simp; omega, h3⟩
        · refine .inr ⟨a, ?_, .inr (.inr hd)⟩
          rw [hget _ (by omega), show l.size + 1 + q - (l.size + 1) = q by omega]
          exact ha
theorem dn_place (f : Int → Int → Bool) (t : T) : ∀ (p : Nat) (x y : Int), (dn f t p x y).1 ≤ p + t.size := by
  induction t with
  | nil => intro p x y; exact Nat.le_refl _
  | node r l k v u ih1 ih2 =>
    intro p x y
    unfold dn
    split
    · have := ih1 p x r; simp only [T.size]; omega
    · have := ih2 (p + l.size + 1) r y; simp only [T.size]; omega

/-- A border by a key: those below it. -/
theorem cut_filter {l : Row} {q : Nat} (g : Int × Int → Bool) (hq : q ≤ l.length) (h1 : ∀ (i : Nat) (a : Int × Int), i < q → l[i]? = some a → g a = true) (h2 : ∀ (i : Nat) (a : Int × Int), q ≤ i → l[i]? = some a → g a = false) : l.filter g = l.take q := by
  conv => lhs; rw [← List.take_append_drop q l]
  rw [List.filter_append, List.filter_eq_self.2, List.filter_eq_nil_iff.2, List.append_nil]
  · intro a ha
    obtain ⟨i, hi⟩ := List.getElem?_of_mem ha
    rw [List.getElem?_drop] at hi
    rw [h2 _ a (by omega) hi]
    simp
  · intro a ha
    obtain ⟨i, hi⟩ := List.getElem?_of_mem ha
    rw [List.getElem?_take] at hi
    split at hi
    · exact h1 i a (by omega) hi
    · cases hi
/-- Those up to a key. -/
def upto (l : Row) (k : Int) : Row := l.filter (fun x => x.1 ≤ k)
theorem mono_ge {l : Row} (hs : Srt l) (key : Int) : Mono (fun k _ => decide (key ≤ k)) 0 l := by
  intro i j a b hij ha hb h
  simp only [decide_eq_true_eq] at h ⊢
  rcases Nat.lt_or_eq_of_le hij with h' | rfl
  · have := srt_get hs ha hb h'; omega
  · rw [ha] at hb; injection hb with hb; subst hb; exact h
theorem mono_gt {l : Row} (hs : Srt l) (key : Int) : Mono (fun k _ => decide (key < k)) 0 l := by
  intro i j a b hij ha hb h
  simp only [decide_eq_true_eq] at h ⊢
  rcases Nat.lt_or_eq_of_le hij with h' | rfl
  · have := srt_get hs ha hb h'; omega
  · rw [ha] at hb; injection hb with hb; subst hb; exact h
theorem mono_at (l : Row) (place : Int) : Mono (fun _ p => decide (place ≤ p)) 0 l := by
  intro i j a b hij ha hb h
  simp only [decide_eq_true_eq] at h ⊢
  omega
theorem cut_lo {l : Row} {key : Int} {q : Nat} (h : Cut (fun k _ => decide (key ≤ k)) 0 l q) : lo l key = l.take q :=
  cut_filter _ h.le (fun i a hi ha => by have := h.lt i a hi ha; simp at this ⊢; omega) (fun i a hi ha => by have := h.ge i a hi ha; simp at this ⊢; omega)
theorem cut_upto {l : Row} {key : Int} {q : Nat} (h : Cut (fun k _ => decide (key < k)) 0 l q) : upto l key = l.take q :=
  cut_filter _ h.le (fun i a hi ha => by have := h.lt i a hi ha; simp at this ⊢; omega) (fun i a hi ha => by have := h.ge i a hi ha; simp at this ⊢; omega)
theorem cut_at {l : Row} {place : Int} {q : Nat} (hp : 0 ≤ place) (h : Cut (fun _ p => decide (place ≤ p)) 0 l q) : l[q]? = l[place.toNat]? := by
  by_cases e : place.toNat < l.length
  · obtain ⟨a, ha⟩ : ∃ a, l[place.toNat]? = some a := ⟨_, List.getElem?_eq_getElem e⟩
    have h1 : q ≤ place.toNat := by
      by_cases hq : q ≤ place.toNat
      · exact hq
      · have := h.lt place.toNat a (by omega) ha
        simp at this; omega
    have h2 : place.toNat ≤ q := by
      by_cases hq : place.toNat ≤ q
      · exact hq
      · obtain ⟨b, hb⟩ : ∃ b, l[q]? = some b := ⟨_, List.getElem?_eq_getElem (by omega)⟩
        have := h.ge q b (by omega) hb
        simp at this; omega
    rw [show q = place.toNat by omega]
  · have h1 : l.length ≤ q := by
      by_cases hq : l.length ≤ q
      · exact hq
      · obtain ⟨b, hb⟩ : ∃ b, l[q]? = some b := ⟨_, List.getElem?_eq_getElem (by omega)⟩
        have := h.ge q b (by omega) hb
        simp at this; omega
    rw [List.getElem?_eq_none (show l.length ≤ q from h1), List.getElem?_eq_none (show l.length ≤ place.toNat by omega)]

end Go.Proofs.Ythgaogbpkedjcaa

/-
  Contracts of package order: a reference's node, a map's size, a node's key with its value.
-/
set_option linter.unusedVariables false
set_option linter.unusedSimpArgs false
namespace Go.Proofs.Ythgaogbpkedjcaa
open Go.RowKit

set_option maxHeartbeats 1000000 in
theorem orNode_is (A B : Option Addr) (n c m d : Nat) (ns : List Nd) (r : Int) (w : World) (h0 : 0 ≤ r) (h1 : r ≤ 18446744073709551615) (h : Rd w 16 A n (flat Nd.cells ns)) :
    Calls Try.prog 68 #[.agg #[.slice A n c, .slice B m d], .int .u64 r] w fun e w' => e = .returned (.agg (nodeF ns r).arr) ∧ Ext w w' := by
  obtain ⟨w1, hw1⟩ : ∃ w1, w1 = w.alloc (.cells #[.slice A n c, .slice B m d] 25) := ⟨_, rfl⟩
  obtain ⟨w2, hw2⟩ : ∃ w2, w2 = w1.alloc (.cells #[.int .i64 0, .int .i64 0, .int .i64 0, .int .i64 0, .int .i64 0, .int .u64 0, .int .u64 0, .int .u64 0, .int .u64 0, .int .u64 0, .int .u64 0, .int .u64 0, .int .u64 0, .int .u64 0, .int .i64 0, .int .i64 0] 66) := ⟨_, rfl⟩
  obtain ⟨B1, hx1, hs1⟩ := box_made hw1
  obtain ⟨B2, hx2, hs2⟩ := box_made hw2
  rw [hs1] at B2
  obtain ⟨k, hget⟩ := get_any A B n c m d ns r w2 h0 h1 (h.to (hx1.step hx2))
  generalize nodeF ns r = x at hget ⊢
  have HG := Lib.hid hget
  have k0 : w2.cell? ⟨w.heap.size, 0, none⟩ = some (.slice A n c) := (B1.to hx2).cell 0
  have k1 : w2.cell? ⟨w.heap.size, 1, none⟩ = some (.slice B m d) := (B1.to hx2).cell 1
  have H1 := Lib.hid hw1
  have H2 := Lib.hid hw2
  have X2 := Lib.hid (hx1.step hx2)
  have HB := Lib.hid B2
  clear hw1 hw2 B1 B2 hx1 hx2 hs1 hs2 h hget
  go_enter Try.func68, Try.ntmps68
  go_wp2_with fail
  rw [← H1.out, ← H2.out]
  go_wp2_with fail
  refine HG.out.mono ?_; rintro e w3 ⟨rfl, hx3⟩
  obtain ⟨w4, hw4⟩ : ∃ w4, w4 = w3.alloc (.cells x.arr 66) := ⟨_, rfl⟩
  obtain ⟨B4, hx4, hs4⟩ := box_made hw4
  have H4 := Lib.hid hw4
  have n4 := B4.node
  have b4 := HB.out.to (hx3.step hx4)
  have X4 := Lib.hid (X2.out.step (hx3.step hx4))
  clear hw4 hs4 hx3 hx4 B4 k0 k1
  go_wp2_with (first
    | (refine wpList_store_nd (W := w3) (by rfl) _ _ (by rfl) (by rfl) x (by rfl) _ (by rfl) (by rfl) ?_; rw [← H4.out])
    | (refine wpList_load_nd (by rfl) _ (by rfl) _ (by rfl) x n4 ?_)
    | (refine wpList_store_box (by rfl) _ _ (by rfl) _ (by rfl) x (by rfl) _ b4 rfl ?_; intro wz hbz hoz))
  refine bodyPost_ret (results_nd1 rfl _ _ ⟨w.heap.size + 1, 0, none⟩ x (by rfl) hbz.node) rfl ⟨rfl, ?_⟩
  exact hoz.new X4.out (by omega)

set_option maxHeartbeats 1000000 in
theorem orSize_is (A B : Option Addr) (n c m d : Nat) (ns : List Nd) (r : Int) (w : World) (h0 : 0 ≤ r) (h1 : r ≤ 18446744073709551615) (h : Rd w 16 A n (flat Nd.cells ns)) :
    Calls Try.prog 69 #[.agg #[.slice A n c, .slice B m d], .int .u64 r] w fun e w' => e = .returned (.int .i64 (nodeF ns r).s) ∧ Ext w w' := by
  have HN := Lib.hid (orNode_is A B n c m d ns r (w.alloc (.cells #[.slice A n c, .slice B m d] 25)) h0 h1 (h.to ((Ext.refl w).new _)))
  generalize nodeF ns r = x at HN ⊢
  have hfs := nd_s x
  clear h
  go_enter Try.func69, Try.ntmps69
  go_wp2_with fail
  refine HN.out.mono ?_; rintro e w3 ⟨rfl, hx3⟩
  go_wp2_with fail
  go_ret
  exact ⟨rfl, ((Ext.refl w).new _).step hx3⟩


/-- THE OPERATION: a struct goes into a block of the call's own that is known whole. -/
theorem wpList_store_agg {P : Program} {ops : Array Oper} {rest : List Oper} {o : Oper} {a : Act} {w : World} {Q : Exit → Act → World → Prop} (hgd : Region.wanted o (yielded ops a.tmps) = true) (ty : TypeId) (x y : Operand) (ho : o.op = .store ty x y)
    (b : Nat) (hx : a.eval x = .pointer (some ⟨b, 0, none⟩)) (vs : Array Value) (hy : a.eval y = .agg vs) (h1 : vs.all (·.oneCell') = true) (hi : (P.info? ty).map (·.size) = some vs.size) (cs : Array Value) (hB : Bx w b cs) (hc : cs.size = vs.size)
    (h : ∀ W, Bx W b vs → Only b w W → wpList P ops Q rest (a.put o.dst undef) W) : wpList P ops Q (o :: rest) a w := by
  have ht : w.there b 0 vs.size := fun j hj => by
    rw [Nat.zero_add]
    refine ⟨?_, hB.free j⟩
    rw [hB.cell j, Array.getElem?_eq_getElem (by omega)]; rfl
  exact Go.BigFrame.wpList_want hgd fun K hK => by
    unfold Oper.wp execOp
    simp only [ho, hx, hy, Sem.run_bind, run_storeAt_mid (P := P) w b 0 ty vs ht hi h1, Sem.run_pure, Result.andThen_ok]
    exact hK _ _ (h _ (hB.stored hc) (setCells_only b _ 0 w w (Only.refl b w)))
theorem loadIt {w : World} {b : Nat} {cs : Array Value} (h : Bx w b cs) (hc : cs.size = 2) : (loadVar 40 ⟨b, 0, none⟩).run Try.prog w = .ok (.agg cs) w := by
  have hi : (Try.prog.info? 40).map (·.size) = some 2 := by kernel_rfl
  exact run_loadVar_any (P := Try.prog) w ⟨b, 0, none⟩ 40 cs _ (fun j v hv => by rw [addr_zero, h.cell j]; exact hv) Try.underlying40 rfl (by rw [hc]; exact hi)
theorem results_it2 {fn : Func} {p u : Tmp} (h : fn.results = #[.cell p 40, .tmp u]) (tmps : Array Value) (w : World) (b : Nat) (cs : Array Value) (hp : tmps.getD p undef = .pointer (some ⟨b, 0, none⟩)) (hB : Bx w b cs) (hc : cs.size = 2) :
    (results fn tmps).run Try.prog w = .ok (.tuple #[.agg cs, tmps.getD u undef]) w := by
  have hp' : tmps[p]?.getD undef = .pointer (some ⟨b, 0, none⟩) := by simpa using hp
  simp [results, h, hp', asAddr, loadIt hB hc]
theorem loadBd {w : World} {b : Nat} {cs : Array Value} (h : Bx w b cs) (hc : cs.size = 3) : (loadVar 89 ⟨b, 0, none⟩).run Try.prog w = .ok (.agg cs) w := by
  have hi : (Try.prog.info? 89).map (·.size) = some 3 := by kernel_rfl
  exact run_loadVar_any (P := Try.prog) w ⟨b, 0, none⟩ 89 cs _ (fun j v hv => by rw [addr_zero, h.cell j]; exact hv) Try.underlying89 rfl (by rw [hc]; exact hi)
theorem results_bd1 {fn : Func} {p : Tmp} (h : fn.results = #[.cell p 89]) (tmps : Array Value) (w : World) (b : Nat) (cs : Array Value) (hp : tmps.getD p undef = .pointer (some ⟨b, 0, none⟩)) (hB : Bx w b cs) (hc : cs.size = 3) :
    (results fn tmps).run Try.prog w = .ok (.agg cs) w := by
  have hp' : tmps[p]?.getD undef = .pointer (some ⟨b, 0, none⟩) := by simpa using hp
  simp [results, h, hp', asAddr, loadBd hB hc]

/-- A key with its value as it is answered, or that there is none. -/
def itV : Option (Int × Int) → Array Value
  | none => #[.agg #[.int .i64 0, .int .i64 0], .int .i64 3]
  | some x => #[.agg #[.int .i64 x.1, .int .i64 x.2], .int .i64 0]
def ItemA (o : Option (Int × Int)) (w : World) (e : Ending) (w' : World) : Prop := e = .returned (.tuple (itV o)) ∧ Ext w w'

set_option maxHeartbeats 1000000 in
theorem itemOf_none (A B : Option Addr) (n c m d : Nat) (w : World) :
    Calls Try.prog 51 #[.agg #[.slice A n c, .slice B m d], .int .u64 0] w (ItemA none w) := by
  obtain ⟨w1, hw1⟩ : ∃ w1, w1 = w.alloc (.cells #[.slice A n c, .slice B m d] 25) := ⟨_, rfl⟩
  obtain ⟨w2, hw2⟩ : ∃ w2, w2 = w1.alloc (.cells #[.int .i64 0, .int .i64 0] 40) := ⟨_, rfl⟩
  obtain ⟨B1, hx1, hs1⟩ := box_made hw1
  obtain ⟨B2, hx2, hs2⟩ := box_made hw2
  rw [hs1] at B2
  have H1 := Lib.hid hw1
  have H2 := Lib.hid hw2
  have HB2 := Lib.hid B2
  have X2 := Lib.hid (hx1.step hx2)
  clear hw1 hw2 B1 B2 hx1 hx2 hs1 hs2
  go_enter Try.func51, Try.ntmps51
  go_wp2_with fail
  rw [← H1.out, ← H2.out]
  exact bodyPost_ret (results_it2 rfl _ _ (w.heap.size + 1) #[.int .i64 0, .int .i64 0] (by rfl) HB2.out rfl) rfl ⟨rfl, X2.out⟩

set_option maxHeartbeats 1000000 in
theorem itemOf_some (A B : Option Addr) (n c m d : Nat) (ns : List Nd) (z : Int) (a : Int × Int) (w : World) (hz : z ≠ 0) (hU : U z) (hk : (nodeF ns z).n = a.1) (hv : (nodeF ns z).v = a.2) (h : Rd w 16 A n (flat Nd.cells ns)) :
    Calls Try.prog 51 #[.agg #[.slice A n c, .slice B m d], .int .u64 z] w (ItemA (some a) w) := by
  obtain ⟨w1, hw1⟩ : ∃ w1, w1 = w.alloc (.cells #[.slice A n c, .slice B m d] 25) := ⟨_, rfl⟩
  obtain ⟨w2, hw2⟩ : ∃ w2, w2 = w1.alloc (.cells #[.int .i64 0, .int .i64 0] 40) := ⟨_, rfl⟩
  obtain ⟨B1, hx1, hs1⟩ := box_made hw1
  obtain ⟨B2, hx2, hs2⟩ := box_made hw2
  rw [hs1] at B2
  have HN := Lib.hid (orNode_is A B n c m d ns z w2 hU.1 hU.2 (h.to (hx1.step hx2)))
  have k0 : w2.cell? ⟨w.heap.size, 0, none⟩ = some (.slice A n c) := (B1.to hx2).cell 0
  have k1 : w2.cell? ⟨w.heap.size, 1, none⟩ = some (.slice B m d) := (B1.to hx2).cell 1
  have H1 := Lib.hid hw1
  have H2 := Lib.hid hw2
  have HB2 := Lib.hid B2
  have X2 := Lib.hid (hx1.step hx2)
  have hz0 : (z == 0) = false := by simp [hz]
  obtain ⟨x, hx⟩ : ∃ x, x = nodeF ns z := ⟨_, rfl⟩
  rw [← hx] at HN hk hv
  obtain ⟨a1, a2⟩ := a
  simp only at hk hv
  have HK := Lib.hid hk
  have HV := Lib.hid hv
  clear hw1 hw2 B1 B2 hx1 hx2 hs1 hs2 h hk hv hx hz
  go_enter Try.func51, Try.ntmps51
  go_wp2_with fail
  rw [← H1.out, ← H2.out]
  go_wp2_with fail
  refine HN.out.mono ?_; rintro e w3 ⟨rfl, hx3⟩
  obtain ⟨w4, hw4⟩ : ∃ w4, w4 = w3.alloc (.cells x.arr 66) := ⟨_, rfl⟩
  obtain ⟨B4, hx4, hs4⟩ := box_made hw4
  have H4 := Lib.hid hw4
  have b4 := HB2.out.to (hx3.step hx4)
  have X4 := Lib.hid (X2.out.step (hx3.step hx4))
  have c2 : w4.cell? ⟨w3.heap.size, 2, none⟩ = some (.int .i64 a1) := by rw [← HK.out]; exact (B4.cell 2).trans x.a2
  have c3 : w4.cell? ⟨w3.heap.size, 3, none⟩ = some (.int .i64 a2) := by rw [← HV.out]; exact (B4.cell 3).trans x.a3
  have f0 := b4.free 0
  have f1 := b4.free 1
  have g0 := b4.cell 0
  have g1 := b4.cell 1
  simp only [List.getElem?_toArray, List.getElem?_cons_zero, List.getElem?_cons_succ] at g0 g1
  have HB4 := Lib.hid b4
  clear hw4 hs4 hx3 hx4 B4 k0 k1 b4
  go_wp2_with (first
    | (refine wpList_store_nd (W := w3) (by rfl) _ _ (by rfl) (by rfl) x (by rfl) _ (by rfl) (by rfl) ?_; rw [← H4.out]))
  exact bodyPost_ret (results_it2 rfl _ _ (w.heap.size + 1) #[.int .i64 a1, .int .i64 a2] (by rfl) (HB4.out.two _ _) rfl) rfl ⟨rfl, (Only.two _ _ _ _).new X4.out (by omega)⟩

end Go.Proofs.Ythgaogbpkedjcaa

/-
  Contract of package span's nodeOf; the rows between two keys.
-/
set_option linter.unusedVariables false
set_option linter.unusedSimpArgs false
namespace Go.Proofs.Ythgaogbpkedjcaa
open Go.RowKit

set_option maxHeartbeats 1000000 in
theorem spNode_is (A B : Option Addr) (n c m d : Nat) (ns : List Nd) (r : Int) (w : World) (h0 : 0 ≤ r) (h1 : r ≤ 18446744073709551615) (h : Rd w 16 A n (flat Nd.cells ns)) :
    Calls Try.prog 67 #[.agg #[.slice A n c, .slice B m d], .int .u64 r] w fun e w' => e = .returned (.agg (nodeF ns r).arr) ∧ Ext w w' := by
  obtain ⟨w1, hw1⟩ : ∃ w1, w1 = w.alloc (.cells #[.slice A n c, .slice B m d] 25) := ⟨_, rfl⟩
  obtain ⟨w2, hw2⟩ : ∃ w2, w2 = w1.alloc (.cells #[.int .i64 0, .int .i64 0, .int .i64 0, .int .i64 0, .int .i64 0, .int .u64 0, .int .u64 0, .int .u64 0, .int .u64 0, .int .u64 0, .int .u64 0, .int .u64 0, .int .u64 0, .int .u64 0, .int .i64 0, .int .i64 0] 66) := ⟨_, rfl⟩
  obtain ⟨B1, hx1, hs1⟩ := box_made hw1
  obtain ⟨B2, hx2, hs2⟩ := box_made hw2
  rw [hs1] at B2
  obtain ⟨k, hget⟩ := get_any A B n c m d ns r w2 h0 h1 (h.to (hx1.step hx2))
  generalize nodeF ns r = x at hget ⊢
  have HG := Lib.hid hget
  have k0 : w2.cell? ⟨w.heap.size, 0, none⟩ = some (.slice A n c) := (B1.to hx2).cell 0
  have k1 : w2.cell? ⟨w.heap.size, 1, none⟩ = some (.slice B m d) := (B1.to hx2).cell 1
  have H1 := Lib.hid hw1
  have H2 := Lib.hid hw2
  have X2 := Lib.hid (hx1.step hx2)
  have HB := Lib.hid B2
  clear hw1 hw2 B1 B2 hx1 hx2 hs1 hs2 h hget
  go_enter Try.func67, Try.ntmps67
  go_wp2_with fail
  rw [← H1.out, ← H2.out]
  go_wp2_with fail
  refine HG.out.mono ?_; rintro e w3 ⟨rfl, hx3⟩
  obtain ⟨w4, hw4⟩ : ∃ w4, w4 = w3.alloc (.cells x.arr 66) := ⟨_, rfl⟩
  obtain ⟨B4, hx4, hs4⟩ := box_made hw4
  have H4 := Lib.hid hw4
  have n4 := B4.node
  have b4 := HB.out.to (hx3.step hx4)
  have X4 := Lib.hid (X2.out.step (hx3.step hx4))
  clear hw4 hs4 hx3 hx4 B4 k0 k1
  go_wp2_with (first
    | (refine wpList_store_nd (W := w3) (by rfl) _ _ (by rfl) (by rfl) x (by rfl) _ (by rfl) (by rfl) ?_; rw [← H4.out])
    | (refine wpList_load_nd (by rfl) _ (by rfl) _ (by rfl) x n4 ?_)
    | (refine wpList_store_box (by rfl) _ _ (by rfl) _ (by rfl) x (by rfl) _ b4 rfl ?_; intro wz hbz hoz))
  refine bodyPost_ret (results_nd1 rfl _ _ ⟨w.heap.size + 1, 0, none⟩ x (by rfl) hbz.node) rfl ⟨rfl, ?_⟩
  exact hoz.new X4.out (by omega)

/-- The part of a row whose keys are not below one, nor above another one. -/
def inn (l : Row) (a b : Int) : Row := l.filter (fun x => decide (a ≤ x.1) && decide (x.1 ≤ b))
theorem inn_app (l u : Row) (a b : Int) : inn (l ++ u) a b = inn l a b ++ inn u a b := by simp [inn]
theorem inn_cons (k v : Int) (u : Row) (a b : Int) : inn ((k, v) :: u) a b = (if a ≤ k ∧ k ≤ b then [(k, v)] else []) ++ inn u a b := by
  unfold inn
  rw [List.filter_cons]
  by_cases h : a ≤ k ∧ k ≤ b
  · simp [h.1, h.2]
  · rw [if_neg h, if_neg (by simpa using h)]; rfl
theorem inn_low {l : Row} {a b : Int} (h : ∀ x ∈ l, x.1 < a) : inn l a b = [] := by
  unfold inn
  rw [List.filter_eq_nil_iff]
  intro x hx
  have := h x hx
  simp only [Bool.and_eq_true, decide_eq_true_eq, not_and]
  omega
theorem inn_high {l : Row} {a b : Int} (h : ∀ x ∈ l, b < x.1) : inn l a b = [] := by
  unfold inn
  rw [List.filter_eq_nil_iff]
  intro x hx
  have := h x hx
  simp only [Bool.and_eq_true, decide_eq_true_eq, not_and]
  omega
theorem inn_all {l : Row} {a b : Int} (h : ∀ x ∈ l, a ≤ x.1 ∧ x.1 ≤ b) : inn l a b = l := by
  unfold inn
  rw [List.filter_eq_self]
  intro x hx
  have := h x hx
  simp [this.1, this.2]
theorem inn_len (l : Row) (a b : Int) : (inn l a b).length ≤ l.length := List.length_filter_le _ _

end Go.Proofs.Ythgaogbpkedjcaa
