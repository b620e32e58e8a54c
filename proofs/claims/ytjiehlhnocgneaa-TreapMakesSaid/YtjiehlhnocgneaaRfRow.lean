/-
  Contract: what is met from a reference on, as the document tells it (Row).
-/
import Derived.Test.YtjiehlhnocgneaaRowX
import Derived.Test.YtjiehlhnocgneaaGB
import Derived.Test.YtjiehlhnocgneaaTrRight
set_option linter.unusedVariables false
set_option linter.unusedSimpArgs false
namespace Go.Proofs.Ytjiehlhnocgneaa
open Go.RowKit

def itc (x : Int × Int) : List Value := [.int .i64 x.1, .int .i64 x.2]
theorem itc_length (x : Int × Int) : (itc x).length = 2 := rfl
theorem itc_one (x : Int × Int) : ∀ u ∈ itc x, u.oneCell' = true := by
  intro u hu
  simp [itc] at hu
  rcases hu with rfl | rfl <;> rfl
theorem item_info : (Try.prog.info? 60).map (fun i => (i.zero, i.size, i.bytes)) = some (some (.agg #[.int .i64 0, .int .i64 0]), 2, 16) := by kernel_rfl
/-- In w a slice shows a row. -/
abbrev RdI (w : World) (A : Option Addr) (n : Nat) (l : Row) : Prop := Rd w 2 A n (flat itc l)
theorem RdI.len {w : World} {A : Option Addr} {n : Nat} {l : Row} (h : RdI w A n l) : l.length = n := by
  have := h.1
  rw [flat_length itc_length] at this
  omega

def RowA (l : Row) (w : World) (e : Ending) (w' : World) : Prop :=
  ∃ A c, e = .returned (.slice A l.length c) ∧ RdI w' A l.length l ∧ l.length ≤ c ∧ c ≤ maxLen ∧ Ext w w'

set_option maxHeartbeats 3200000 in
set_option maxRecDepth 100000 in
theorem row_is (A B : Option Addr) (n c m' d : Nat) (ns : List Nd) (hok : ∀ x ∈ ns, x.Ok) : ∀ (m : Nat) (r : Int) (w : World), m ≤ 1000 → U r → Rd w 16 A n (flat Nd.cells ns) →
    Calls Try.prog 14 #[.agg #[.slice A n c, .slice B m' d], .int .u64 r, .int .i64 m] w (RowA (rowF ns m r) w) := by
  intro m
  induction m using Nat.strongRecOn with
  | _ m ih =>
    intro r w hm hU h
    obtain ⟨w1, hw1⟩ : ∃ w1, w1 = w.alloc (.cells #[.slice A n c, .slice B m' d] 25) := ⟨_, rfl⟩
    obtain ⟨w2, hw2⟩ : ∃ w2, w2 = w1.alloc (.cells #[] 60) := ⟨_, rfl⟩
    obtain ⟨B1, hx1, hs1⟩ := box_made hw1
    obtain ⟨B2, hx2, hs2⟩ := box_made hw2
    have HB1 := Lib.hid (B1.to hx2)
    have H1 := Lib.hid hw1
    have H2 := Lib.hid hw2
    have X2 := Lib.hid (hx1.step hx2)
    have HA := Lib.hid (h.to X2.out)
    have k0 : w2.cell? ⟨w.heap.size, 0, none⟩ = some (.slice A n c) := (B1.to hx2).cell 0
    have k1 : w2.cell? ⟨w.heap.size, 1, none⟩ = some (.slice B m' d) := (B1.to hx2).cell 1
    have HS1 := Lib.hid hs1
    have HS2 := Lib.hid hs2
    have HIH := Lib.hid ih
    have hl : ns.length = n := by
      have := h.1
      rw [flat_length Nd.cells_length] at this
      omega
    have HL := Lib.hid hl
    have HOK := Lib.hid hok
    have HROW := Lib.hid (RowX.nil w2 w.heap.size [w.heap.size] 60 2 ⟨w.heap.size + 1, 0, none⟩)
    rcases got_or ns r with ⟨p, x, hg⟩ | hg
    · have HAt := Lib.hid (at_yes A n c m' d B ns r p x w2 hU.1 hU.2 HA.out hg)
      cases m with
      | zero =>
        have HE := Lib.hid (show RowA (rowF ns 0 r) w = RowA [] w by rw [rowF_zero])
        have hp0 : ¬ ((p : Int) < 0) := by omega
        rw [HE.out]
        clear hw1 hw2 B1 B2 hx1 hx2 hs1 hs2 ih h hl hok hg
        go_enter Try.func14, Try.ntmps14
        go_wp2_with fail
        rw [← H1.out, ← H2.out]
        refine HAt.out.mono ?_; rintro e w3 ⟨rfl, hx3⟩
        go_wp2_with fail
        go_ret
        exact ⟨some ⟨w.heap.size + 1, 0, none⟩, 0, rfl, Rd.nil _ _ _, Nat.le_refl _, by unfold maxLen; omega, X2.out.step hx3⟩
      | succ m =>
        obtain ⟨l1, hl1⟩ : ∃ l, l = rowF ns m x.r0 := ⟨_, rfl⟩
        obtain ⟨l2, hl2⟩ : ∃ l, l = rowF ns (m - l1.length) x.r1 := ⟨_, rfl⟩
        have hlen1 : l1.length ≤ m := by rw [hl1]; exact rowF_len ns m x.r0
        have hlen2 : l2.length ≤ m - l1.length := by rw [hl2]; exact rowF_len ns _ x.r1
        have HE := Lib.hid (show RowA (rowF ns (m + 1) r) w = RowA (l1 ++ (x.n, x.v) :: l2) w by rw [rowF_got m hg, hl2, hl1])
        rw [HE.out]
        have hokx := hok x (List.mem_of_getElem? hg.at_)
        have hU0 : U x.r0 := hokx x.r0 (by simp [Nd.kids])
        have hU1 : U x.r1 := hokx x.r1 (by simp [Nd.kids])
        have HC1 := Lib.hid (fun W (hW : Ext w W) => ih m (by omega) x.r0 W (by omega) hU0 (h.to hW))
        rw [← hl1] at HC1
        have HC2 := Lib.hid (fun W (hW : Ext w W) => ih (m - l1.length) (by omega) x.r1 W (by omega) hU1 (h.to hW))
        rw [← hl2] at HC2
        obtain ⟨ad, rfl, hnd⟩ := NdAt.of h hg.at_
        have HND := Lib.hid hnd
        have hpn : p < n := by have := (List.getElem?_eq_some_iff.1 hg.at_).1; omega
        have hnp : ¬ n ≤ p := by omega
        have hp0 : ¬ ((p : Int) < 0) := by omega
        obtain ⟨i0, hi0, hz0, hz1, hz2⟩ := info_parts item_info
        have hm1000 : m + 1 ≤ 1000 := hm
        have HLen2 := Lib.hid hlen2
        clear hw1 hw2 B1 B2 hx1 hx2 hs1 hs2 ih h hl hok hg hl1 hl2 hokx hU0 hU1 hnd hlen2 hm
        go_enter Try.func14, Try.ntmps14
        go_wp2_with fail
        rw [← H1.out, ← H2.out]
        refine HAt.out.mono ?_; rintro e w3 ⟨rfl, hx3⟩
        have k0 : w3.cell? ⟨w.heap.size, 0, none⟩ = some (.slice (some ad) n c) := (HB1.out.to hx3).cell 0
        have k1 : w3.cell? ⟨w.heap.size, 1, none⟩ = some (.slice B m' d) := (HB1.out.to hx3).cell 1
        have hn3 := HND.out.to (X2.out.step hx3)
        obtain ⟨w4, hw4⟩ : ∃ w4, w4 = w3.alloc (.cells x.arr 76) := ⟨_, rfl⟩
        obtain ⟨B4, hx4, hs4⟩ := box_made hw4
        have H4 := Lib.hid hw4
        have HB4 := Lib.hid B4
        have HBA4 := Lib.hid (HB1.out.to (hx3.step hx4))
        have HROW4 := Lib.hid ((HROW.out.to hx3).add hx4 (Nat.le_refl _))
        have X4 := Lib.hid (X2.out.step (hx3.step hx4))
        have HLT := Lib.hid (show w.heap.size < w3.heap.size ∧ w4.heap.size = w3.heap.size + 1 from ⟨Nat.lt_of_lt_of_le HB1.out.lt hx3.size, hs4⟩)
        clear hw4 B4 hx4 hs4 hx3
        go_wp2_with (first
          | (refine wpList_load_nd (by rfl) _ (by rfl) _ (by rfl) x hn3 ?_)
          | (refine wpList_store_nd (W := w3) (by rfl) _ _ (by rfl) (by rfl) x (by rfl) _ (by rfl) (by rfl) ?_
             rw [← H4.out]
             have k0 : w4.cell? ⟨w.heap.size, 0, none⟩ = some (.slice (some ad) n c) := HBA4.out.cell 0
             have k1 : w4.cell? ⟨w.heap.size, 1, none⟩ = some (.slice B m' d) := HBA4.out.cell 1
             have c5 : w4.cell? ⟨w3.heap.size, 5, none⟩ = some (.int .u64 x.r0) := (HB4.out.cell 5).trans x.a5))
        refine (HC1.out _ X4.out).mono ?_
        rintro e w5 ⟨A1, c1, rfl, hr1, hc1, hc1m, hx5⟩
        obtain ⟨a, ha⟩ : ∃ a, a = l1.length := ⟨_, rfl⟩
        rw [← ha] at hr1 hc1 hlen1 HLen2 HC2 ⊢
        have HLa := Lib.hid ha
        have HR1 := Lib.hid hr1
        have HROW5 := Lib.hid (HROW4.out.to hx5)
        have HB5 := Lib.hid (HB4.out.to hx5)
        have HBA5 := Lib.hid (HBA4.out.to hx5)
        have X5 := Lib.hid (X4.out.step hx5)
        have hb5 := Lib.hid (show w.heap.size ≤ w5.heap.size from X5.out.size)
        have hex5 := Lib.hid (show ∀ b ∈ [w3.heap.size, w.heap.size], b < w5.heap.size by
          intro b hb
          have h1 := HB5.out.lt
          have h2 := HBA5.out.lt
          simp at hb
          rcases hb with rfl | rfl <;> assumption)
        have ha1000 : a ≤ 1000 := by omega
        obtain ⟨nn, hnn⟩ : ∃ nn, nn = x.n := ⟨_, rfl⟩
        obtain ⟨vv, hvv⟩ : ∃ vv, vv = x.v := ⟨_, rfl⟩
        have HNN := Lib.hid hnn
        have HVV := Lib.hid hvv
        clear hr1 hx5 ha hnn hvv hc1 hc1m
        go_wp2_with (first
          | (at_builtin
             refine wpList_append_x _ rfl (.tmp 26) (.tmp 33) _ rfl 60 i0 _ 2 16 Try.underlying31 hi0 hz0 hz1 hz2 rfl (by omega) w.heap.size [w3.heap.size, w.heap.size] _ 0 [] rfl HROW5.out A1 a c1 (flat itc l1) rfl HR1.out (flat_one itc_one _) (by simp only [maxLen]; omega) (by omega) hb5.out hex5.out ?_
             intro A6 c6 w6 hr6 ap6
             rw [Nat.zero_add] at hr6 ⊢
             have hB6 := ap6.keep _ _ (by simp) HB5.out
             have hBA6 := ap6.keep _ _ (by simp) HBA5.out
             have X6 := Lib.hid (ap6.old w X5.out (Nat.le_refl _))
             have n2 : w6.cell? ⟨w3.heap.size, 2, none⟩ = some (.int .i64 nn) := by rw [HNN.out]; exact (hB6.cell 2).trans x.a2
             have n3 : w6.cell? ⟨w3.heap.size, 3, none⟩ = some (.int .i64 vv) := by rw [HVV.out]; exact (hB6.cell 3).trans x.a3
             obtain ⟨w7, hw7⟩ : ∃ w7, w7 = w6.alloc (.cells #[.int .i64 nn, .int .i64 vv] 60) := ⟨_, rfl⟩
             obtain ⟨B7, hx7, hs7⟩ := box_made hw7
             have HR7 := Lib.hid (show RdI w7 (some ⟨w6.heap.size, 0, none⟩) 1 [(nn, vv)] by rw [hw7]; exact Rd.lit w6 #[.int .i64 nn, .int .i64 vv] 60 1 rfl)
             have HROW7 := Lib.hid (hr6.to hx7)
             have HB7 := Lib.hid (hB6.to hx7)
             have HBA7 := Lib.hid (hBA6.to hx7)
             have X7 := Lib.hid (X6.out.step hx7)
             have H7 := Lib.hid hw7
             have hb7 := Lib.hid (show w.heap.size ≤ w7.heap.size from X7.out.size)
             have hex7 := Lib.hid (show ∀ b ∈ [w3.heap.size, w.heap.size], b < w7.heap.size by
               intro b hb
               have h1 := HB7.out.lt
               have h2 := HBA7.out.lt
               simp at hb
               rcases hb with rfl | rfl <;> assumption)
             clear hr6 ap6 hB6 hBA6 hw7 B7 hx7 hs7)
          | (at_builtin
             rw [← H7.out]
             refine wpList_append_x _ rfl (.tmp 35) (.tmp 41) _ rfl 60 i0 _ 2 16 Try.underlying31 hi0 hz0 hz1 hz2 rfl (by omega) w.heap.size [w3.heap.size, w.heap.size] _ a ([] ++ flat itc l1) rfl HROW7.out (some ⟨w6.heap.size, 0, none⟩) 1 1 (flat itc [(nn, vv)]) rfl HR7.out (flat_one itc_one _) (by simp only [maxLen]; omega) (by omega) hb7.out hex7.out ?_
             intro A8 c8 w8 hr8 ap8
             have hB8 := ap8.keep _ _ (by simp) HB7.out
             have hBA8 := ap8.keep _ _ (by simp) HBA7.out
             have X8 := Lib.hid (ap8.old w X7.out (Nat.le_refl _))
             have HROW8 := Lib.hid hr8
             have HBA8 := Lib.hid hBA8
             have HB8 := Lib.hid hB8
             have c6 : w8.cell? ⟨w3.heap.size, 6, none⟩ = some (.int .u64 x.r1) := (hB8.cell 6).trans x.a6
             have k0 : w8.cell? ⟨w.heap.size, 0, none⟩ = some (.slice (some ad) n c) := hBA8.cell 0
             have k1 : w8.cell? ⟨w.heap.size, 1, none⟩ = some (.slice B m' d) := hBA8.cell 1
             clear hr8 ap8 hB8 hBA8))
        rw [show ((m : Int) + 1 - ((a : Int) + 1)) = ((m - a : Nat) : Int) by omega]
        clear c5 c6
        refine (HC2.out _ X8.out).mono ?_
        rintro e w9 ⟨A9, c9, rfl, hr9, hc9, hc9m, hx9⟩
        obtain ⟨b, hb⟩ : ∃ b, b = l2.length := ⟨_, rfl⟩
        rw [← hb] at hr9 hc9 ⊢
        have hbm : b ≤ 1000 := by have := HLen2.out; omega
        have HLb := Lib.hid hb
        have HR9 := Lib.hid hr9
        have HROW9 := Lib.hid (HROW8.out.to hx9)
        have X9 := Lib.hid (X8.out.step hx9)
        have hb9 := Lib.hid (show w.heap.size ≤ w9.heap.size from X9.out.size)
        have hex9 := Lib.hid (show ∀ b ∈ [w3.heap.size, w.heap.size], b < w9.heap.size by
          intro b hb
          have h1 := (HB8.out.to hx9).lt
          have h2 := (HBA8.out.to hx9).lt
          simp at hb
          rcases hb with rfl | rfl <;> assumption)
        clear hr9 hx9 hb hc9 hc9m k0 k1 n2 n3
        go_wp2_with (first
          | (at_builtin
             refine wpList_append_x _ rfl (.tmp 43) (.tmp 52) _ rfl 60 i0 _ 2 16 Try.underlying31 hi0 hz0 hz1 hz2 rfl (by omega) w.heap.size [w3.heap.size, w.heap.size] _ (a + 1) _ rfl HROW9.out A9 b c9 (flat itc l2) rfl HR9.out (flat_one itc_one _) (by simp only [maxLen]; omega) (by omega) hb9.out hex9.out ?_
             intro A10 c10 w10 hr10 ap10))
        have HF := Lib.hid (show RowA (l1 ++ (x.n, x.v) :: l2) w (.returned (.slice A10 (a + 1 + b : Nat) c10)) w10 by
          have hlen : (l1 ++ (x.n, x.v) :: l2).length = a + 1 + b := by rw [HLa.out, HLb.out]; simp; omega
          obtain ⟨A', c', e1, e2, e3⟩ := hr10.slice
          injection e1 with _ _ e1
          subst e1
          refine ⟨A10, c10, by rw [hlen], ?_, by rw [hlen]; exact e2, e3, ap10.old w X9.out (Nat.le_refl _)⟩
          have hr := hr10.rd
          rw [hlen]
          rw [List.nil_append, flat_append, flat_append, HNN.out, HVV.out] at hr
          simpa using hr)
        clear hr10 ap10
        go_ret
        exact HF.out
    · have HAt := Lib.hid (at_no A n c m' d B ns r w2 hU.1 hU.2 HA.out hg)
      have HE := Lib.hid (show RowA (rowF ns m r) w = RowA [] w by rw [rowF_gone m hg])
      rw [HE.out]
      clear hw1 hw2 B1 B2 hx1 hx2 hs1 hs2 ih h hl hok hg
      go_enter Try.func14, Try.ntmps14
      go_wp2_with fail
      rw [← H1.out, ← H2.out]
      refine HAt.out.mono ?_; rintro e w3 ⟨rfl, hx3⟩
      go_wp2_with fail
      go_ret
      exact ⟨some ⟨w.heap.size + 1, 0, none⟩, 0, rfl, Rd.nil _ _ _, Nat.le_refl _, by unfold maxLen; omega, X2.out.step hx3⟩

end Go.Proofs.Ytjiehlhnocgneaa
