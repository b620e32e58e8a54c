/-
  The walk of TreapTells.
-/
import Derived.Test.YtaibndajfmjfnaaTrAlive
import Derived.Test.YtaibndajfmjfnaaTrErr
import Derived.Test.YtaibndajfmjfnaaFew6
import Derived.Test.YtaibndajfmjfnaaRfRight
import Derived.Test.YtaibndajfmjfnaaArOpen
set_option linter.unusedVariables false
set_option linter.unusedSimpArgs false
namespace Go.Proofs.Ytaibndajfmjfnaa
open Go.RowKit

set_option maxHeartbeats 12800000 in
set_option maxRecDepth 100000 in
theorem tells6_walk (A B : Option Addr) (n m c d : Nat) (ns : List Nd) (fs : List Int) (r key : Int) (w : World) (h : Ar w A n B m ns fs) (hnc : n ≤ c) (hmd : m ≤ d) (hc : c ≤ maxLen) (hd : d ≤ maxLen) (hU : U r) :
    Calls Try.prog 3 #[.agg #[.slice A n c, .slice B m d], .int .u64 r, .int .i64 key] w fun e w' => e = .returned (.bool true) ∧ Ext w w' := by
  obtain ⟨w1, hw1⟩ : ∃ w1, w1 = w.alloc (.cells #[.slice A n c, .slice B m d] 25) := ⟨_, rfl⟩
  obtain ⟨B1, hx1, hs1⟩ := box_made hw1
  have hAn : A = none → n = 0 := fun e => by
    rcases Nat.eq_zero_or_pos n with h' | h'
    · exact h'
    · obtain ⟨ad, ha⟩ := h.nodes.some_ h' (by omega)
      rw [e] at ha; cases ha
  have hBn : B = none → m = 0 := fun e => by
    rcases Nat.eq_zero_or_pos m with h' | h'
    · exact h'
    · obtain ⟨ad, ha⟩ := h.free.some_ h' (by omega)
      rw [e] at ha; cases ha
  have HF := Lib.hid (few6_is A B n m c d w1 hAn hBn hnc hmd hc hd)
  have k0 : w1.cell? ⟨w.heap.size, 0, none⟩ = some (.slice A n c) := B1.cell 0
  have k1 : w1.cell? ⟨w.heap.size, 1, none⟩ = some (.slice B m d) := B1.cell 1
  have HB1 := Lib.hid B1
  have H1 := Lib.hid hw1
  have X1 := Lib.hid hx1
  have HA := Lib.hid h.few6
  have hn60 : min n 60 ≤ 60 := by omega
  have hm62 : min m 62 ≤ 62 := by omega
  generalize ns.take 60 = ns' at HA
  generalize fs.take 62 = fs' at HA
  generalize min n 60 = n' at HF HA hn60
  generalize min m 62 = m' at HF HA hm62
  clear hw1 B1 hx1 hs1 hAn hBn h hnc hmd hc hd
  go_enter Try.func3, Try.ntmps3
  go_wp2_with fail
  rw [← H1.out]
  go_wp2_with fail
  refine HF.out.mono ?_; rintro e w2 ⟨rfl, hx2⟩
  have b2 := HB1.out.to hx2
  have X2 := Lib.hid (X1.out.step hx2)
  clear hx2 k0 k1
  go_wp2_with (first
    | (refine wpList_store_ar (by rfl) (.tmp 3) (.tmp 26) (by rfl) w.heap.size (by rfl) (.slice A n' c) (.slice B m' d) (by rfl) rfl rfl _ b2 (by simp) ?_
       intro w3 B3 O3
       have X3 := Lib.hid (O3.new X2.out (Nat.le_refl _))
       have HB3 := Lib.hid B3
       have k0 : w3.cell? ⟨w.heap.size, 0, none⟩ = some (.slice A n' c) := B3.cell 0
       have k1 : w3.cell? ⟨w.heap.size, 1, none⟩ = some (.slice B m' d) := B3.cell 1
       clear B3 O3))
  have HA3 := Lib.hid (fun W (hW : Ext w3 W) => HA.out.to (X3.out.step hW))
  have S := Lib.hid (fun W (hW : Ext w3 W) => show W.cell? ⟨w.heap.size, 0, none⟩ = some (.slice A n' c) ∧ W.cell? ⟨w.heap.size, 1, none⟩ = some (.slice B m' d) from ⟨(HB3.out.to hW).cell 0, (HB3.out.to hW).cell 1⟩)
  have hn1 : n' ≤ 1000 := by omega
  have hm1 : m' ≤ 1000 := by omega
  have HAl := Lib.hid (fun W => alive6_is W)
  clear b2
  by_cases hq : ArMay ns' fs' ∧ MapAt ns' r
  · obtain ⟨hmay, t, hM, hr⟩ := hq
    subst hr
    have HG := Lib.hid (trGet_is A B n' m' c d ns' fs' t key w3 (HA3.out _ (Ext.refl _)) hn1 hm1 hU hmay hM)
    have HR1 := Lib.hid (fun W (hW : Ext w3 W) => trRight_is A B n' m' c d ns' fs' t.ref W (HA3.out W hW) hn1 hm1 hU true (by simp only [true_iff]; exact ⟨hmay, t, hM, rfl⟩))
    have HR2 := Lib.hid (fun W (hW : Ext w3 W) => rfRight_is A B n' m' c d ns' fs' t.ref W (HA3.out W hW) hn1 hm1 hU true (by simp only [true_iff]; exact ⟨hmay, t, hM, rfl⟩))
    have HRow := Lib.hid (fun W (hW : Ext w3 W) => row_is A B n' c m' d ns' (HA3.out W hW).ok 201 t.ref W (by omega) hU (HA3.out W hW).nodes)
    rw [rowF_rep hM.rep (by have := hM.le; omega)] at HRow
    have HSrt := Lib.hid hM.srt
    have hlen : t.row.length ≤ 200 := by rw [T.row_length]; exact hM.le
    have HGN := Lib.hid (fun (h : ¬ HasK t.row key) => getT_none hM.srt h)
    have HGY := Lib.hid (fun v (h : (key, v) ∈ t.row) => getT_row hM.srt h)
    clear hM hmay
    generalize t.ref = r at *
    generalize t.row = l at *
    obtain ⟨gv, hgv⟩ : ∃ gv, gv = (getT t key).1 := ⟨_, rfl⟩
    obtain ⟨ge, hge⟩ : ∃ ge, ge = (getT t key).2 := ⟨_, rfl⟩
    rw [← hgv, ← hge] at HG
    have HGV := Lib.hid hgv
    have HGE := Lib.hid hge
    clear hgv hge
    refine HG.out.mono ?_; rintro e w4 ⟨rfl, hx4⟩
    have X4 := Lib.hid hx4
    clear hx4
    go_wp2_with fail
    have s0 := fun q : Later w4 => (S.out q.w (X4.out.step q.ext)).1
    have s1 := fun q : Later w4 => (S.out q.w (X4.out.step q.ext)).2
    refine wp_region_later w4 (Ext.refl _) (by kernel_rfl) (by kernel_rfl) ?_
    repeat (go_big_quiet_step (first
      | (go_at_call 11; exact later_call (fun W hW => HR1.out W (X4.out.step hW)))
      | (go_at_call 12; exact later_call (fun W hW => HR2.out W (X4.out.step hW)))
      | (go_at_call 13; exact later_call (fun W hW => HAl.out W))))
    refine wpQuiet_nil ?_
    rintro _ ⟨q, rfl⟩
    clear s0 s1
    have X5 := Lib.hid (X4.out.step q.ext)
    obtain ⟨k0, k1⟩ := S.out q.w X5.out
    go_wp2_with fail
    refine (HR2.out _ X5.out).mono ?_; rintro e w6 ⟨rfl, hx6⟩
    have X6 := Lib.hid (X5.out.step hx6)
    obtain ⟨k0, k1⟩ := S.out w6 X6.out
    clear hx6
    go_wp2_with fail
    rw [show ((201 : Nat) : Int) = 201 from rfl] at HRow
    refine (HRow.out _ X6.out).mono ?_; rintro e w7 ⟨L, cL, rfl, hrl, hcl, hclm, hx7⟩
    obtain ⟨j, hj⟩ : ∃ j, j = l.length := ⟨_, rfl⟩
    rw [← hj] at hrl hcl hlen ⊢
    have HAt := Lib.hid (rfAt_is L j cL l key w7 hrl (by omega))
    have HRL := Lib.hid hrl
    have X7 := Lib.hid (X6.out.step hx7)
    clear hrl hcl hclm hx7 hj k0 k1
    go_wp2_with fail
    refine HAt.out.mono ?_
    rintro e w8 ⟨⟨hno, rfl⟩ | ⟨i, v, hi, rfl⟩, hx8⟩
    · have e1 : gv = 0 := by rw [HGV.out, HGN.out hno]
      have e2 : ge = 3 := by rw [HGE.out, HGN.out hno]
      subst e1 e2
      clear hno
      go_wp2_with fail
      go_ret
      exact ⟨rfl, X3.out.step (X7.out.step hx8)⟩
    · have hmem := List.mem_of_getElem? hi
      have e1 : gv = v := by rw [HGV.out, HGY.out v hmem]
      have e2 : ge = 0 := by rw [HGE.out, HGY.out v hmem]
      subst e1 e2
      obtain ⟨adL, rfl, hit⟩ := HRL.out.item hi
      have c1 := (hit.to hx8).2
      have hij : i < j := by
        have := (List.getElem?_eq_some_iff.1 hi).1
        rw [HRL.out.len] at this
        exact this
      have hji : ¬ j ≤ i := by omega
      simp only at c1
      have HX8 := Lib.hid hx8
      clear hmem hi hit hx8
      go_wp2_with fail
      go_ret
      exact ⟨rfl, X3.out.step (X7.out.step HX8.out)⟩
  · have HG := Lib.hid (trGet_arg A B n' m' c d ns' fs' r key w3 (HA3.out _ (Ext.refl _)) hn1 hm1 hU hq)
    have HR1 := Lib.hid (fun W (hW : Ext w3 W) => trRight_is A B n' m' c d ns' fs' r W (HA3.out W hW) hn1 hm1 hU false (by simp [hq]))
    have HR2 := Lib.hid (fun W (hW : Ext w3 W) => rfRight_is A B n' m' c d ns' fs' r W (HA3.out W hW) hn1 hm1 hU false (by simp [hq]))
    have HP := Lib.hid (fun W (hW : Ext w3 W) => trPut_arg A B n' m' c d ns' fs' r key 1 W (HA3.out W hW) hn1 hm1 hU hq)
    have HD := Lib.hid (fun W (hW : Ext w3 W) => trDel_arg A B n' m' c d ns' fs' r key W (HA3.out W hW) hn1 hm1 hU hq)
    have HS := Lib.hid (fun W (hW : Ext w3 W) => trSplit_arg A B n' m' c d ns' fs' r key W (HA3.out W hW) hn1 hm1 hU hq)
    have HJ := Lib.hid (fun W (hW : Ext w3 W) => trJoin_arg A B n' m' c d ns' fs' r 0 W (HA3.out W hW) hn1 hm1 hU hq)
    unfold ErrA at HP HD HJ
    unfold ErrS at HS
    clear hq
    refine HG.out.mono ?_; rintro e w4 ⟨rfl, hx4⟩
    have X4 := Lib.hid hx4
    clear hx4
    go_wp2_with fail
    have s0 := fun q : Later w4 => (S.out q.w (X4.out.step q.ext)).1
    have s1 := fun q : Later w4 => (S.out q.w (X4.out.step q.ext)).2
    refine wp_region_later w4 (Ext.refl _) (by kernel_rfl) (by kernel_rfl) ?_
    repeat (go_big_quiet_step (first
      | (go_at_call 11; exact later_call (fun W hW => HR1.out W (X4.out.step hW)))
      | (go_at_call 12; exact later_call (fun W hW => HR2.out W (X4.out.step hW)))
      | (go_at_call 13; exact later_call (fun W hW => HAl.out W))))
    refine wpQuiet_nil ?_
    rintro _ ⟨q, rfl⟩
    clear s0 s1
    have X5 := Lib.hid (X4.out.step q.ext)
    obtain ⟨k0, k1⟩ := S.out q.w X5.out
    go_wp2_with fail
    refine (HR2.out _ X5.out).mono ?_; rintro e w6 ⟨rfl, hx⟩
    have X6 := Lib.hid (Ext.step X5.out hx)
    obtain ⟨k0, k1⟩ := S.out w6 X6.out
    have hlt : w.heap.size < w6.heap.size := by have := HB3.out.lt; have := X6.out.size; omega
    clear hx
    go_wp2_with fail
    refine (HP.out _ X6.out).mono ?_; rintro e w7 ⟨rfl, hx⟩
    have X7 := Lib.hid (Ext.step X6.out hx)
    obtain ⟨k0, k1⟩ := S.out w7 X7.out
    have hlt : w.heap.size < w7.heap.size := by have := HB3.out.lt; have := X7.out.size; omega
    clear hx
    go_wp2_with fail
    refine (HD.out _ (X7.out.new _)).mono ?_; rintro e w8 ⟨rfl, hx⟩
    have X8 := Lib.hid (Ext.step (X7.out.new _) hx)
    obtain ⟨k0, k1⟩ := S.out w8 X8.out
    have hlt : w.heap.size < w8.heap.size := by have := HB3.out.lt; have := X8.out.size; omega
    clear hx
    go_wp2_with fail
    refine (HS.out _ (X8.out.new _)).mono ?_; rintro e w9 ⟨rfl, hx⟩
    have X9 := Lib.hid (Ext.step (X8.out.new _) hx)
    obtain ⟨k0, k1⟩ := S.out w9 X9.out
    have hlt : w.heap.size < w9.heap.size := by have := HB3.out.lt; have := X9.out.size; omega
    clear hx
    go_wp2_with fail
    refine (HJ.out _ (X9.out.new _)).mono ?_; rintro e w10 ⟨rfl, hx⟩
    have X10 := Lib.hid (Ext.step (X9.out.new _) hx)
    clear hx
    go_wp2_with fail
    go_ret
    exact ⟨rfl, X3.out.step (X10.out.new _)⟩

theorem TreapTells_walk (w : World) (A B : Option Addr) (n m c d : Nat) (ns : List Nd) (fs : List Int) (h : Ar w A n B m ns fs) (hn : n ≤ c) (hm : m ≤ d) (hc : c ≤ maxLen) (hd : d ≤ maxLen) (_ : ∀ z ∈ fs, (Lit.int .i64 z).wf = true) (r : Int) (wr : (Lit.int .u64 r).wf = true) (key : Int) (_ : (Lit.int .i64 key).wf = true) :
    Calls Try.prog 3 #[.agg #[.slice A n c, .slice B m d], .int .u64 r, .int .i64 key] w fun e w' => e = .returned (.bool true) ∧ Ext w w' :=
  tells6_walk A B n m c d ns fs r key w h hn hm hc hd (u64_bounds wr)

end Go.Proofs.Ytaibndajfmjfnaa
