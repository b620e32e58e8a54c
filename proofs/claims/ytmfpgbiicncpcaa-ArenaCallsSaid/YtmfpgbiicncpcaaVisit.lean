/-
  Contract: the document's Reach: what is met from a reference on.
-/
import Derived.Test.YtmfpgbiicncpcaaDfs
import Derived.Test.YtmfpgbiicncpcaaGather
import Derived.Test.YtmfpgbiicncpcaaWell
set_option linter.unusedVariables false
set_option linter.unusedSimpArgs false
namespace Go.Proofs.Ytmfpgbiicncpcaa
open Go.RowKit

def Visited (W : World) (base : Nat) (o : Option Nat) (met' : List Int) (e : Ending) (W' : World) : Prop :=
  ∃ P q, e = .returned (.slice P met'.length q) ∧ W'.ownsRow base 3 1 (.slice P met'.length q) met'.length (Ks .i64 met') ∧ W.grownBy W' o ∧ Grew W o (Value.slice P met'.length q).ownBlock
theorem grown_ext {W W' : World} (h : Ext W W') (o : Option Nat) : W.grownBy W' o := ⟨h.os, h.tape, h.output, h.size, fun k hk _ => h.block k hk⟩
theorem grown_trans {W W1 W2 : World} {o o1 : Option Nat} (h1 : W.grownBy W1 o) (g1 : Grew W o o1) (h2 : W1.grownBy W2 o1) : W.grownBy W2 o :=
  ⟨h2.os.trans h1.os, h2.tape.trans h1.tape, h2.output.trans h1.output, Nat.le_trans h1.size h2.size, fun k hk hn => (h2.block k (Nat.lt_of_lt_of_le hk h1.size) (fun e => by
    rcases g1 with g1 | g1
    · rw [g1] at e; exact hn e
    · have := g1 k e.symm; omega)).trans (h1.block k hk hn)⟩
theorem grown_old {w0 W W' : World} {o : Option Nat} (hx : Ext w0 W) (hg : W.grownBy W' o) (ho : ∀ k, o = some k → w0.heap.size ≤ k) : Ext w0 W' :=
  Below.grown hx hg hx.size ho
theorem NdAt.kids {W : World} {a : Addr} {x : Nd} (h : NdAt W a x) : Rd W 1 (some (a.add 5)) 9 (Us x.kids) := by
  refine ⟨rfl, fun j u hu => ⟨_, rfl, ?_⟩⟩
  have hj : j < 9 := (List.getElem?_eq_some_iff.1 hu).1
  rw [addr_add]
  refine h (5 + j) u ?_
  have : x.cells[5 + j]? = (Us x.kids)[j]? := by
    rcases (by omega : j = 0 ∨ j = 1 ∨ j = 2 ∨ j = 3 ∨ j = 4 ∨ j = 5 ∨ j = 6 ∨ j = 7 ∨ j = 8) with rfl | rfl | rfl | rfl | rfl | rfl | rfl | rfl | rfl <;> rfl
  rw [this, hu]
theorem cnt_pos {zs : List Int} {x : Int} : 0 < cnt zs x ↔ x ∈ zs := List.count_pos_iff

set_option maxHeartbeats 3200000 in
theorem visit_ref (w0 : World) (A B : Option Addr) (n m c dd : Nat) (ns : List Nd) (hA : Rd w0 16 A n (flat Nd.cells ns)) (hok : ∀ x ∈ ns, x.Ok) (hn : n ≤ 1000) (d : Nat) :
    ∀ (W : World) (P : Option Addr) (q : Nat) (met : List Int) (r : Int), Ext w0 W → W.ownsRow w0.heap.size 3 1 (.slice P met.length q) met.length (Ks .i64 met) → Met ns met → n < d + met.length → 0 ≤ r → r ≤ 18446744073709551615 →
      Calls Try.prog 18 #[.agg #[.slice A n c, .slice B m dd], .slice P met.length q, .int .u64 r] W (Visited W w0.heap.size (Value.slice P met.length q).ownBlock (visit ns d met r)) := by
  have hnl : ns.length = n := by
    have := hA.1
    rw [flat_length Nd.cells_length] at this
    omega
  have HNL := Lib.hid hnl
  have HA := Lib.hid hA
  have HOK := Lib.hid hok
  clear hnl hA hok
  induction d with
  | zero =>
    intro W P q met r hx hown hM hlt
    have := hM.len
    have := HNL.out
    omega
  | succ d ih =>
    intro W P q met r hx hown hM hlt h0 h1
    have IH := Lib.hid ih
    have HX := Lib.hid hx
    have HOw := Lib.hid hown
    have HM := Lib.hid hM
    have HLT := Lib.hid hlt
    have hmk40 : met.length ≤ 1000 := by have := hM.len; have := HNL.out; omega
    obtain ⟨o, ho⟩ : ∃ o, o = (Value.slice P met.length q).ownBlock := ⟨_, rfl⟩
    rw [← ho]
    have HO := Lib.hid ho
    obtain ⟨w1, hw1⟩ : ∃ w1, w1 = W.alloc (.cells #[.slice A n c, .slice B m dd] 25) := ⟨_, rfl⟩
    obtain ⟨B1, hx1, hs1⟩ := box_made hw1
    have k0 : w1.cell? ⟨W.heap.size, 0, none⟩ = some (.slice A n c) := B1.cell 0
    have k1 : w1.cell? ⟨W.heap.size, 1, none⟩ = some (.slice B m dd) := B1.cell 1
    have H1 := Lib.hid hw1
    have HB1 := Lib.hid B1
    have HX1 := Lib.hid hx1
    have HXX := Lib.hid (hx.step hx1)
    clear hw1 B1 hx1 hs1 ih hx hown hM hlt ho
    cases hgo : gotF ns r with
    | none =>
      have HAt := Lib.hid (at_no A n c m dd B ns r w1 h0 h1 (HA.out.to HXX.out) (gotF_none.1 hgo))
      have HE := Lib.hid (visit_gone d met hgo)
      clear hgo
      go_enter Try.func18, Try.ntmps18
      go_wp2_with fail
      rw [← H1.out]
      refine HAt.out.mono ?_; rintro e w2 ⟨rfl, hx2⟩
      go_wp2_with fail
      go_ret
      rw [HE.out]
      exact ⟨P, q, rfl, own_ext HOw.out (HX1.out.step hx2), grown_ext (HX1.out.step hx2) _, .inl HO.out.symm⟩
    | some px =>
      obtain ⟨p, x⟩ := px
      have hg := gotF_some.1 hgo
      have hpn : p < n := by have := (List.getElem?_eq_some_iff.1 hg.at_).1; have := HNL.out; omega
      have HAt := Lib.hid (at_yes A n c m dd B ns r p x w1 h0 h1 (HA.out.to HXX.out) hg)
      obtain ⟨K, hK⟩ : ∃ K, K = cnt met p := ⟨_, rfl⟩
      have HHas := Lib.hid (fun W (hW : Ext w1 W) => has_is P met.length q met p W hmk40 (Rd.own (own_ext HOw.out (HX1.out.step hW))))
      rw [← hK] at HHas
      have HGO := Lib.hid hgo
      have HG := Lib.hid hg
      by_cases hm : (p : Int) ∈ met
      · have hK0 : 0 < K := by rw [hK]; exact cnt_pos.2 hm
        have HE := Lib.hid (visit_met d met hgo hm)
        clear hgo hm hK hg
        go_enter Try.func18, Try.ntmps18
        go_wp2_with fail
        rw [← H1.out]
        refine HAt.out.mono ?_; rintro e w2 ⟨rfl, hx2⟩
        go_wp2_with fail
        refine (HHas.out _ hx2).mono ?_; rintro e w3 ⟨rfl, rfl⟩
        go_wp2_with fail
        go_ret
        rw [HE.out]
        exact ⟨P, q, rfl, own_ext HOw.out (HX1.out.step hx2), grown_ext (HX1.out.step hx2) _, .inl HO.out.symm⟩
      · obtain rfl : K = 0 := by
          rcases Nat.eq_zero_or_pos K with e | e
          · exact e
          · rw [hK] at e; exact absurd (cnt_pos.1 e) hm
        have HE := Lib.hid (visit_new d met hgo hm)
        have HM6 := Lib.hid (HM.out.snoc hgo hm)
        obtain ⟨ad, rfl, hnA⟩ := NdAt.of HA.out hg.at_
        have HNA := Lib.hid hnA
        have HUk := Lib.hid (HOK.out x (List.mem_of_getElem? hg.at_))
        obtain ⟨i0, hi0, hz0, hz1, hz2⟩ := info_parts int_info
        clear hgo hm hK hg hnA
        go_enter Try.func18, Try.ntmps18
        go_wp2_with fail
        rw [← H1.out]
        refine HAt.out.mono ?_; rintro e w2 ⟨rfl, hx2⟩
        have HX2 := Lib.hid hx2
        clear k0 k1 hx2
        go_wp2_with fail
        refine (HHas.out _ HX2.out).mono ?_; rintro e w3 ⟨rfl, rfl⟩
        have own2 := own_ext HOw.out (HX1.out.step HX2.out)
        have hb2 : w0.heap.size ≤ w2.heap.size := (HXX.out.step HX2.out).size
        go_upto_region 5 with
          (at_builtin
           refine wpList_append_rd _ rfl (.tmp 22) (.tmp 24) _ rfl w0.heap.size 3 i0 _ 1 8 Try.underlying23 hi0 hz0 hz1 hz2 rfl (by omega) (.slice P met.length q) met.length (Ks .i64 met) rfl (own_ext own2 ((Ext.refl _).new _)) (some ⟨w2.heap.size, 0, none⟩) 1 1 (Ks .i64 [(p : Int)]) rfl (Rd.lit w2 #[.int .i64 (p : Int)] 3 1 rfl) (Ks_one _ _) (by simp only [maxLen]; omega) (by omega) (by simp; omega) ?_
           intro v4 w4 hown4 hg4 hat4
           obtain ⟨P4, q4, rfl⟩ := own_slice hown4)
        have hoB : (Value.slice P met.length q).ownBlock ≠ some W.heap.size := fun e => by have := (HOw.out.lt _ e).2; omega
        have B4 := ((HB1.out.to HX2.out).alloc (.cells #[.int .i64 (p : Int)] 3)).grown hg4 hoB
        have G4 : W.grownBy w4 o := by
          have e1 := grown_ext ((HX1.out.step HX2.out).new (.cells #[.int .i64 (p : Int)] 3)) (Value.slice P met.length q).ownBlock
          rw [HO.out]
          exact grown_trans e1 (.inl rfl) hg4
        have hs24 : W.heap.size < w2.heap.size := by have h1 := HB1.out.lt; have h2 := HX2.out.size; omega
        have Gr4 : Grew W o (Value.slice P4 (met.length + 1) q4).ownBlock := by
          rcases hat4 with e | e
          · exact .inl (by rw [e, HO.out])
          · refine .inr fun k hk => ?_
            rw [e] at hk
            injection hk with hk
            simp at hk
            omega
        have oB4 : (Value.slice P4 (met.length + 1) q4).ownBlock ≠ some W.heap.size := by
          rcases hat4 with e | e
          · rw [e]; exact hoB
          · rw [e]
            intro e2
            injection e2 with e2
            simp at e2
            omega
        have E4 : Ext w0 w4 := grown_old HX.out G4 (fun k hk => (HOw.out.lt k (by rw [← HO.out]; exact hk)).1)
        have hl : (met ++ [(p : Int)]).length = met.length + 1 := by simp
        have own5 : w4.ownsRow w0.heap.size 3 1 (.slice P4 (met ++ [(p : Int)]).length q4) (met ++ [(p : Int)]).length (Ks .i64 (met ++ [(p : Int)])) := by
          rw [hl, show Ks .i64 (met ++ [(p : Int)]) = Ks .i64 met ++ Ks .i64 [(p : Int)] by simp [Ks]]
          exact hown4
        have hkid := run_loadKids (c := 0) (NdAt.kids (HNA.out.to E4)) rfl
        have z0 : w4.cell? ⟨W.heap.size, 0, none⟩ = some (.slice (some ad) n c) := B4.cell 0
        have z1 : w4.cell? ⟨W.heap.size, 1, none⟩ = some (.slice B m dd) := B4.cell 1
        rw [← hl] at Gr4 oB4
        have HB4 := Lib.hid B4
        have HG4 := Lib.hid G4
        have HGr4 := Lib.hid Gr4
        have HoB4 := Lib.hid oB4
        have HO5 := Lib.hid own5
        have HLN := Lib.hid hl
        have HS24 := Lib.hid hs24
        clear B4 G4 Gr4 oB4 E4 own5 hl hown4 hg4 hat4 own2 hoB hs24 hb2
        go_wp2_with (refine wpList_load_agg 28 (by rfl) _ (by rfl) _ (by rfl) _ hkid ?_)
        clear hkid z0 z1
        go_loopw [1, 9, 32] (fun s1 _ j wr => ∃ k : Nat, k ≤ 9 ∧ j = .int .i64 k ∧ ∃ (Pk : Option Addr) (qk : Nat) (mk : List Int), s1 = .slice Pk mk.length qk ∧ Hid (mk = visits ns d (met ++ [(p : Int)]) (x.kids.take k)) ∧ Hid (wr.ownsRow w0.heap.size 3 1 (.slice Pk mk.length qk) mk.length (Ks .i64 mk)) ∧ Hid (W.grownBy wr o) ∧ Hid (Grew W o (Value.slice Pk mk.length qk).ownBlock) ∧ Hid ((Value.slice Pk mk.length qk).ownBlock ≠ some W.heap.size) ∧ Hid (Bx wr W.heap.size #[.slice (some ad) n c, .slice B m dd])) (fun _ _ j _ => 9 - (intOf j).toNat)
        case atStart => exact ⟨0, Nat.zero_le _, rfl, P4, q4, met ++ [(p : Int)], by rw [HLN.out], Lib.hid (by simp [visits]), HO5, HG4, HGr4, HoB4, HB4⟩
        case round =>
          obtain ⟨k, hk, rfl, Pk, qk, mk, rfl, hmk, hOk, hGk, hGrk, hoBk, hBk⟩ := hrel
          rename World => wr
          by_cases hlt : k < 9
          · have hix := run_indexKids (w := wr) (zs := x.kids) rfl hlt
            have hik := Lib.hid (ith_of x.kids (i := k) hlt)
            obtain ⟨z0, z1⟩ := HUk.out _ (List.mem_of_getElem? hik.out)
            have HMk := Lib.hid (show Met ns mk by rw [hmk.out]; exact visits_met HM6.out)
            have HLk := Lib.hid (show n < d + mk.length by
              have h1 : (met ++ [(p : Int)]).length ≤ mk.length := by rw [hmk.out]; exact visits_len _ _ _ _
              have h2 := HLN.out
              have h3 := HLT.out
              omega)
            have HV := Lib.hid (show visit ns d mk (ith x.kids k) = visits ns d (met ++ [(p : Int)]) (x.kids.take (k + 1)) by
              rw [List.take_add_one, hik.out, hmk.out]
              exact (visits_snoc _ _ _ _ _).symm)
            have HE0 := Lib.hid (grown_old HX.out hGk.out (fun k hk => (HOw.out.lt k (by rw [← HO.out]; exact hk)).1))
            generalize ith x.kids k = z at hix hik z0 z1 HV
            have HI := Lib.hid (IH.out wr Pk qk mk z HE0.out hOk.out HMk.out HLk.out z0 z1)
            have k0 : wr.cell? ⟨W.heap.size, 0, none⟩ = some (.slice (some ad) n c) := hBk.out.cell 0
            have k1 : wr.cell? ⟨W.heap.size, 1, none⟩ = some (.slice B m dd) := hBk.out.cell 1
            go_wp2_with (refine wpList_index_agg 28 (by rfl) _ _ (by rfl) _ _ _ (by rfl) (by rfl) hix ?_)
            refine HI.out.mono ?_; rintro e w9 ⟨P9, q9, rfl, hown9, hg9, hgr9⟩
            obtain ⟨m9, hm9⟩ : ∃ m9, m9 = visit ns d mk z := ⟨_, rfl⟩
            rw [← hm9] at hown9 hgr9 ⊢
            have HM9 := Lib.hid (hm9.trans HV.out)
            have HO9 := Lib.hid hown9
            have HG9 := Lib.hid (grown_trans hGk.out hGrk.out hg9)
            have HGr9 := Lib.hid (hGrk.out.trans hgr9 hGk.out.size)
            have Ho9 := Lib.hid (show (Value.slice P9 m9.length q9).ownBlock ≠ some W.heap.size by
              rcases hgr9 with e | e
              · rw [e]; exact hoBk.out
              · intro e2
                have h1 := e _ e2
                have h2 := hBk.out.lt
                omega)
            have HB9 := Lib.hid (hBk.out.grown hg9 hoBk.out)
            clear hm9 hown9 hg9 hgr9
            go_wp2_with fail
            go_roundw
            case rel => exact ⟨k + 1, by omega, by go_num, P9, q9, m9, rfl, HM9, HO9, HG9, HGr9, Ho9, HB9⟩
            case measure => simp [intOf]; omega
          · have hk9 : k = 9 := by omega
            have HV := Lib.hid (show visit ns (d + 1) met r = mk by
              rw [HE.out, hmk.out, hk9]
              rfl)
            clear hk9
            go_wp2_with fail
            go_ret
            rw [HV.out]
            exact ⟨Pk, qk, rfl, hOk.out, hGk.out, hGrk.out⟩

end Go.Proofs.Ytmfpgbiicncpcaa
