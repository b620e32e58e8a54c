/-
  Contracts: the closure of isMap, which calls itself; isMap; Right.
-/
import Derived.Test.YthgaogbpkedjcaaTrMeetM
import Derived.Test.YthgaogbpkedjcaaGE
import Derived.Test.YthgaogbpkedjcaaGG
import Derived.Laws.EntriesVeiled
set_option linter.unusedVariables false
set_option linter.unusedSimpArgs false
namespace Go.Proofs.Ythgaogbpkedjcaa
open Go.RowKit

def fvM (ba bf bk : Nat) : Value := .func (.func 65) #[] #[.pointer (some ⟨ba, 0, none⟩), .pointer (some ⟨bf, 0, none⟩), .pointer (some ⟨bk, 0, none⟩)]
/-- What the closure's variables hold, when these keys were met. -/
structure Km (w0 : World) (av : Array Value) (ba bf bk : Nat) (W : World) (P : Option Addr) (q : Nat) (keys : List Int) : Prop where
  a : Bx W ba av
  f : Bx W bf #[fvM ba bf bk]
  k : Bx W bk #[.slice P keys.length q]
  own : W.ownsRow w0.heap.size 2 1 (.slice P keys.length q) keys.length (Ks .i64 keys)
  apart : ∀ b, (Value.slice P keys.length q).ownBlock = some b → b ≠ ba ∧ b ≠ bf ∧ b ≠ bk
  ext : Ext w0 W
theorem Km.to {w0 W W' : World} {av : Array Value} {ba bf bk q : Nat} {P : Option Addr} {keys : List Int} (h : Km w0 av ba bf bk W P q keys) (hx : Ext W W') : Km w0 av ba bf bk W' P q keys :=
  ⟨h.a.to hx, h.f.to hx, h.k.to hx, own_ext h.own hx, h.apart, h.ext.step hx⟩
/-- Where the closure's variables lie. -/
structure SpM (base ba bf bk : Nat) : Prop where
  a : base ≤ ba
  f : base ≤ bf
  k : base ≤ bk
  ka : bk ≠ ba
  kf : bk ≠ bf

def MeetP (ns : List Nd) (w0 : World) (av : Array Value) (ba bf bk : Nat) (W : World) (o : Option Nat) (keys : List Int) (r : Int) (e : Ending) (W' : World) : Prop :=
  (∃ t P q, GoodT ns keys r t ∧ e = .returned (.bool true) ∧ Km w0 av ba bf bk W' P q (keys ++ t.keys) ∧ Keep3 W W' bk bk o ∧ Grew W o (Value.slice P (keys ++ t.keys).length q).ownBlock) ∨
  ((∀ t, ¬ GoodT ns keys r t) ∧ e = .returned (.bool false) ∧ Ext w0 W')

theorem i64_info : (Try.prog.info? 2).map (fun i => (i.zero, i.size, i.bytes)) = some (some (.int .i64 0), 1, 8) := by kernel_rfl
/-- What a call of the closure does. -/
def MeetC (ns : List Nd) (w0 : World) (av : Array Value) (ba bf bk : Nat) (r : Int) : Prop :=
  ∀ (W : World) (P : Option Addr) (q : Nat) (keys : List Int), Km w0 av ba bf bk W P q keys → KeyOk ns keys → U r →
      Calls Try.prog 65 #[.int .u64 r, .pointer (some ⟨ba, 0, none⟩), .pointer (some ⟨bf, 0, none⟩), .pointer (some ⟨bk, 0, none⟩)] W
        (MeetP ns w0 av ba bf bk W (Value.slice P keys.length q).ownBlock keys r)

set_option maxHeartbeats 6400000 in
set_option maxRecDepth 100000 in
theorem meet_step (w0 : World) (A B : Option Addr) (n m c d' : Nat) (ns : List Nd) (hA : Rd w0 16 A n (flat Nd.cells ns)) (hok : ∀ x ∈ ns, x.Ok) (hn : n ≤ 1000) (ba bf bk : Nat) (sp : SpM w0.heap.size ba bf bk) (r : Int)
    (hkids : TopOk ns (nodeF ns r) → MeetC ns w0 #[.slice A n c, .slice B m d'] ba bf bk (nodeF ns r).r0 ∧ MeetC ns w0 #[.slice A n c, .slice B m d'] ba bf bk (nodeF ns r).r1) :
    MeetC ns w0 #[.slice A n c, .slice B m d'] ba bf bk r := by
  have hnl : ns.length = n := by
    have := hA.1
    rw [flat_length Nd.cells_length] at this
    omega
  have HNL := Lib.hid hnl
  have HA := Lib.hid hA
  have HOK := Lib.hid hok
  have SP := Lib.hid sp
  have HKI := Lib.hid hkids
  clear hnl hA hok sp hkids
  intro W P q keys hG hKk hU
  by_cases hr : r = 0
  · subst hr
    have HG := Lib.hid hG
    have HP := Lib.hid (show MeetP ns w0 #[.slice A n c, .slice B m d'] ba bf bk W (Value.slice P keys.length q).ownBlock keys 0 (.returned (.bool true)) W from
      .inl ⟨.nil, P, q, good_zero hKk.inc, rfl, by simpa [T.keys, T.row] using hG, Keep3.refl _ _ _ _, by simpa [T.keys, T.row] using Grew.refl W _⟩)
    clear hG hKk hU
    go_enter Try.func65, Try.ntmps65
    go_wp2_with fail
    go_ret
    exact HP.out
  · have hr1 : (r == 0) = false := by simp [hr]
    have HG := Lib.hid hG
    have HKO := Lib.hid hKk
    have HN := Lib.hid (fun W' (hW : Ext W W') => nodeOf_is A B n c m d' ns r W' hU.1 hU.2 (HA.out.to (hG.ext.step hW)))
    have HXO := Lib.hid (nodeF_ok HOK.out r)
    have HR := Lib.hid hr
    have k0 : W.cell? ⟨ba, 0, none⟩ = some (.slice A n c) := hG.a.cell 0
    have k1 : W.cell? ⟨ba, 1, none⟩ = some (.slice B m d') := hG.a.cell 1
    obtain ⟨x, hx⟩ : ∃ x, x = nodeF ns r := ⟨_, rfl⟩
    rw [← hx] at HN HXO
    have HX := Lib.hid hx
    obtain ⟨o, ho⟩ : ∃ o, o = (Value.slice P keys.length q).ownBlock := ⟨_, rfl⟩
    rw [← ho]
    have HO := Lib.hid ho
    clear hG hKk hr hx ho
    go_enter Try.func65, Try.ntmps65
    go_wp2_with fail
    refine (HN.out _ (Ext.refl _)).mono ?_; rintro e w1 ⟨rfl, hx1⟩
    obtain ⟨w2, hw2⟩ : ∃ w2, w2 = w1.alloc (.cells x.arr 66) := ⟨_, rfl⟩
    obtain ⟨B2, hx2, hs2⟩ := box_made hw2
    have G2 := HG.out.to (hx1.step hx2)
    have H2 := Lib.hid hw2
    have HX2 := Lib.hid (hx1.step hx2)
    have HB2 := Lib.hid B2
    have HG2 := Lib.hid G2
    have hs1 := Lib.hid hx1.size
    have HS2 := Lib.hid hs2
    have n2 := B2.node
    have s0 := fun q : Later w2 => (G2.a.to q.ext).cell 0
    have s1 := fun q : Later w2 => (G2.a.to q.ext).cell 1
    have s2 := fun q : Later w2 => (G2.f.to q.ext).cell 0
    have s5 := fun q : Later w2 => ((B2.to q.ext).cell 5).trans x.a5
    simp only [List.getElem?_toArray, List.getElem?_cons_zero, List.getElem?_cons_succ] at s0 s1 s2
    unfold fvM at s2
    have S := Lib.hid (And.intro s0 (And.intro s1 (And.intro s2 s5)))
    have HT := Lib.hid (fun (b : Bool) (hb : b = true ↔ TopOk ns x) W' (hW : Ext w2 W') => isTop_is A B n c m d' ns x W' (HA.out.to (G2.ext.step hW)) HXO.out b hb)
    clear hw2 B2 hx1 hx2 hs2 G2 k0 k1 s0 s1 s2 s5
    go_wp2_with (first
      | (refine wpList_store_nd (W := w1) (by rfl) _ _ (by rfl) (by rfl) x (by rfl) _ (by rfl) (by rfl) ?_; rw [← H2.out]))
    by_cases htop : TopOk ns x
    · obtain ⟨p, xx, hgot, hxx, htx⟩ := top_got (HX.out ▸ htop)
      rw [← HX.out] at hxx
      subst hxx
      have HGOT := Lib.hid hgot
      have HTX := Lib.hid htx
      have HT1 := Lib.hid (HT.out true (by simp [htx]))
      have hki := HKI.out (HX.out ▸ htop)
      rw [← HX.out] at hki
      have HK0 := Lib.hid hki.1
      have HK1 := Lib.hid hki.2
      have HU0 := Lib.hid (show U x.r0 from HXO.out x.r0 (by simp [Nd.kids]))
      have HU1 := Lib.hid (show U x.r1 from HXO.out x.r1 (by simp [Nd.kids]))
      have LB := Lib.hid (show w1.heap.size ≠ bk ∧ o ≠ some w1.heap.size by
        have h1 := hs1.out
        refine ⟨by have := HG.out.k.lt; omega, fun e => ?_⟩
        have := (HG.out.own.lt _ (by rw [← HO.out]; exact e)).2
        omega)
      clear htop HT hgot htx hki
      obtain ⟨s0, s1, s2, s5⟩ := S.out
      simp only [Act.put]
      go_wp2_with fail
      refine wp_region_pivot (C := fun w' => ∃ q : Later w2, w' = q.w) 9 _ rfl (by kernel_rfl) (by kernel_rfl) ⟨⟨w2.drew, (Ext.refl _).drew⟩, rfl⟩ ?_
      simp only [List.take_succ_cons, List.take_zero]
      repeat (first
        | go_big_quiet_step (first | (go_at_call 66; exact later_call (fun W hW => HT1.out W hW)))
        | (refine wpQuiet_load_node ?_ (.tmp 6) (by rfl) _ ?_ x n2 ?_
           · rfl
           · rfl
           simp only [Act.put, List.setIfInBounds_toArray, List.set_cons_zero, List.set_cons_succ]))
      refine wpQuiet_nil ?_
      rintro _ ⟨q1, rfl⟩ K hK
      clear s0 s1 s2 s5
      go_simp
      have HXq1 := Lib.hid q1.ext
      have HGq1 := Lib.hid (HG2.out.to q1.ext)
      have HBq1 := Lib.hid (HB2.out.to q1.ext)
      refine (HK0.out q1.w P q keys HGq1.out HKO.out HU0.out).mono ?_
      rintro e w9 (⟨tl, P9, q9, hgt, rfl, hG9, hK9, hGr9⟩ | ⟨hno, rfl, hx9⟩)
      · refine hK _ _ ⟨fun w' => ∃ q : Later w9, w' = q.w, ⟨⟨w9, Ext.refl _⟩, rfl⟩, ?_⟩
        simp only [List.drop_succ_cons, List.drop_zero]
        rw [← HO.out] at hK9 hGr9
        have HGT := Lib.hid hgt
        have HG9 := Lib.hid hG9
        have HB9 := Lib.hid (HBq1.out.keep hK9 LB.out.1 LB.out.1 LB.out.2)
        have HK9 := Lib.hid ((Keep3.of_ext (HX2.out.step HXq1.out) bk bk o).trans hK9 (Grew.refl _ _))
        have HGr9' := Lib.hid hGr9
        have HGr9 := Lib.hid ((Grew.refl W o).trans hGr9 (HX2.out.step HXq1.out).size)
        have HKO9 := Lib.hid (HKO.out.good hgt)
        have hlt9 := Lib.hid (show w1.heap.size < q1.w.heap.size from HBq1.out.lt)
        clear hgt hG9 hK9 hGr9
        have HXW := Lib.hid (show W.heap.size ≤ w1.heap.size from hs1.out)
        have kr := HG9.out
        generalize hks : keys ++ tl.keys = ks at kr
        have HKS := Lib.hid hks
        clear hks
        have s0 := fun q : Later w9 => (kr.k.to q.ext).cell 0
        have s2 := fun q : Later w9 => ((HB9.out.to q.ext).cell 2).trans x.a2
        simp only [List.getElem?_toArray, List.getElem?_cons_zero, List.getElem?_cons_succ] at s0
        obtain ⟨nn, hnn⟩ : ∃ nn, nn = x.n := ⟨_, rfl⟩
        rw [← hnn] at s2
        have HNN := Lib.hid hnn
        have KR := Lib.hid kr
        clear kr hnn
        rcases List.eq_nil_or_concat ks with rfl | ⟨kp, z, rfl⟩
        · simp only [List.length_nil] at s0
          repeat (go_big_quiet_step (fail))
          refine wpQuiet_nil ?_
          rintro w10 ⟨q2, hq2⟩
          have hx10 : Ext w9 w10 := hq2 ▸ q2.ext
          clear s0 s2 hq2
          obtain ⟨ks, hks⟩ : ∃ ks : List Int, ks = [] := ⟨_, rfl⟩
          have INC := Lib.hid (show Inc (ks ++ [nn]) by rw [hks]; simp [Inc])
          rw [← hks] at KR HKS
          clear hks
          have G10 := KR.out.to hx10
          have B10 := HB9.out.to hx10
          have hkl : ks.length ≤ 1000 := by
            have := HKO9.out.len
            rw [HKS.out] at this
            have := HNL.out
            omega
          have p0 : w10.cell? ⟨bk, 0, none⟩ = some (.slice P9 ks.length q9) := G10.k.cell 0
          have c2 : w10.cell? ⟨w1.heap.size, 2, none⟩ = some (.int .i64 nn) := by rw [HNN.out]; exact (B10.cell 2).trans x.a2
          obtain ⟨w11, hw11⟩ : ∃ w11, w11 = w10.alloc (.cells #[.int .i64 nn] 2) := ⟨_, rfl⟩
          obtain ⟨B11, hx11, hs11⟩ := box_made hw11
          have own11 := own_ext G10.own hx11
          have hr11 : Rd w11 1 (some ⟨w10.heap.size, 0, none⟩) 1 (Ks .i64 [nn]) := by rw [hw11]; exact Rd.lit w10 #[.int .i64 nn] 2 1 rfl
          have hb11 : w0.heap.size ≤ w11.heap.size := (G10.ext.step hx11).size
          obtain ⟨i0, hi0, hz0, hz1, hz2⟩ := info_parts i64_info
          have H11 := Lib.hid hw11
          have HG10 := Lib.hid G10
          have HX11 := Lib.hid hx11
          have HB10 := Lib.hid B10
          have HX10 := Lib.hid hx10
          clear hw11 B11 hx11 hs11 G10 B10 hx10
          go_wp2_with (first
            | (at_builtin
               rw [← H11.out]
               refine wpList_append_rd _ rfl (.tmp 40) (.tmp 43) _ rfl w0.heap.size 2 i0 _ 1 8 Try.underlying50 hi0 hz0 hz1 hz2 rfl (by omega) (.slice P9 ks.length q9) ks.length (Ks .i64 ks) rfl own11 (some ⟨w10.heap.size, 0, none⟩) 1 1 (Ks .i64 [nn]) rfl hr11 (Ks_one _ _) (by simp only [maxLen]; omega) (by omega) hb11 ?_
               intro v1 w12 hown12 hg12 hat12
               obtain ⟨P5, q5, rfl⟩ := own_slice hown12
               have hnp : (Value.slice P9 ks.length q9).ownBlock ≠ some bk := fun e => (HG10.out.apart _ e).2.2 rfl
               have P12 := (HG10.out.k.to HX11.out).grown hg12 hnp
               have HP12 := Lib.hid P12
               clear P12)
            | (refine wpList_store_cell (by rfl) 50 (.tmp 3) (.tmp 44) (by rfl) bk 0 (by rfl) (.slice P5 (ks.length + 1) q5) (by rfl) rfl (by kernel_rfl) _ HP12.out (by simp) ?_
               intro w13 B13k O13
               have f0 : w13.cell? ⟨bf, 0, none⟩ = some (.func (.func 65) #[] #[.pointer (some ⟨ba, 0, none⟩), .pointer (some ⟨bf, 0, none⟩), .pointer (some ⟨bk, 0, none⟩)]) := (O13.bx ((HG10.out.f.to HX11.out).grown hg12 (fun e => (HG10.out.apart _ e).2.1 rfl)) SP.out.kf.symm).cell 0
               have kbP : (Value.slice P9 ks.length q9).ownBlock ≠ some w1.heap.size := fun e => by
                 rcases HGr9'.out with h | h
                 · rw [HKS.out] at h; rw [h] at e; exact LB.out.2 e
                 · rw [HKS.out] at h; have := h _ e; have := hlt9.out; omega
               have c6 : w13.cell? ⟨w1.heap.size, 6, none⟩ = some (.int .u64 x.r1) := ((O13.bx ((HB10.out.to HX11.out).grown hg12 kbP) LB.out.1).cell 6).trans x.a6))
          have hl : (ks ++ [nn]).length = ks.length + 1 := by simp
          have G10 := HG10.out
          have sp := SP.out
          have h1011 : w10.heap.size < w11.heap.size := by rw [H11.out]; simp
          have K10 : Keep3 w10 w13 bk bk (Value.slice P9 ks.length q9).ownBlock := ((Keep3.of_ext HX11.out bk bk _).trans (Keep3.of_grown hg12 bk bk) (Grew.refl _ _)).trans (Keep3.of_p O13 bk _) (Grew.refl _ _)
          have la := G10.a.lt
          have lf := G10.f.lt
          have lk := G10.k.lt
          have ap5 : ∀ b, (Value.slice P5 (ks.length + 1) q5).ownBlock = some b → b ≠ ba ∧ b ≠ bf ∧ b ≠ bk := fun b hb => by
            rcases hat12 with e | e
            · exact G10.apart b (by rw [← e]; exact hb)
            · rw [e] at hb
              injection hb with hb
              exact ⟨by omega, by omega, by omega⟩
          have G13 : Km w0 #[.slice A n c, .slice B m d'] ba bf bk w13 P5 q5 (ks ++ [nn]) := by
            refine ⟨G10.a.keep K10 sp.ka.symm sp.ka.symm (fun e => (G10.apart _ e).1 rfl), G10.f.keep K10 sp.kf.symm sp.kf.symm (fun e => (G10.apart _ e).2.1 rfl), ?_, ?_, ?_, K10.old G10.ext sp.k sp.k (fun k hk => (G10.own.lt k hk).1)⟩
            · rw [hl]
              exact B13k
            · rw [hl, show Ks .i64 (ks ++ [nn]) = Ks .i64 ks ++ Ks .i64 [nn] by simp [Ks]]
              exact own_only hown12 O13 (fun e => (ap5 _ e).2.2 rfl)
            · rw [hl]
              exact ap5
          have KO13 : KeyOk ns (ks ++ [nn]) := by
            have h := HKO9.out
            rw [HKS.out] at h
            exact h.snoc INC.out (List.mem_map.2 ⟨x, List.mem_of_getElem? HGOT.out.at_, HNN.out.symm⟩)
          have lb10 : w1.heap.size < w10.heap.size := HB10.out.lt
          have own10 := fun b hb => (G10.own.lt b hb).2
          have KEQ := Lib.hid (show keys ++ tl.keys ++ [x.n] = ks ++ [nn] by rw [HKS.out, HNN.out])
          have HC := Lib.hid (HK1.out w13 P5 q5 (ks ++ [nn]) G13 KO13 HU1.out)
          have K013 := Lib.hid ((HK9.out.ext HX10.out).trans (HKS.out ▸ K10) HGr9.out)
          have Gr13 := Lib.hid (show Grew W o (Value.slice P5 (ks.length + 1) q5).ownBlock by
            rcases hat12 with e | e
            · rw [e, ← HKS.out]; exact HGr9.out
            · refine .inr fun b hb => ?_
              rw [e] at hb
              injection hb with hb
              have := HK9.out.size
              have := HX10.out.size
              have := HX11.out.size
              omega)
          clear O13 G10 sp h1011 K10 la lf lk ap5 G13 KO13 lb10 own10 kbP B13k hnp hown12 hg12 hat12 p0 c2 own11 hr11 hb11
          refine HC.out.mono ?_
          rintro e w14 (⟨tr, P14, q14, hgt2, rfl, hG14, hK14, hGr14⟩ | ⟨hno, rfl, hx14⟩)
          · have HF := Lib.hid (show MeetP ns w0 #[.slice A n c, .slice B m d'] ba bf bk W o keys r (.returned (.bool true)) w14 from by
              refine .inl ⟨.node r tl x.n x.v tr, P14, q14, good_node HGOT.out HTX.out HGT.out (by rw [KEQ.out]; exact hgt2), rfl, ?_, ?_, ?_⟩
              · rw [keys_node, KEQ.out]; exact hG14
              · rw [hl] at hK14 hGr14
                exact K013.out.trans hK14 Gr13.out
              · rw [keys_node, KEQ.out]
                rw [hl] at hGr14
                exact Gr13.out.trans hGr14 K013.out.size)
            clear hgt2 hG14 hK14 hGr14
            go_wp2_with fail
            go_ret
            exact HF.out
          · have HF := Lib.hid (show MeetP ns w0 #[.slice A n c, .slice B m d'] ba bf bk W o keys r (.returned (.bool false)) w14 from by
              refine .inr ⟨fun t ht => ?_, rfl, hx14⟩
              obtain ⟨_, l, u, h1, _, h2⟩ := good_inv HGOT.out ht
              obtain rfl : l = tl := rep_det h1.rep HGT.out.rep (by rw [h1.ref, HGT.out.ref])
              rw [KEQ.out] at h2
              exact hno u h2)
            clear hno hx14
            go_wp2_with fail
            go_ret
            exact HF.out
        · rw [List.concat_eq_append] at s0 KR HKS
          have hlen : (kp ++ [z]).length = kp.length + 1 := by simp
          rw [hlen] at s0
          have hR := Rd.own KR.out.own
          obtain ⟨ad, hPd, hcz⟩ := hR.2 kp.length (.int .i64 z) (by simp [Ks])
          subst hPd
          have s3 := fun q : Later w9 => q.ext.cellOf hcz
          have hkn : kp.length + 1 ≤ 1000 := by
            have := HKO9.out.len
            rw [HKS.out, hlen] at this
            have := HNL.out
            omega
          have e1 : IntKind.i64.wrap (((kp.length + 1 : Nat) : Int) - 1) = (kp.length : Int) := by rw [IntKind.wrap_i64]; omega
          have e2 : (0 : Int) ≤ (kp.length : Int) := by omega
          clear hR hlen hcz
          by_cases hz : nn ≤ z
          · repeat (go_big_quiet_step (fail))
            refine wpQuiet_nil ?_
            rintro _ ⟨q2, rfl⟩
            clear s0 s2 s3 e1
            go_wp2_with fail
            go_ret
            refine .inr ⟨fun t ht => ?_, rfl, KR.out.ext.step q2.ext⟩
            obtain ⟨_, l, u, h1, h2, _⟩ := good_inv HGOT.out ht
            obtain rfl : l = tl := rep_det h1.rep HGT.out.rep (by rw [h1.ref, HGT.out.ref])
            rw [HKS.out, ← HNN.out] at h2
            have := (inc_last (Inc.app.1 h2).1).1 h2
            omega
          · repeat (go_big_quiet_step (fail))
            refine wpQuiet_nil ?_
            rintro w10 ⟨q2, hq2⟩
            have hx10 : Ext w9 w10 := hq2 ▸ q2.ext
            have INC := Lib.hid (show Inc (kp ++ [z] ++ [nn]) from (inc_last (by have := HKO9.out.inc; rw [HKS.out] at this; exact this)).2 (by omega))
            clear s0 s2 s3 hq2 e1
            obtain ⟨ks, hks⟩ : ∃ ks : List Int, ks = kp ++ [z] := ⟨_, rfl⟩
            rw [← hks] at KR HKS INC
            clear hks
            have G10 := KR.out.to hx10
            have B10 := HB9.out.to hx10
            have hkl : ks.length ≤ 1000 := by
              have := HKO9.out.len
              rw [HKS.out] at this
              have := HNL.out
              omega
            have p0 : w10.cell? ⟨bk, 0, none⟩ = some (.slice (some ad) ks.length q9) := G10.k.cell 0
            have c2 : w10.cell? ⟨w1.heap.size, 2, none⟩ = some (.int .i64 nn) := by rw [HNN.out]; exact (B10.cell 2).trans x.a2
            obtain ⟨w11, hw11⟩ : ∃ w11, w11 = w10.alloc (.cells #[.int .i64 nn] 2) := ⟨_, rfl⟩
            obtain ⟨B11, hx11, hs11⟩ := box_made hw11
            have own11 := own_ext G10.own hx11
            have hr11 : Rd w11 1 (some ⟨w10.heap.size, 0, none⟩) 1 (Ks .i64 [nn]) := by rw [hw11]; exact Rd.lit w10 #[.int .i64 nn] 2 1 rfl
            have hb11 : w0.heap.size ≤ w11.heap.size := (G10.ext.step hx11).size
            obtain ⟨i0, hi0, hz0, hz1, hz2⟩ := info_parts i64_info
            have H11 := Lib.hid hw11
            have HG10 := Lib.hid G10
            have HX11 := Lib.hid hx11
            have HB10 := Lib.hid B10
            have HX10 := Lib.hid hx10
            clear hw11 B11 hx11 hs11 G10 B10 hx10
            go_wp2_with (first
              | (at_builtin
                 rw [← H11.out]
                 refine wpList_append_rd _ rfl (.tmp 40) (.tmp 43) _ rfl w0.heap.size 2 i0 _ 1 8 Try.underlying50 hi0 hz0 hz1 hz2 rfl (by omega) (.slice (some ad) ks.length q9) ks.length (Ks .i64 ks) rfl own11 (some ⟨w10.heap.size, 0, none⟩) 1 1 (Ks .i64 [nn]) rfl hr11 (Ks_one _ _) (by simp only [maxLen]; omega) (by omega) hb11 ?_
                 intro v1 w12 hown12 hg12 hat12
                 obtain ⟨P5, q5, rfl⟩ := own_slice hown12
                 have hnp : (Value.slice (some ad) ks.length q9).ownBlock ≠ some bk := fun e => (HG10.out.apart _ e).2.2 rfl
                 have P12 := (HG10.out.k.to HX11.out).grown hg12 hnp
                 have HP12 := Lib.hid P12
                 clear P12)
              | (refine wpList_store_cell (by rfl) 50 (.tmp 3) (.tmp 44) (by rfl) bk 0 (by rfl) (.slice P5 (ks.length + 1) q5) (by rfl) rfl (by kernel_rfl) _ HP12.out (by simp) ?_
                 intro w13 B13k O13
                 have f0 : w13.cell? ⟨bf, 0, none⟩ = some (.func (.func 65) #[] #[.pointer (some ⟨ba, 0, none⟩), .pointer (some ⟨bf, 0, none⟩), .pointer (some ⟨bk, 0, none⟩)]) := (O13.bx ((HG10.out.f.to HX11.out).grown hg12 (fun e => (HG10.out.apart _ e).2.1 rfl)) SP.out.kf.symm).cell 0
                 have kbP : (Value.slice (some ad) ks.length q9).ownBlock ≠ some w1.heap.size := fun e => by
                   rcases HGr9'.out with h | h
                   · rw [HKS.out] at h; rw [h] at e; exact LB.out.2 e
                   · rw [HKS.out] at h; have := h _ e; have := hlt9.out; omega
                 have c6 : w13.cell? ⟨w1.heap.size, 6, none⟩ = some (.int .u64 x.r1) := ((O13.bx ((HB10.out.to HX11.out).grown hg12 kbP) LB.out.1).cell 6).trans x.a6))
            have hl : (ks ++ [nn]).length = ks.length + 1 := by simp
            have G10 := HG10.out
            have sp := SP.out
            have h1011 : w10.heap.size < w11.heap.size := by rw [H11.out]; simp
            have K10 : Keep3 w10 w13 bk bk (Value.slice (some ad) ks.length q9).ownBlock := ((Keep3.of_ext HX11.out bk bk _).trans (Keep3.of_grown hg12 bk bk) (Grew.refl _ _)).trans (Keep3.of_p O13 bk _) (Grew.refl _ _)
            have la := G10.a.lt
            have lf := G10.f.lt
            have lk := G10.k.lt
            have ap5 : ∀ b, (Value.slice P5 (ks.length + 1) q5).ownBlock = some b → b ≠ ba ∧ b ≠ bf ∧ b ≠ bk := fun b hb => by
              rcases hat12 with e | e
              · exact G10.apart b (by rw [← e]; exact hb)
              · rw [e] at hb
                injection hb with hb
                exact ⟨by omega, by omega, by omega⟩
            have G13 : Km w0 #[.slice A n c, .slice B m d'] ba bf bk w13 P5 q5 (ks ++ [nn]) := by
              refine ⟨G10.a.keep K10 sp.ka.symm sp.ka.symm (fun e => (G10.apart _ e).1 rfl), G10.f.keep K10 sp.kf.symm sp.kf.symm (fun e => (G10.apart _ e).2.1 rfl), ?_, ?_, ?_, K10.old G10.ext sp.k sp.k (fun k hk => (G10.own.lt k hk).1)⟩
              · rw [hl]
                exact B13k
              · rw [hl, show Ks .i64 (ks ++ [nn]) = Ks .i64 ks ++ Ks .i64 [nn] by simp [Ks]]
                exact own_only hown12 O13 (fun e => (ap5 _ e).2.2 rfl)
              · rw [hl]
                exact ap5
            have KO13 : KeyOk ns (ks ++ [nn]) := by
              have h := HKO9.out
              rw [HKS.out] at h
              exact h.snoc INC.out (List.mem_map.2 ⟨x, List.mem_of_getElem? HGOT.out.at_, HNN.out.symm⟩)
            have lb10 : w1.heap.size < w10.heap.size := HB10.out.lt
            have own10 := fun b hb => (G10.own.lt b hb).2
            have KEQ := Lib.hid (show keys ++ tl.keys ++ [x.n] = ks ++ [nn] by rw [HKS.out, HNN.out])
            have HC := Lib.hid (HK1.out w13 P5 q5 (ks ++ [nn]) G13 KO13 HU1.out)
            have K013 := Lib.hid ((HK9.out.ext HX10.out).trans (HKS.out ▸ K10) HGr9.out)
            have Gr13 := Lib.hid (show Grew W o (Value.slice P5 (ks.length + 1) q5).ownBlock by
              rcases hat12 with e | e
              · rw [e, ← HKS.out]; exact HGr9.out
              · refine .inr fun b hb => ?_
                rw [e] at hb
                injection hb with hb
                have := HK9.out.size
                have := HX10.out.size
                have := HX11.out.size
                omega)
            clear O13 G10 sp h1011 K10 la lf lk ap5 G13 KO13 lb10 own10 kbP B13k hnp hown12 hg12 hat12 p0 c2 own11 hr11 hb11
            refine HC.out.mono ?_
            rintro e w14 (⟨tr, P14, q14, hgt2, rfl, hG14, hK14, hGr14⟩ | ⟨hno, rfl, hx14⟩)
            · have HF := Lib.hid (show MeetP ns w0 #[.slice A n c, .slice B m d'] ba bf bk W o keys r (.returned (.bool true)) w14 from by
                refine .inl ⟨.node r tl x.n x.v tr, P14, q14, good_node HGOT.out HTX.out HGT.out (by rw [KEQ.out]; exact hgt2), rfl, ?_, ?_, ?_⟩
                · rw [keys_node, KEQ.out]; exact hG14
                · rw [hl] at hK14 hGr14
                  exact K013.out.trans hK14 Gr13.out
                · rw [keys_node, KEQ.out]
                  rw [hl] at hGr14
                  exact Gr13.out.trans hGr14 K013.out.size)
              clear hgt2 hG14 hK14 hGr14
              go_wp2_with fail
              go_ret
              exact HF.out
            · have HF := Lib.hid (show MeetP ns w0 #[.slice A n c, .slice B m d'] ba bf bk W o keys r (.returned (.bool false)) w14 from by
                refine .inr ⟨fun t ht => ?_, rfl, hx14⟩
                obtain ⟨_, l, u, h1, _, h2⟩ := good_inv HGOT.out ht
                obtain rfl : l = tl := rep_det h1.rep HGT.out.rep (by rw [h1.ref, HGT.out.ref])
                rw [KEQ.out] at h2
                exact hno u h2)
              clear hno hx14
              go_wp2_with fail
              go_ret
              exact HF.out
      · refine hK _ _ ⟨fun w' => ∃ q : Later w9, w' = q.w, ⟨⟨w9, Ext.refl _⟩, rfl⟩, ?_⟩
        simp only [List.drop_succ_cons, List.drop_zero]
        repeat (go_big_quiet_step (fail))
        refine wpQuiet_nil ?_
        rintro _ ⟨q2, rfl⟩
        go_wp2_with fail
        go_ret
        refine .inr ⟨fun t ht => ?_, rfl, hx9.step q2.ext⟩
        obtain ⟨_, l, u, h1, _, _⟩ := good_inv HGOT.out ht
        exact hno l h1
    · have HNT := Lib.hid htop
      have HT0 := Lib.hid (HT.out false (by simp [htop]))
      clear htop HT
      obtain ⟨s0, s1, s2, s5⟩ := S.out
      simp only [Act.put]
      go_wp2_with fail
      refine wp_region_later w2 (Ext.refl _) (by kernel_rfl) (by kernel_rfl) ?_
      repeat (first
        | go_big_quiet_step (first | (go_at_call 66; exact later_call (fun W hW => HT0.out W hW)))
        | (refine wpQuiet_load_node ?_ (.tmp 6) (by rfl) _ ?_ x n2 ?_
           · rfl
           · rfl
           simp only [Act.put, List.setIfInBounds_toArray, List.set_cons_zero, List.set_cons_succ]))
      refine wpQuiet_nil ?_
      rintro _ ⟨q, rfl⟩
      clear s0 s1 s2 s5
      go_wp2_with fail
      go_ret
      exact .inr ⟨fun t ht => HNT.out (HX.out ▸ good_top HR.out ht), rfl, HG2.out.ext.step q.ext⟩

theorem meet_is (w0 : World) (A B : Option Addr) (n m c d' : Nat) (ns : List Nd) (hA : Rd w0 16 A n (flat Nd.cells ns)) (hok : ∀ x ∈ ns, x.Ok) (hn : n ≤ 1000) (ba bf bk : Nat) (sp : SpM w0.heap.size ba bf bk) (d : Nat) :
    ∀ r, (∀ p x, Got ns r p x → After ns x.n < d) → MeetC ns w0 #[.slice A n c, .slice B m d'] ba bf bk r := by
  induction d with
  | zero =>
    intro r hd
    refine meet_step w0 A B n m c d' ns hA hok hn ba bf bk sp r fun ht => ?_
    obtain ⟨p, x, hg, _, _⟩ := top_got ht
    exact absurd (hd p x hg) (by omega)
  | succ d ih =>
    intro r hd
    refine meet_step w0 A B n m c d' ns hA hok hn ba bf bk sp r fun ht => ?_
    obtain ⟨p, x, hg, e, ht'⟩ := top_got ht
    rw [e]
    exact ⟨ih _ (kid_after ht'.k0 (hd p x hg)), ih _ (kid_after ht'.k1 (hd p x hg))⟩

end Go.Proofs.Ythgaogbpkedjcaa
