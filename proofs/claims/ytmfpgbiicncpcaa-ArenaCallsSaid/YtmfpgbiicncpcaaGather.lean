/-
  The closure of Reach, which calls itself.
-/
import Derived.Test.YtmfpgbiicncpcaaDfs
import Derived.Test.YtmfpgbiicncpcaaCopied
set_option linter.unusedVariables false
set_option linter.unusedSimpArgs false
namespace Go.Proofs.Ytmfpgbiicncpcaa
open Go.RowKit

/-- From W to W' only blocks g, bp and o have turned, and what is new. -/
structure Keep3 (W W' : World) (g bp : Nat) (o : Option Nat) : Prop where
  os : W'.os = W.os
  tape : W'.tape = W.tape
  output : W'.output = W.output
  size : W.heap.size ≤ W'.heap.size
  block : ∀ k, k < W.heap.size → k ≠ g → k ≠ bp → o ≠ some k → W'.heap[k]? = W.heap[k]?
/-- A row grew in place, or is new since W. -/
def Grew (W : World) (o o' : Option Nat) : Prop := o' = o ∨ ∀ k, o' = some k → W.heap.size ≤ k
section
variable {W W1 W2 : World} {g bp : Nat} {o o1 o2 : Option Nat}
theorem Grew.refl (W : World) (o : Option Nat) : Grew W o o := .inl rfl
theorem Grew.trans (h : Grew W o o1) (h2 : Grew W1 o1 o2) (hs : W.heap.size ≤ W1.heap.size) : Grew W o o2 := by
  rcases h2 with rfl | h2
  · exact h
  · exact .inr fun k hk => Nat.le_trans hs (h2 k hk)
theorem Keep3.refl (W : World) (g bp : Nat) (o : Option Nat) : Keep3 W W g bp o := ⟨rfl, rfl, rfl, Nat.le_refl _, fun _ _ _ _ _ => rfl⟩
theorem Keep3.trans (h : Keep3 W W1 g bp o) (h2 : Keep3 W1 W2 g bp o1) (ho : Grew W o o1) : Keep3 W W2 g bp o :=
  ⟨h2.os.trans h.os, h2.tape.trans h.tape, h2.output.trans h.output, Nat.le_trans h.size h2.size, fun k hk n1 n2 n3 => (h2.block k (Nat.lt_of_lt_of_le hk h.size) n1 n2 (fun e => by
    rcases ho with rfl | ho
    · exact n3 e
    · have := ho k e; omega)).trans (h.block k hk n1 n2 n3)⟩
theorem Keep3.of_ext (hx : Ext W W1) (g bp : Nat) (o : Option Nat) : Keep3 W W1 g bp o := ⟨hx.os, hx.tape, hx.output, hx.size, fun k hk _ _ _ => hx.block k hk⟩
theorem Keep3.of_g (ho : Only g W W1) (bp : Nat) (o : Option Nat) : Keep3 W W1 g bp o := ⟨ho.os, ho.tape, ho.output, ho.size, fun k hk n1 _ _ => ho.block k hk (fun e => n1 (by injection e))⟩
theorem Keep3.of_p (ho : Only bp W W1) (g : Nat) (o : Option Nat) : Keep3 W W1 g bp o := ⟨ho.os, ho.tape, ho.output, ho.size, fun k hk _ n2 _ => ho.block k hk (fun e => n2 (by injection e))⟩
theorem Keep3.of_grown (hg : W.grownBy W1 o) (g bp : Nat) : Keep3 W W1 g bp o := ⟨hg.os, hg.tape, hg.output, hg.size, fun k hk _ _ n3 => hg.block k hk (fun e => n3 e.symm)⟩
theorem Keep3.ext (h : Keep3 W W1 g bp o) (hx : Ext W1 W2) : Keep3 W W2 g bp o := h.trans (Keep3.of_ext hx g bp o) (Grew.refl _ _)
theorem Bx.keep {b : Nat} {cs : Array Value} (h : Bx W b cs) (hk : Keep3 W W1 g bp o) (h1 : b ≠ g) (h2 : b ≠ bp) (h3 : o ≠ some b) : Bx W1 b cs := by
  have e := hk.block b h.lt h1 h2 h3
  exact ⟨Nat.lt_of_lt_of_le h.lt hk.size, fun j => (World.cell?_of_block (a := ⟨b, j, none⟩) e).trans (h.cell j), fun j => by
    have := h.free j
    unfold World.frozen? at this ⊢
    rw [e]
    exact this⟩
/-- What is older than a base is as it was. -/
theorem Keep3.old {w0 : World} (h : Keep3 W W1 g bp o) (hx : Ext w0 W) (hg : w0.heap.size ≤ g) (hp : w0.heap.size ≤ bp) (ho : ∀ k, o = some k → w0.heap.size ≤ k) : Ext w0 W1 :=
  ⟨h.os.trans hx.os, h.tape.trans hx.tape, h.output.trans hx.output, Nat.le_trans hx.size h.size, fun k hk => (h.block k (Nat.lt_of_lt_of_le hk hx.size) (by omega) (by omega) (fun e => by have := ho k e; omega)).trans (hx.block k hk)⟩
end

/-- Where the closure's variables lie. -/
structure Spots (base ba bm bp bg g : Nat) : Prop where
  ab : base ≤ ba
  mb : base ≤ bm
  pb : base ≤ bp
  fb : base ≤ bg
  gb : base ≤ g
  pa : bp ≠ ba
  pm : bp ≠ bm
  pf : bp ≠ bg
  pg : bp ≠ g
  ga : g ≠ ba
  gm : g ≠ bm
  gf : g ≠ bg
def fv (ba bm bp bg : Nat) : Value := .func (.func 31) #[] #[.pointer (some ⟨ba, 0, none⟩), .pointer (some ⟨bm, 0, none⟩), .pointer (some ⟨bp, 0, none⟩), .pointer (some ⟨bg, 0, none⟩)]
/-- What the closure's variables hold, when these places were met; the places' row is P, of capacity q. -/
structure Ga (w0 : World) (av : Array Value) (n ba bm bp bg g : Nat) (W : World) (P : Option Addr) (q : Nat) (met : List Int) : Prop where
  a : Bx W ba av
  m : Bx W bm #[.slice (some ⟨g, 0, none⟩) n n]
  p : Bx W bp #[.slice P met.length q]
  f : Bx W bg #[fv ba bm bp bg]
  marks : Bx W g (Bs (marks n met))
  own : W.ownsRow w0.heap.size 3 1 (.slice P met.length q) met.length (Ks .i64 met)
  apart : ∀ k, (Value.slice P met.length q).ownBlock = some k → k ≠ ba ∧ k ≠ bm ∧ k ≠ bp ∧ k ≠ bg ∧ k ≠ g
  ext : Ext w0 W
theorem Ga.to {w0 W W' : World} {av : Array Value} {n ba bm bp bg g q : Nat} {P : Option Addr} {met : List Int} (h : Ga w0 av n ba bm bp bg g W P q met) (hx : Ext W W') : Ga w0 av n ba bm bp bg g W' P q met :=
  ⟨h.a.to hx, h.m.to hx, h.p.to hx, h.f.to hx, h.marks.to hx, own_ext h.own hx, h.apart, h.ext.step hx⟩

def Gathered (w0 : World) (av : Array Value) (n ba bm bp bg g : Nat) (W : World) (o : Option Nat) (met' : List Int) (e : Ending) (W' : World) : Prop :=
  e = .returned (.tuple #[]) ∧ ∃ P q, Ga w0 av n ba bm bp bg g W' P q met' ∧ Keep3 W W' g bp o ∧ Grew W o (Value.slice P met'.length q).ownBlock

set_option maxHeartbeats 6400000 in
theorem gather_is (w0 : World) (A B : Option Addr) (n m c d' : Nat) (ns : List Nd) (hA : Rd w0 16 A n (flat Nd.cells ns)) (hok : ∀ x ∈ ns, x.Ok) (hn : n ≤ 1000) (ba bm bp bg g : Nat) (sp : Spots w0.heap.size ba bm bp bg g) (d : Nat) :
    ∀ (W : World) (P : Option Addr) (q : Nat) (met : List Int) (R : Option Addr) (nr cr : Nat) (refs : List Int), Ga w0 #[.slice A n c, .slice B m d'] n ba bm bp bg g W P q met → Met ns met → n < d + met.length → nr ≤ 1000 → (∀ z ∈ refs, 0 ≤ z ∧ z ≤ 18446744073709551615) →
      (∀ W', Keep3 W W' g bp (Value.slice P met.length q).ownBlock → Rd W' 1 R nr (Us refs)) →
      Calls Try.prog 31 #[.slice R nr cr, .pointer (some ⟨ba, 0, none⟩), .pointer (some ⟨bm, 0, none⟩), .pointer (some ⟨bp, 0, none⟩), .pointer (some ⟨bg, 0, none⟩)] W
        (Gathered w0 #[.slice A n c, .slice B m d'] n ba bm bp bg g W (Value.slice P met.length q).ownBlock (visits ns d met refs)) := by
  have hnl : ns.length = n := by
    have := hA.1
    rw [flat_length Nd.cells_length] at this
    omega
  have HNL := Lib.hid hnl
  have HA := Lib.hid hA
  have HOK := Lib.hid hok
  have SP := Lib.hid sp
  clear hnl hA hok sp
  induction d with
  | zero =>
    intro W P q met R nr cr refs hG hM hlt
    have := hM.len
    have := HNL.out
    omega
  | succ d ih =>
    intro W P q met R nr cr refs hG hM hlt hnr hU hR
    have IH := Lib.hid ih
    have HG := Lib.hid hG
    have HM := Lib.hid hM
    have HU := Lib.hid hU
    have HR := Lib.hid hR
    have HRL := Lib.hid (show refs.length = nr from (hR W (Keep3.refl _ _ _ _)).u64len)
    have HLT := Lib.hid hlt
    obtain ⟨o, ho⟩ : ∃ o, o = (Value.slice P met.length q).ownBlock := ⟨_, rfl⟩
    rw [← ho] at HR ⊢
    have HOo := Lib.hid ho
    clear ih hG hM hU hR hlt ho
    go_enter Try.func31, Try.ntmps31
    go_wp2_with fail
    go_loopw [7, 8, 9, 10, 13] (fun _ _ _ _ j wr => ∃ k : Nat, k ≤ nr ∧ j = .int .i64 k ∧ ∃ (Pk : Option Addr) (qk : Nat) (mk : List Int), Hid (mk = visits ns (d + 1) met (refs.take k)) ∧ Hid (Ga w0 #[.slice A n c, .slice B m d'] n ba bm bp bg g wr Pk qk mk) ∧ Hid (Keep3 W wr g bp o) ∧ Hid (Grew W o (Value.slice Pk mk.length qk).ownBlock)) (fun _ _ _ _ j _ => nr - (intOf j).toNat)
    case atStart => exact ⟨0, Nat.zero_le _, rfl, P, q, met, Lib.hid (by simp [visits]), HG, Lib.hid (Keep3.refl _ _ _ _), Lib.hid (.inl HOo.out.symm)⟩
    case round =>
      obtain ⟨k, hk, rfl, Pk, qk, mk, hmk, hGk, hK, hGr⟩ := hrel
      rename World => wr
      by_cases hlt : k < nr
      · have HMk := Lib.hid (show Met ns mk by rw [hmk.out]; exact visits_met HM.out)
        have HLk := Lib.hid (show met.length ≤ mk.length by rw [hmk.out]; exact visits_len _ _ _ _)
        obtain ⟨r, hr⟩ : ∃ r, refs[k]? = some r := ⟨_, List.getElem?_eq_getElem (by have := HRL.out; omega)⟩
        obtain ⟨ad, had, hc⟩ := (HR.out wr hK.out).2 k (.int .u64 r) (by simp [Us, hr])
        subst had
        obtain ⟨r0, r1⟩ := HU.out r (List.mem_of_getElem? hr)
        have hnx := Lib.hid (show visits ns (d + 1) met (refs.take (k + 1)) = visit ns (d + 1) mk r by
          rw [List.take_add_one, hr]; show visits ns (d + 1) met (refs.take k ++ [r]) = _; rw [visits_snoc, ← hmk.out])
        have k0 : wr.cell? ⟨ba, 0, none⟩ = some (.slice A n c) := hGk.out.a.cell 0
        have k1 : wr.cell? ⟨ba, 1, none⟩ = some (.slice B m d') := hGk.out.a.cell 1
        have HRd := Lib.hid (HA.out.to hGk.out.ext)
        clear hr
        cases hgo : gotF ns r with
        | none =>
          have hGet := Lib.hid (get_no A n c m d' B ns r wr r0 r1 HRd.out (gotF_none.1 hgo))
          have HE := Lib.hid (show visits ns (d + 1) met (refs.take (k + 1)) = mk by rw [hnx.out, visit_gone d mk hgo])
          clear hgo
          go_wp2_with fail
          refine hGet.out.mono ?_; rintro e w1 ⟨rfl, hx1⟩
          obtain ⟨w2, hw2⟩ : ∃ w2, w2 = w1.alloc (.cells (bare 0).arr 30) := ⟨_, rfl⟩
          obtain ⟨B2, hx2, hs2⟩ := box_made hw2
          have H2 := Lib.hid hw2
          have HX2 := Lib.hid (hx1.step hx2)
          clear hw2 B2 hs2 hx1 hx2 k0 k1
          go_wp2_with (first
            | (refine wpList_store_nd (W := w1) (by rfl) _ _ (by rfl) (by rfl) (bare 0) (by rfl) _ (by rfl) (by rfl) ?_; rw [← H2.out]))
          by_cases hnd : Node r
          · refine (Place_yes r _ r0 r1 hnd).mono ?_; rintro e w3 ⟨rfl, rfl⟩
            clear hnd
            go_wp2_with fail
            go_roundw
            case rel => exact ⟨k + 1, by omega, by go_num, Pk, qk, mk, Lib.hid HE.out.symm, Lib.hid (hGk.out.to HX2.out), Lib.hid (hK.out.ext HX2.out), hGr⟩
            case measure => simp [intOf]; omega
          · refine (Place_no r _ r0 r1 hnd).mono ?_; rintro e w3 ⟨rfl, rfl⟩
            clear hnd
            go_wp2_with fail
            go_roundw
            case rel => exact ⟨k + 1, by omega, by go_num, Pk, qk, mk, Lib.hid HE.out.symm, Lib.hid (hGk.out.to HX2.out), Lib.hid (hK.out.ext HX2.out), hGr⟩
            case measure => simp [intOf]; omega
        | some px =>
          obtain ⟨p, x⟩ := px
          have hg := gotF_some.1 hgo
          have hpn : p < n := by have := (List.getElem?_eq_some_iff.1 hg.at_).1; have := HNL.out; omega
          have hGet := Lib.hid (get_yes A n c m d' B ns r p x wr r0 r1 HRd.out hg)
          have HPl := Lib.hid (fun W => Place_yes r W r0 r1 hg.node)
          rw [show r % 65536 - 1 = (p : Int) by rw [hg.place]; omega] at HPl
          have HUk := Lib.hid (HOK.out x (List.mem_of_getElem? hg.at_))
          go_wp2_with fail
          refine hGet.out.mono ?_; rintro e w1 ⟨rfl, hx1⟩
          obtain ⟨w2, hw2⟩ : ∃ w2, w2 = w1.alloc (.cells x.arr 30) := ⟨_, rfl⟩
          obtain ⟨B2, hx2, hs2⟩ := box_made hw2
          have G2 := hGk.out.to (hx1.step hx2)
          have m0 : w2.cell? ⟨bm, 0, none⟩ = some (.slice (some ⟨g, 0, none⟩) n n) := G2.m.cell 0
          have gp := (G2.marks.cell p).trans ((Bs_get _ p).trans (congrArg _ (marks_get n mk hpn)))
          have gf := G2.marks.free p
          simp only [Option.map_some] at gp
          obtain ⟨t, ht⟩ : ∃ t, t = decide ((p : Int) ∈ mk) := ⟨_, rfl⟩
          rw [← ht] at gp
          have HT := Lib.hid ht
          have H2 := Lib.hid hw2
          have HX2 := Lib.hid (hx1.step hx2)
          have HG2 := Lib.hid G2
          have HB2 := Lib.hid B2
          have HS2 := Lib.hid hs2
          have hx1' := Lib.hid hx1
          have HGO := Lib.hid hgo
          clear hw2 B2 hs2 hx1 hx2 k0 k1 ht G2 hg hgo
          go_wp2_with (first
            | (refine wpList_store_nd (W := w1) (by rfl) _ _ (by rfl) (by rfl) x (by rfl) _ (by rfl) (by rfl) ?_; rw [← H2.out]))
          refine (HPl.out _).mono ?_; rintro e w3 ⟨rfl, rfl⟩
          cases t
          · have hnm := Lib.hid (show (p : Int) ∉ mk from of_decide_eq_false HT.out.symm)
            have HV := Lib.hid (show visits ns d (mk ++ [(p : Int)]) x.kids = visits ns (d + 1) met (refs.take (k + 1)) by rw [hnx.out, visit_new d mk HGO.out hnm.out])
            obtain ⟨w3, hw3⟩ : ∃ w3, w3 = w2.setCell ⟨g, p, none⟩ (.bool true) := ⟨_, rfl⟩
            obtain ⟨w4, hw4⟩ : ∃ w4, w4 = w3.alloc (.cells #[.int .i64 p] 3) := ⟨_, rfl⟩
            have O3 : Only g w2 w3 := by rw [hw3]; exact (Only.refl _ _).set _ _
            have M3 : Bx w3 g (Bs (marks n (mk ++ [(p : Int)]))) := by
              rw [hw3, ← marks_set n mk hpn]
              exact HG2.out.marks.set (by rw [Bs_size, marks_length]; exact hpn) _
            have P3 := O3.bx HG2.out.p (fun e => SP.out.pg e)
            have p0 : (w2.setCell ⟨g, p, none⟩ (.bool true)).cell? ⟨bp, 0, none⟩ = some (.slice Pk mk.length qk) := by rw [← hw3]; exact P3.cell 0
            obtain ⟨B4, hx4, hs4⟩ := box_made hw4
            have own3 := own_only HG2.out.own O3 (fun e => (HG2.out.apart _ e).2.2.2.2 rfl)
            have own4 := own_ext own3 hx4
            have hr4 : Rd w4 1 (some ⟨w3.heap.size, 0, none⟩) 1 (Ks .i64 [(p : Int)]) := by rw [hw4]; exact Rd.lit w3 #[.int .i64 (p : Int)] 3 1 rfl
            have e34 : w3.heap.size = w2.heap.size := by rw [hw3]; simp [World.setCell]
            rw [e34] at hr4
            have hmk40 : mk.length ≤ 1000 := by have := HMk.out.len; have := HNL.out; omega
            have hb4 : w0.heap.size ≤ w4.heap.size := Nat.le_trans HG2.out.ext.size (Nat.le_trans O3.size hx4.size)
            obtain ⟨i0, hi0, hz0, hz1, hz2⟩ := info_parts int_info
            have H3 := Lib.hid hw3
            have H4 := Lib.hid hw4
            have HF := Lib.hid (And.intro O3 (And.intro M3 (And.intro P3 hx4)))
            clear hw3 hw4 O3 M3 P3 B4 hx4 hs4 own3
            go_wp2_with
              (at_builtin
               rw [← H3.out, ← H4.out]
               refine wpList_append_rd _ rfl (.tmp 37) (.tmp 39) _ rfl w0.heap.size 3 i0 _ 1 8 Try.underlying23 hi0 hz0 hz1 hz2 rfl (by omega) (.slice Pk mk.length qk) mk.length (Ks .i64 mk) rfl own4 (some ⟨w2.heap.size, 0, none⟩) 1 1 (Ks .i64 [(p : Int)]) rfl hr4 (Ks_one _ _) (by simp only [maxLen]; omega) (by omega) hb4 ?_
               intro v1 w5 hown5 hg5 hat5
               obtain ⟨P5, q5, rfl⟩ := own_slice hown5
               obtain ⟨O3, M3, P3, hx4⟩ := HF.out
               have hnp : (Value.slice Pk mk.length qk).ownBlock ≠ some bp := fun e => (HG2.out.apart _ e).2.2.1 rfl
               have P5b := (P3.to hx4).grown hg5 hnp
               have z0 : w5.cell? ⟨bp, 0, none⟩ = some (.slice Pk mk.length qk) := P5b.cell 0
               have z1 : w5.frozen? ⟨bp, 0, none⟩ = false := P5b.free 0)
            obtain ⟨w6, hw6⟩ : ∃ w6, w6 = w5.setCell ⟨bp, 0, none⟩ (.slice P5 (mk.length + 1) q5) := ⟨_, rfl⟩
            have O6 : Only bp w5 w6 := by rw [hw6]; exact (Only.refl _ _).set _ _
            have hl : (mk ++ [(p : Int)]).length = mk.length + 1 := by simp
            have sp := SP.out
            have G2 := HG2.out
            have hwr : wr.heap.size ≤ w1.heap.size := hx1'.out.size
            have h21 := HS2.out
            have h24 : w2.heap.size ≤ w4.heap.size := Nat.le_trans O3.size hx4.size
            have hown2 := fun k hk => (hGk.out.own.lt k hk).2
            have K26 : Keep3 w2 w6 g bp (Value.slice Pk mk.length qk).ownBlock := (((Keep3.of_g O3 bp _).ext hx4).trans (Keep3.of_grown hg5 g bp) (Grew.refl _ _)).trans (Keep3.of_p O6 g _) (Grew.refl _ _)
            have la := G2.a.lt
            have lm := G2.m.lt
            have lp := G2.p.lt
            have lf := G2.f.lt
            have lg := hGk.out.marks.lt
            have lp' := hGk.out.p.lt
            have ap5 : ∀ k, (Value.slice P5 (mk.length + 1) q5).ownBlock = some k → k ≠ ba ∧ k ≠ bm ∧ k ≠ bp ∧ k ≠ bg ∧ k ≠ g := fun k hk => by
              rcases hat5 with e | e
              · exact G2.apart k (by rw [← e]; exact hk)
              · rw [e] at hk
                injection hk with hk
                exact ⟨by omega, by omega, by omega, by omega, by omega⟩
            have G6 : Ga w0 #[.slice A n c, .slice B m d'] n ba bm bp bg g w6 P5 q5 (mk ++ [(p : Int)]) := by
              refine ⟨G2.a.keep K26 sp.ga.symm sp.pa.symm (fun e => (G2.apart _ e).1 rfl), G2.m.keep K26 sp.gm.symm sp.pm.symm (fun e => (G2.apart _ e).2.1 rfl), ?_, G2.f.keep K26 sp.gf.symm sp.pf.symm (fun e => (G2.apart _ e).2.2.2.1 rfl), O6.bx ((M3.to hx4).grown hg5 (fun e => (G2.apart _ e).2.2.2.2 rfl)) sp.pg.symm, ?_, ?_, K26.old G2.ext sp.gb sp.pb (fun k hk => (G2.own.lt k hk).1)⟩
              · rw [hl, hw6]
                exact P5b.set (j := 0) (by simp) _
              · rw [hl, show Ks .i64 (mk ++ [(p : Int)]) = Ks .i64 mk ++ Ks .i64 [(p : Int)] by simp [Ks]]
                exact own_only hown5 O6 (fun e => (ap5 _ e).2.2.1 rfl)
              · rw [hl]
                exact ap5
            have hM6 := HMk.out.snoc HGO.out hnm.out
            have hlt6 : n < d + (mk ++ [(p : Int)]).length := by rw [hl]; have := HLT.out; have := HLk.out; omega
            have B6n := HB2.out.keep K26 (fun e => by omega) (fun e => by omega) (fun e => by have := hown2 _ e; omega)
            have o5 : (Value.slice P5 (mk.length + 1) q5).ownBlock ≠ some w1.heap.size := fun e => by
              rcases hat5 with e' | e'
              · rw [e'] at e; have := hown2 _ e; omega
              · rw [e'] at e; injection e with e; omega
            have HIw := Lib.hid (fun (Wd : World) (hx : Ext w6 Wd) => IH.out Wd P5 q5 (mk ++ [(p : Int)]) (some ⟨w1.heap.size, 5, none⟩) 9 9 x.kids (G6.to hx) hM6 hlt6 (by omega) HUk.out (fun W' hW' => by
              rw [hl] at hW'
              exact ((B6n.to hx).keep hW' (fun e => by omega) (fun e => by omega) o5).kids))
            have K06 : Keep3 W w6 g bp o := (hK.out.ext HX2.out).trans K26 hGr.out
            have Gr5 : Grew W o (Value.slice P5 (mk.length + 1) q5).ownBlock := by
              rcases hat5 with e' | e'
              · rw [e']; exact hGr.out
              · refine .inr fun k hk => ?_
                rw [e'] at hk
                injection hk with hk
                have := hK.out.size
                omega
            have HK06 := Lib.hid K06
            have HGr5 := Lib.hid Gr5
            have H6 := Lib.hid hw6
            have f0 : w6.cell? ⟨bg, 0, none⟩ = some (.func (.func 31) #[] #[.pointer (some ⟨ba, 0, none⟩), .pointer (some ⟨bm, 0, none⟩), .pointer (some ⟨bp, 0, none⟩), .pointer (some ⟨bg, 0, none⟩)]) := G6.f.cell 0
            rw [← hw6]
            clear hw6 O6 sp G2 hwr h21 h24 hown2 K26 la lm lp lf lg lp' ap5 G6 hM6 hlt6 B6n o5 K06 Gr5 z0 z1 P5b hnp hx4 P3 M3 O3 hat5 hown5 hg5 hr4 own4 hb4 p0 gp gf m0
            go_region_with (first
              | (refine (HIw.out _ ?_).mono ?_
                 · repeat (first | exact Ext.refl _ | with_reducible refine Ext.drew ?_)
                 rintro e w9 ⟨rfl, P9, q9, hG9, hK9, hGr9⟩))
            all_goals go_wp2_with fail
            all_goals
              rw [hl] at hK9 hGr9
              have Kd := HK06.out.ext ((Ext.refl _).drew)
              exact ⟨⟨k + 1, by omega, by go_num, P9, q9, _, HV, Lib.hid hG9, Lib.hid (Kd.trans hK9 HGr5.out), Lib.hid (HGr5.out.trans hGr9 Kd.size)⟩, by simp [intOf]; omega⟩
          · have HE := Lib.hid (show visits ns (d + 1) met (refs.take (k + 1)) = mk by rw [hnx.out, visit_met d mk HGO.out (of_decide_eq_true HT.out.symm)])
            go_wp2_with fail
            go_roundw
            case rel => exact ⟨k + 1, by omega, by go_num, Pk, qk, mk, Lib.hid HE.out.symm, HG2, Lib.hid (hK.out.ext HX2.out), hGr⟩
            case measure => simp [intOf]; omega
      · have hT : refs.take k = refs := List.take_of_length_le (by have := HRL.out; omega)
        rw [hT] at hmk
        clear hT
        go_wp2_with fail
        go_end0
        have e := hmk.out
        subst e
        exact ⟨rfl, Pk, qk, hGk.out, hK.out, hGr.out⟩

end Go.Proofs.Ytmfpgbiicncpcaa
