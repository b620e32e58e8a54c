/-
  Contract of package span: Walk, with a function that collects until it is enough.
-/
import Derived.Test.YthgaogbpkedjcaaSpAns
import Derived.Test.YthgaogbpkedjcaaSpAll
set_option linter.unusedVariables false
set_option linter.unusedSimpArgs false
namespace Go.Proofs.Ythgaogbpkedjcaa
open Go.RowKit

attribute [local go_sem] Oper.semAt_some

theorem fneq_in (d : Nat) (w : World) (fn : Fn) (fi ca : Array Value) : (Op.equalIn (d + 2) 41 (.func fn fi ca) .nilFunc).run Try.prog w = .ok false w := by
  simp [Op.equalIn, run_underlying Try.underlying41]
theorem fneq (w : World) (fn : Fn) (fi ca : Array Value) : (binOp .eql 41 (.func fn fi ca) .nilFunc).run Try.prog w = .ok (.bool false) w := by
  simp only [binOp]
  simp [Op.equal, Op.maxDepth, fneq_in 9998]

set_option maxHeartbeats 1000000 in
theorem walk_arg (A B : Option Addr) (n m c d : Nat) (ns : List Nd) (fs : List Int) (r : Int) (F : Nat) (caps : Array Value) (w : World) (h : Ar w A n B m ns fs) (hn : n ≤ 1000) (hm : m ≤ 1000) (hU : U r) (hno : ¬ (ArMay ns fs ∧ MapAt ns r)) :
    Calls Try.prog 11 #[.agg #[.slice A n c, .slice B m d], .int .u64 r, .func (.func F) #[] caps] w (IntE 0 1 w) := by
  obtain ⟨w1, hw1⟩ : ∃ w1, w1 = w.alloc (.cells #[.slice A n c, .slice B m d] 25) := ⟨_, rfl⟩
  obtain ⟨w2, hw2⟩ : ∃ w2, w2 = w1.alloc (.cells #[.func (.func F) #[] caps] 41) := ⟨_, rfl⟩
  obtain ⟨B1, hx1, hs1⟩ := box_made hw1
  obtain ⟨B2, hx2, hs2⟩ := box_made hw2
  have HR := Lib.hid (trRight_is A B n m c d ns fs r w2 (h.to (hx1.step hx2)) hn hm hU false (by simp [hno]))
  have k0 : w2.cell? ⟨w.heap.size, 0, none⟩ = some (.slice A n c) := (B1.to hx2).cell 0
  have k1 : w2.cell? ⟨w.heap.size, 1, none⟩ = some (.slice B m d) := (B1.to hx2).cell 1
  have H1 := Lib.hid hw1
  have H2 := Lib.hid hw2
  have X2 := Lib.hid (hx1.step hx2)
  clear hw1 hw2 B1 B2 hx1 hx2 hs1 hs2 h hno
  go_enter Try.func11, Try.ntmps11
  go_wp2_with fail
  rw [← H1.out, ← H2.out]
  go_wp2_with fail
  refine HR.out.mono ?_; rintro e w3 ⟨rfl, hx3⟩
  have X3 := Lib.hid (X2.out.step hx3)
  clear hx3
  go_wp2_with fail
  go_ret2
  exact ⟨rfl, X3.out⟩

/-- Until how many it is enough. -/
def stopAt (enough : Int) : Nat := (max enough 1).toNat
/-- What Walk answers, to a function that collects. -/
def WalkA (G : Nat) (l : Row) (w : World) (e : Ending) (w' : World) : Prop := e = .returned (.tuple #[.int .i64 (l.length : Int), .int .i64 0]) ∧ ∃ v, Boxed w' G 31 v ∧ RdR w' v l ∧ Kx (fun b _ => b = G) w w'

theorem w64q (z : Int) (h1 : 0 ≤ z) (h2 : z ≤ 1000) : wrap64 z = z := by unfold wrap64; omega
theorem lk_own {β : Type} (t : TypeId) (b : Nat) (f : β → Array Value) : Own (fun s W => Lk t W b (f s)) := fun s X Y row hs hg hrow =>
  (hg.block b hs.lt (fun e => by
    obtain ⟨o, ho, hc⟩ := hrow b e.symm
    rw [show X.heap[b]? = _ from hs] at ho
    cases ho
    cases hc)).trans hs

/-- Behind the loop. -/
theorem walk_end {w w7 W : World} {G D : Nat} {S : Nat → Prop} {pre : Row} (hx : Ext w w7) (hK : Kx (Xo S w7.heap.size) w7 W) (hG : Got1 w7.heap.size G pre W) (hS : ∀ b, S b → w.heap.size ≤ b ∨ b = G) (hD : w7.heap.size ≤ D) (hDe : W.heap[D]? = some (.deferred (some []))) :
    ∃ v, Boxed (W.putObj D (.deferred none)) G 31 v ∧ RdR (W.putObj D (.deferred none)) v pre ∧ Kx (fun b _ => b = G) w (W.putObj D (.deferred none)) := by
  obtain ⟨v, hv, hrow, hnil⟩ := hG
  have hk : Kx (fun b _ => b = G) w W := ⟨hK.os.trans hx.os, hK.tape.trans hx.tape, hK.output.trans hx.output, Nat.le_trans hx.size hK.size, fun b o hb hn => by
    have hlt := (Array.getElem?_eq_some_iff.1 hb).1
    have h7 := (hx.block b hlt).trans hb
    exact hK.block b o h7 (fun e => by
      rcases e with e | ⟨e, _⟩
      · rcases hS b e with h | h
        · omega
        · exact hn h
      · have := hx.size; omega)⟩
  have hg := grownBy_putObj' W D (.deferred none)
  refine ⟨v, hv.kept hg (fun e => ?_), RdR.own (ownsRow_putObj hrow (.deferred none) hDe rfl), ⟨hg.os.trans hk.os, hg.tape.trans hk.tape, hg.output.trans hk.output, Nat.le_trans hk.size hg.size, fun b o hb hn => ?_⟩⟩
  · injection e with e
    have hv' : W.heap[G]? = _ := hv
    rw [e, hDe] at hv'
    cases hv'
  · have hlt := (Array.getElem?_eq_some_iff.1 hb).1
    have h1 := hk.block b o hb hn
    exact (hg.block b (Array.getElem?_eq_some_iff.1 h1).1 (fun e => by injection e with e; have := hx.size; omega)).trans h1

set_option maxHeartbeats 6400000 in
set_option maxRecDepth 100000 in
theorem walk_is (F G E : Nat) (enough : Int) (hcf : ∀ (args : Array Value) (w : World), (callFunc F args).run Try.prog w = .ok (.enter F args) w)
    (htake : ∀ (n0 : Nat) (pre : Row) (x : Int × Int) (W : World), Got1 n0 G pre W → Lk 3 W E #[.int .i64 enough] → G ≠ E → n0 ≤ W.heap.size → pre.length ≤ 999 →
      Calls Try.prog F #[itv x, .pointer (some ⟨G, 0, none⟩), .pointer (some ⟨E, 0, none⟩)] W fun e W' => e = .returned (.bool (decide ((pre.length : Int) + 1 < enough))) ∧ Got1 n0 G (pre ++ [x]) W' ∧ Kx (Xc (fun b => b = G) n0) W W')
    (A B : Option Addr) (n m c d : Nat) (ns : List Nd) (fs : List Int) (z : Int) (l : Row) (w : World) (h : Av w A n B m ns fs) (hM : MapV ns z l) (hrow : ∀ x ∈ l, -9223372036854775808 ≤ x.1 ∧ x.1 ≤ 9223372036854775807)
    (hG : Boxed w G 31 (.slice none 0 0)) (hE : Lk 3 w E #[.int .i64 enough]) :
    Calls Try.prog 11 #[.agg #[.slice A n c, .slice B m d], .int .u64 z, .func (.func F) #[] #[.pointer (some ⟨G, 0, none⟩), .pointer (some ⟨E, 0, none⟩)]] w (WalkA G (l.take (stopAt enough)) w) := by
  obtain ⟨w1, hw1⟩ : ∃ w1, w1 = w.alloc (.cells #[.slice A n c, .slice B m d] 25) := ⟨_, rfl⟩
  obtain ⟨w2, hw2⟩ : ∃ w2, w2 = w1.alloc (.cells #[.func (.func F) #[] #[.pointer (some ⟨G, 0, none⟩), .pointer (some ⟨E, 0, none⟩)]] 41) := ⟨_, rfl⟩
  obtain ⟨B1, hx1, hs1⟩ := box_made hw1
  obtain ⟨B2, hx2, hs2⟩ := box_made hw2
  rw [hs1] at B2
  have L2 : Lk 41 w2 (w.heap.size + 1) #[.func (.func F) #[] #[.pointer (some ⟨G, 0, none⟩), .pointer (some ⟨E, 0, none⟩)]] := by rw [hw2, ← hs1]; exact Lk.new _ _ _
  have X2 := Lib.hid (hx1.step hx2)
  have HL2 := Lib.hid L2
  have HB1 := Lib.hid (B1.to hx2)
  have HR := Lib.hid (show Calls Try.prog 23 #[.agg #[.slice A n c, .slice B m d], .int .u64 z] w2 (fun e w' => e = .returned (.bool true) ∧ Ext w2 w') from by
    obtain ⟨t, h1, h2, _, h3⟩ := hM
    exact trRight_is A B n m c d ns fs z w2 (h.ar.to X2.out) h.n1 h.m1 h3 true (by simp only [true_iff]; exact ⟨h.may, t, h1, h2⟩))
  have hn0 : 0 < n := by have h1 := h.may.pos; have h2 := h.ar.len; omega
  have HCl := Lib.hid (fun W (hW : Ext w W) => clone_nodes A n c ns W (h.to hW).ar.nodes h.n1 hn0)
  have heq := fneq
  have H1 := Lib.hid hw1
  have H2 := Lib.hid hw2
  have HM := Lib.hid hM
  have HH := Lib.hid h
  have HGG := Lib.hid hG
  have HEE := Lib.hid hE
  have HT := Lib.hid htake
  have Hrow := Lib.hid hrow
  have k0 : w2.cell? ⟨w.heap.size, 0, none⟩ = some (.slice A n c) := HB1.out.cell 0
  have k1 : w2.cell? ⟨w.heap.size, 1, none⟩ = some (.slice B m d) := HB1.out.cell 1
  clear hw1 hw2 B1 B2 hx1 hx2 hs1 hs2 h hM L2 hG hE htake hrow hn0
  refine (callsIn_wide (n := 6)).1 ?_
  refine callsIn_of_wp_marks Try.func11 rfl trivial ?_ rfl
  simp only [Try.ntmps11, List.size_toArray, List.length_cons, List.length_nil, Nat.reduceAdd, Nat.reduceSub, Array.replicate_succ, Array.replicate_zero, List.push_toArray, List.append_toArray, List.nil_append, List.cons_append]
  refine wpIn_wide.2 ?_
  go_wp2_with fail
  rw [← H1.out, ← H2.out]
  go_wp2_with fail
  refine HR.out.mono ?_; rintro e w3 ⟨rfl, hx3⟩
  have X3 := Lib.hid (X2.out.step hx3)
  have HB3 := Lib.hid (HB1.out.to hx3)
  have HL3 := Lib.hid (HL2.out.to hx3)
  have k0 : w3.cell? ⟨w.heap.size, 0, none⟩ = some (.slice A n c) := HB3.out.cell 0
  have k1 : w3.cell? ⟨w.heap.size, 1, none⟩ = some (.slice B m d) := HB3.out.cell 1
  have k2 : w3.cell? ⟨w.heap.size + 1, 0, none⟩ = some (.func (.func F) #[] #[.pointer (some ⟨G, 0, none⟩), .pointer (some ⟨E, 0, none⟩)]) := HL3.out.cell 0
  have HC3 := Lib.hid (HCl.out w3 X3.out)
  clear hx3
  go_wp2_with fail
  refine HC3.out.mono ?_
  rintro e w4 ⟨g, c', rfl, hg, hO, hx4⟩
  have HB4 := Lib.hid (HB3.out.to hx4)
  have HL4 := Lib.hid (HL3.out.to hx4)
  have X4 := Lib.hid (X3.out.step hx4)
  have k0 : w4.cell? ⟨w.heap.size, 0, none⟩ = some (.slice A n c) := HB4.out.cell 0
  have k1 : w4.cell? ⟨w.heap.size, 1, none⟩ = some (.slice B m d) := HB4.out.cell 1
  have f0 := HB4.out.free 0
  have f1 := HB4.out.free 1
  have HO := Lib.hid hO
  have Hg := Lib.hid (show w.heap.size + 1 < g by have := HL3.out.lt; omega)
  clear hO hg hx4 HC3 HCl
  go_upto_region 6 with fail
  obtain ⟨w5, hw5⟩ : ∃ w5, w5 = w4.setCell ⟨w.heap.size, 0, none⟩ (.slice (some ⟨g, 0, none⟩) n c') := ⟨_, rfl⟩
  have o5 : Only w.heap.size w4 w5 := by rw [hw5]; exact (Only.refl _ _).set 0 _
  have HB5 := Lib.hid (show Bx w5 w.heap.size #[.slice (some ⟨g, 0, none⟩) n c', .slice B m d] by rw [hw5]; exact HB4.out.set (j := 0) (by simp) _)
  have HO5 := Lib.hid (HO.out.only o5 (by have := Hg.out; omega))
  have X5 := Lib.hid (o5.new X4.out (Nat.le_refl _))
  have HL5 := Lib.hid (show Lk 41 w5 (w.heap.size + 1) #[.func (.func F) #[] #[.pointer (some ⟨G, 0, none⟩), .pointer (some ⟨E, 0, none⟩)]] from (o5.block _ HL4.out.lt (fun e => by injection e with e; omega)).trans HL4.out)
  have H5 := Lib.hid hw5
  clear hw5 o5 k0 k1 f0 f1
  rw [← H5.out]
  obtain ⟨w6, hw6⟩ : ∃ w6, w6 = w5.alloc (.cells #[.int .i64 0] 3) := ⟨_, rfl⟩
  obtain ⟨bn, hbn⟩ : ∃ b, b = w5.heap.size := ⟨_, rfl⟩
  have L6 : Lk 3 w6 bn #[.int .i64 0] := by rw [hw6, hbn]; exact Lk.new _ _ _
  obtain ⟨_, hx6, hs6⟩ := box_made hw6
  have HL6 := Lib.hid L6
  have HF6 := Lib.hid (HL5.out.to hx6)
  have X6 := Lib.hid (X5.out.step hx6)
  have HB6 := Lib.hid (HB5.out.to hx6)
  have HO6 := Lib.hid (HO5.out.to hx6)
  have HN := Lib.hid (show w.heap.size + 1 < bn ∧ g < bn ∧ bn < w6.heap.size by have h1 := HL5.out.lt; have h2 := HO5.out.lt; omega)
  have H6 := Lib.hid hw6
  have Hbn := Lib.hid hbn
  clear hw6 hx6 hs6 L6 hbn
  go_upto_region 7 with fail
  rw [← H6.out, ← Hbn.out]
  have k0 : w6.cell? ⟨w.heap.size, 0, none⟩ = some (.slice (some ⟨g, 0, none⟩) n c') := HB6.out.cell 0
  have k1 : w6.cell? ⟨w.heap.size, 1, none⟩ = some (.slice B m d) := HB6.out.cell 1
  go_wp2_with fail
  refine (between_is (some ⟨g, 0, none⟩) B n m c' d z (-9223372036854775808) 9223372036854775807 w6).mono ?_
  rintro e w7 ⟨b4, b5, b6, b7, rfl, h4, h5, h6, h7, hx7⟩
  obtain ⟨t, hMt, rfl, rfl, hUt⟩ := HM.out
  have HRd := Lib.hid ((HO6.out.to hx7).rd HH.out.ar.len)
  have HF7 := Lib.hid (HF6.out.to hx7)
  have HL7 := Lib.hid (HL6.out.to hx7)
  have X7 := Lib.hid (X6.out.step hx7)
  have HE7 := Lib.hid (HEE.out.to X7.out)
  have HG7 := Lib.hid (show Boxed w7 G 31 (.slice none 0 0) from (X7.out.block G HGG.out.lt).trans HGG.out)
  have HNS := Lib.hid (show bn < w7.heap.size ∧ G < w.heap.size ∧ E < w.heap.size ∧ w.heap.size + 1 < bn ∧ g < bn from ⟨HL7.out.lt, HGG.out.lt, HEE.out.lt, HN.out.1, HN.out.2.1⟩)
  have hlen : t.row.length ≤ 200 := by rw [T.row_length]; exact hMt.le
  have hall : inn t.row (-9223372036854775808) 9223372036854775807 = t.row := inn_all Hrow.out
  have hseq := between_stops (A := some ⟨g, 0, none⟩) (B := B) (n := n) (c := c') (m := m) (d := d) (ns := ns) (t := t) (low := -9223372036854775808) (high := 9223372036854775807) w7 5
    (keeps_kx (S := fun b => b = bn ∨ b = G) (fun b e => by have h := HNS.out; rcases e with e | e <;> omega) HRd.out (fun q j u hq hu e => by
      injection hq with hq
      subst hq
      have h := HNS.out
      simp only at e
      have h2 := Hg.out
      rcases e with e | e <;> omega)) HH.out.ar.ok hMt.rep hMt.srt hUt HRd.out h4 h5 h6 h7
  rw [hall] at hseq
  have HSeq := Lib.hid hseq
  have Hlen := Lib.hid hlen
  clear hseq hlen hall h4 h5 h6 h7 hx7 k0 k1 hMt hUt HM HH HR HB1 HL2 HB3 HL3 HB4 HL4 HB5 HL5 HB6 HF6 HL6 HO HO5 HO6 X2 X3 X4 X5 X6 H1 H2 H5 H6 HN Hbn HEE HGG Hrow
  go_wp2_with fail
  refine (wpIn_wide (n := 6)).1 ?_
  have gi0 : Got1 w7.heap.size G [] w7 := ⟨_, HG7.out, World.ownsRow_nil _ _ _ _, by simp⟩
  have HK1 := Lib.hid (show 0 < stopAt enough by unfold stopAt; omega)
  refine wpIn_rangeFunc_ownH rfl (by omega) (gf := 46) (lb := #[.pointer (some ⟨b4, 0, none⟩), .pointer (some ⟨b5, 0, none⟩), .pointer (some ⟨b6, 0, none⟩), .pointer (some ⟨b7, 0, none⟩)]) rfl trivial cfBetween HSeq.out (fun h k => h.trans k) (fun W l o o' hl h hc _ => kx_put W l o o' hl h hc) (Below.refl _ _) (fun _ => rfl)
    (fun pre W => (Got1 w7.heap.size G pre W ∧ Lk 3 W bn #[.int .i64 (pre.length : Int)]) ∧ Kx (Xo (fun b => b = bn ∨ b = G) w7.heap.size) w7 W ∧ pre.length < stopAt enough)
    (fun cc pre W => ((Got1 w7.heap.size G pre W ∧ Lk 3 W bn #[.int .i64 (pre.length : Int)]) ∧ Kx (Xo (fun b => b = bn ∨ b = G) w7.heap.size) w7 W) ∧ cc = .exit 0 ∧ pre.length = stopAt enough)
    (OwnFrom.and (OwnFrom.and (Own.from (got1_own _ _) _) (Own.from (lk_own _ _ (fun pre : Row => #[.int .i64 (pre.length : Int)])) _)) (OwnFrom.and (kx_own (Nat.le_refl _) _) (ownFrom_pure _ (fun pre : Row => pre.length < stopAt enough))))
    (fun cc => OwnFrom.and (OwnFrom.and (OwnFrom.and (Own.from (got1_own _ _) _) (Own.from (lk_own _ _ (fun pre : Row => #[.int .i64 (pre.length : Int)])) _)) (kx_own (Nat.le_refl _) _)) (ownFrom_pure _ (fun pre : Row => cc = .exit 0 ∧ pre.length = stopAt enough)))
    ⟨⟨gi0, HL7.out⟩, Kx.refl _ _, HK1.out⟩
    (fun x a' W => ∃ Bx, w7.heap.size ≤ Bx ∧ Lk 40 W Bx #[.int .i64 x.1, .int .i64 x.2] ∧ a' = { tmps := #[.agg #[.slice A n c, .slice B m d], .int .u64 t.ref, .func (.func F) #[] #[.pointer (some ⟨G, 0, none⟩), .pointer (some ⟨E, 0, none⟩)], .pointer (some ⟨w.heap.size, 0, none⟩), undef, .pointer (some ⟨w.heap.size + 1, 0, none⟩), .int .i64 0, .int .i64 0, .pointer (some ⟨bn, 0, none⟩), .pointer (some ⟨Bx, 0, none⟩), .agg #[.slice A n c, .slice B m d], .int .u64 t.ref, .bool true, .bool false, .func (.func F) #[] #[.pointer (some ⟨G, 0, none⟩), .pointer (some ⟨E, 0, none⟩)], .bool false, .pointer (some ⟨w.heap.size, 0, none⟩), .slice A n c, .slice (some ⟨g, 0, none⟩) n c', .pointer (some ⟨w.heap.size, 0, none⟩), .agg #[.slice (some ⟨g, 0, none⟩) n c', .slice B m d], .int .u64 t.ref, .func (.func 46) #[] #[.pointer (some ⟨b4, 0, none⟩), .pointer (some ⟨b5, 0, none⟩), .pointer (some ⟨b6, 0, none⟩), .pointer (some ⟨b7, 0, none⟩)], itv x, undef, undef, undef, undef, undef, undef, undef], defers := [] })
    (fun x a' _ X Y row hs hg hr => by
      obtain ⟨Bx, h1, h2, h3⟩ := hs
      refine ⟨Bx, h1, (hg.block Bx h2.lt fun e => ?_).trans h2, h3⟩
      obtain ⟨_, o, ho, hc⟩ := hr Bx e.symm
      rw [show X.heap[Bx]? = _ from h2] at ho
      cases ho
      cases hc)
    ?assign ?body ?done ?stop
  case assign =>
    rintro lp pre x W K ⟨⟨hG, hL⟩, hK, hlt⟩ hk
    have hsW : w7.heap.size ≤ W.heap.size := hK.size
    gi_wp2
    exact hk _ _ ((KeepsOthers.alloc _ _).from _) (Kx.of_ext ((Ext.refl W).new _)) ⟨⟨(Own.from (got1_own _ _) 0).alloc _ hG, hL.to ((Ext.refl W).new _)⟩, hK.trans (Kx.of_ext ((Ext.refl W).new _)), hlt⟩ ⟨W.heap.size, hsW, Lk.new _ _ _, rfl⟩
  case body =>
    rintro lp pre x a' W hl ⟨r, hr⟩ ⟨⟨hG, hL⟩, hK, hlt⟩ ⟨Bx, hBx, hLx, rfl⟩ hltN
    have hns := HNS.out
    have hG0 := HG7.out.lt
    have n1 : ¬ bn = w.heap.size + 1 := by omega
    have n2 : ¬ w.heap.size + 1 = bn := by omega
    have n3 : ¬ bn = Bx := by omega
    have n4 : ¬ Bx = bn := by omega
    have nGE : G ≠ E := fun e => by
      subst e
      have h1 : Boxed w7 G 31 (.slice none 0 0) := HG7.out
      have h2 : Lk 3 w7 G #[.int .i64 enough] := HE7.out
      unfold Boxed at h1
      unfold Lk at h2
      rw [h1] at h2
      cases h2
    have LF : Lk 41 W (w.heap.size + 1) #[.func (.func F) #[] #[.pointer (some ⟨G, 0, none⟩), .pointer (some ⟨E, 0, none⟩)]] := hK.block _ _ HF7.out (fun e => by
      rcases e with (e | e) | ⟨_, ⟨cs, p, e⟩ | e⟩
      · omega
      · omega
      · injection e with _ e2; exact absurd e2 (by decide)
      · cases e)
    have LE : Lk 3 W E #[.int .i64 enough] := hK.block _ _ HE7.out (fun e => by
      rcases e with (e | e) | ⟨_, ⟨cs, p, e⟩ | e⟩
      · omega
      · exact nGE e.symm
      · injection e with _ e2; exact absurd e2 (by decide)
      · cases e)
    have hl999 : pre.length ≤ 999 := by have h1 := Hlen.out; omega
    have hbG : ∀ b, b = bn ∨ b = G → b < w7.heap.size := fun b e => by rcases e with e | e <;> omega
    have hbn : ¬ bn = G := by omega
    have hEb : ¬ E = bn := by omega
    have hw : wrap64 ((pre.length : Int) + 1) = (pre.length : Int) + 1 := by
      have h1 := Hlen.out
      exact w64q _ (by omega) (by omega)
    obtain ⟨W2, hW2⟩ : ∃ W2, W2 = W.setCell ⟨bn, 0, none⟩ (.int .i64 ((pre.length : Int) + 1)) := ⟨_, rfl⟩
    have L2 : Lk 3 W2 bn #[.int .i64 ((pre.length : Int) + 1)] := by rw [hW2]; exact Boxed.set (t := 3) _ hL
    have hk2 : Kx (Xc (fun b => b = bn ∨ b = G) w7.heap.size) W W2 := by
      rw [hW2]
      exact Kx.of_grown (grownBy_setCell' W bn _) (fun b o e h => by cases e; exact .inl (.inl rfl))
    have G2 : Got1 w7.heap.size G pre W2 := by
      rw [hW2]
      obtain ⟨v, hv, hrow, hnil⟩ := hG
      exact ⟨v, hv.other (fun e => hbn e.symm) _, hrow.kept (grownBy_setCell' W bn _) (.inr (Boxed.not_row (t := 3) hL (by decide) hrow).symm), hnil⟩
    have E2 : Lk 3 W2 E #[.int .i64 enough] := hk2.block _ _ LE (fun e => by
      rcases e with (e | e) | ⟨_, cs, p, e⟩
      · exact hEb e
      · exact nGE e.symm
      · injection e with _ e2; exact absurd e2 (by decide))
    obtain ⟨W3, hW3⟩ : ∃ W3, W3 = W2.alloc (.cells #[.int .i64 x.1, .int .i64 x.2] 40) := ⟨_, rfl⟩
    obtain ⟨_, hx3, hs3⟩ := box_made hW3
    have G3 : Got1 w7.heap.size G pre W3 := by rw [hW3]; exact (Own.from (got1_own _ _) 0).alloc _ G2
    have hsz3 : w7.heap.size ≤ W3.heap.size := Nat.le_trans hK.size (Nat.le_trans hk2.size hx3.size)
    have HTK := Lib.hid (answerOf_is F #[.pointer (some ⟨G, 0, none⟩), .pointer (some ⟨E, 0, none⟩)] x (decide ((pre.length : Int) + 1 < enough)) (fun W4 => Got1 w7.heap.size G (pre ++ [x]) W4 ∧ Kx (Xc (fun b => b = G) w7.heap.size) W3 W4) W2 hcf (by
      rw [← hW3]
      exact HT.out _ pre x W3 G3 (E2.to hx3) nGE hsz3 hl999))
    have HFin := Lib.hid (fun W4 (h : Got1 w7.heap.size G (pre ++ [x]) W4 ∧ Kx (Xc (fun b => b = G) w7.heap.size) W3 W4) => (show (Got1 w7.heap.size G (pre ++ [x]) W4 ∧ Lk 3 W4 bn #[.int .i64 ((pre ++ [x]).length : Int)]) ∧ Kx (Xo (fun b => b = bn ∨ b = G) w7.heap.size) w7 W4 ∧ KeepsFrom w7.heap.size W W4 ∧ Kx (Xo (fun b => b = bn ∨ b = G) w7.heap.size) W W4 from by
      have hk4 : Kx (Xc (fun b => b = bn ∨ b = G) w7.heap.size) W W4 := hk2.trans ((Kx.of_ext hx3).trans (h.2.mono (fun b o e => e.imp (fun e => .inr e) id)))
      refine ⟨⟨h.1, ?_⟩, hK.trans (hk4.mono (fun b o e => e.xo)), hk4.from hbG, hk4.mono (fun b o e => e.xo)⟩
      have := h.2.block _ _ (L2.to hx3) (fun e => by
        rcases e with e | ⟨_, cs, p, e⟩
        · exact hbn e
        · injection e with _ e2; exact absurd e2 (by decide))
      rw [List.length_append, List.length_singleton]
      exact this))
    have c0 : W.cell? ⟨bn, 0, none⟩ = some (.int .i64 (pre.length : Int)) := hL.cell 0
    have cf : W.frozen? ⟨bn, 0, none⟩ = false := Boxed.frozen (t := 3) hL
    have c1 : W.cell? ⟨w.heap.size + 1, 0, none⟩ = some (.func (.func F) #[] #[.pointer (some ⟨G, 0, none⟩), .pointer (some ⟨E, 0, none⟩)]) := LF.cell 0
    have c2 : W.cell? ⟨Bx, 0, none⟩ = some (.int .i64 x.1) := hLx.cell 0
    have c3 : W.cell? ⟨Bx, 1, none⟩ = some (.int .i64 x.2) := hLx.cell 1
    have HLT := Lib.hid hlt
    have HW := Lib.hid hw
    have HW2 := Lib.hid hW2
    clear hw hW2 L2 hk2 G2 E2 hW3 hx3 hs3 G3 hsz3 hG hL hK hlt LF LE hLx hl hr hltN hns hG0 nGE hl999 hbG hbn hEb
    gi_wp2
    rw [HW.out, ← HW2.out]
    refine ⟨trivial, ?_⟩
    refine (CallsIn.inRound lp (callsIn_wide.2 HTK.out)).mono ?_
    rintro e W4 ⟨rfl, hR⟩
    obtain ⟨h1, h2, h3, h4⟩ := HFin.out W4 hR
    have HD := Lib.hid (show (Got1 w7.heap.size G (pre ++ [x]) W4 ∧ Lk 3 W4 bn #[.int .i64 ((pre ++ [x]).length : Int)]) ∧ Kx (Xo (fun b => b = bn ∨ b = G) w7.heap.size) w7 W4 ∧ KeepsFrom w7.heap.size W W4 ∧ Kx (Xo (fun b => b = bn ∨ b = G) w7.heap.size) W W4 from ⟨h1, h2, h3, h4⟩)
    clear h1 h2 h3 h4 hR HTK HFin c0 cf c1 c2 c3 n1 n2 n3 n4
    by_cases hgo : (pre.length : Int) + 1 < enough
    · have hd : decide ((pre.length : Int) + 1 < enough) = true := decide_eq_true hgo
      rw [hd]
      have HS := Lib.hid (show (pre ++ [x]).length < stopAt enough by rw [List.length_append, List.length_singleton]; unfold stopAt; omega)
      clear hd hgo
      gi_wp2
      exact ⟨HD.out.2.2.1, HD.out.2.2.2, HD.out.1, HD.out.2.1, HS.out⟩
    · have hd : decide ((pre.length : Int) + 1 < enough) = false := decide_eq_false hgo
      rw [hd]
      have HS := Lib.hid (show (pre ++ [x]).length = stopAt enough by have h1 := HLT.out; rw [List.length_append, List.length_singleton]; unfold stopAt at *; omega)
      clear hd hgo
      gi_wp2
      exact ⟨HD.out.2.2.1, ⟨HD.out.1, HD.out.2.1⟩, rfl, HS.out⟩
  case done =>
    rintro D ss W hD rfl ⟨⟨hG, hL⟩, hK, hlt⟩ hDe
    have HFin := Lib.hid (walk_end X7.out hK hG (fun b e => by have h := HNS.out; rcases e with e | e <;> omega) hD hDe)
    have he : t.row.take (stopAt enough) = t.row := List.take_of_length_le (by omega)
    have HE := Lib.hid he
    have c0 : W.cell? ⟨bn, 0, none⟩ = some (.int .i64 (t.row.length : Int)) := hL.cell 0
    clear hK hG hlt he hL
    gi_wp2
    go_wp2_with fail
    refine ⟨by simp, .inl ⟨_, _, rfl, run_takeDeferred hDe, ?_⟩⟩
    refine ⟨_, results_tmp2 rfl _ _ _, ?_⟩
    rw [HE.out]
    exact ⟨rfl, HFin.out⟩
  case stop =>
    rintro D cc pre W hD hS ⟨⟨⟨hG, hL⟩, hK⟩, rfl, hlen⟩ hDe
    have HFin := Lib.hid (walk_end X7.out hK hG (fun b e => by have h := HNS.out; rcases e with e | e <;> omega) hD hDe)
    have he : t.row.take (stopAt enough) = pre := by
      rw [← hlen]
      exact (List.prefix_iff_eq_take.1 hS).symm
    have HE := Lib.hid he
    have c0 : W.cell? ⟨bn, 0, none⟩ = some (.int .i64 (pre.length : Int)) := hL.cell 0
    clear hK hG hlen he hL hS
    gi_wp2
    go_wp2_with fail
    refine ⟨by simp, .inl ⟨_, _, rfl, run_takeDeferred hDe, ?_⟩⟩
    refine ⟨_, results_tmp2 rfl _ _ _, ?_⟩
    rw [HE.out]
    exact ⟨rfl, HFin.out⟩

end Go.Proofs.Ythgaogbpkedjcaa
