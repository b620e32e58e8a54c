/-
  Contracts: a maker of an arena, what it answers (making.Of, Answer).
-/
import Derived.Test.YtfoifcbaadnigaaHtNode
import Derived.Test.YtfoifcbaadnigaaGF
set_option linter.unusedVariables false
set_option linter.unusedSimpArgs false
namespace Go.Proofs.Ytfoifcbaadnigaa
open Go.RowKit

/-- The arena of a maker does not lie in a block. -/
def Far (w : World) (b X : Nat) : Prop := ∀ (j : Nat) (q : Addr) (n c : Nat), j < 2 → w.cell? ⟨b, j, none⟩ = some (.slice (some q) n c) → q.block ≠ X
/-- Where it did not lie it does not come to lie. -/
def FarTo (b : Nat) (w w' : World) : Prop := ∀ X, X < w.heap.size → Far w b X → Far w' b X
theorem Far.same {w w' : World} {b X : Nat} (h : Far w b X) (he : ∀ j, j < 2 → w'.cell? ⟨b, j, none⟩ = w.cell? ⟨b, j, none⟩) : Far w' b X := fun j q n c hj hc => h j q n c hj ((he j hj).symm.trans hc)
theorem Far.ext {w w' : World} {b X : Nat} (h : Far w b X) (hx : Ext w w') (hb : b < w.heap.size) : Far w' b X := h.same fun j _ => hx.cell (p := ⟨b, j, none⟩) hb
theorem FarTo.ext {w w' : World} {b : Nat} (hx : Ext w w') (hb : b < w.heap.size) : FarTo b w w' := fun X _ h => h.ext hx hb
theorem FarTo.trans {w w' w'' : World} {b : Nat} (h : FarTo b w w') (k : FarTo b w' w'') (hs : w.heap.size ≤ w'.heap.size) : FarTo b w w'' := fun X hX hf => k X (Nat.lt_of_lt_of_le hX hs) (h X hX hf)
theorem FarTo.only {w w' : World} {b e : Nat} (ho : Only e w w') (he : e ≠ b) (hb : b < w.heap.size) : FarTo b w w' := fun X _ h => h.same fun j _ => World.cell?_of_block (a := ⟨b, j, none⟩) (ho.block b hb (fun q => he (by injection q with q; exact q.symm)))
theorem FarTo.box {w w' : World} {b : Nat} {A B : Option Addr} {n c m d : Nat} {e : Value} (h : Bx w' b #[.slice A n c, .slice B m d, e]) (hA : ∀ q, A = some q → w.heap.size ≤ q.block ∨ ∀ X, Far w b X → q.block ≠ X) (hB : ∀ q, B = some q → w.heap.size ≤ q.block ∨ ∀ X, Far w b X → q.block ≠ X) : FarTo b w w' := fun X hX hf j q n' c' hj hc => by
  have h2 : j = 0 ∨ j = 1 := by omega
  rw [h.cell] at hc
  rcases h2 with rfl | rfl
  · simp at hc
    rcases hA q hc.1 with h | h
    · omega
    · exact h X hf
  · simp at hc
    rcases hB q hc.1 with h | h
    · omega
    · exact h X hf
/-- The arena of a maker lies in blocks that are there. -/
def Old (w : World) (b : Nat) : Prop := ∀ X, w.heap.size ≤ X → Far w b X
theorem Old.ext {w w' : World} {b : Nat} (h : Old w b) (hx : Ext w w') (hb : b < w.heap.size) : Old w' b := fun X hX => (h X (Nat.le_trans hx.size hX)).ext hx hb
def MakerO (w : World) (ns : List Nd) (fs : List Int) (e : Ending) (w' : World) : Prop :=
  ∃ b : Nat, e = .returned (.pointer (some ⟨b, 0, none⟩)) ∧ w.heap.size ≤ b ∧ Mk w' b ns fs 0 ∧ Old w' b ∧ Ext w w'
set_option maxHeartbeats 2000000 in
theorem htOf_is (A B : Option Addr) (n m c d : Nat) (ns : List Nd) (fs : List Int) (w : World) (h : Ar w A n B m ns fs) (hmay : ArMay ns fs) :
    Calls Try.prog 21 #[.agg #[.slice A n c, .slice B m d]] w (MakerO w ns fs) := by
  have hl := h.len
  have hlF := h.lenF
  have h512 := hmay.le
  have hlen := hmay.len
  have hpos := hmay.pos
  obtain ⟨w1, hw1⟩ : ∃ w1, w1 = w.alloc (.cells #[.slice A n c, .slice B m d] 26) := ⟨_, rfl⟩
  obtain ⟨B1, hx1, hs1⟩ := box_made hw1
  have HN := Lib.hid (fun W (hW : Ext w1 W) => clone_nodes A n c ns W ((h.to hx1).nodes.to hW) (by omega) (by omega))
  have HI := Lib.hid (fun W (hW : Ext w1 W) => clone_ints B m d fs W ((h.to hx1).free.to hW) (by omega))
  have HS := Lib.hid (fun W (hW : Ext w1 W) => show W.cell? ⟨w.heap.size, 0, none⟩ = some (.slice A n c) ∧ W.cell? ⟨w.heap.size, 1, none⟩ = some (.slice B m d) from ⟨(B1.to hW).cell 0, (B1.to hW).cell 1⟩)
  have H1 := Lib.hid hw1
  have X1 := Lib.hid hx1
  have HL := Lib.hid hl
  have HLF := Lib.hid hlF
  have HOK := Lib.hid h.ok
  have HM := Lib.hid hmay
  clear hw1 B1 hx1 hs1 h hl hlF hmay
  go_enter Try.func21, Try.ntmps21
  go_wp2_with fail
  rw [← H1.out]
  go_region_held3 (fun W => W.cell? ⟨w.heap.size, 0, none⟩ = some (.slice A n c) ∧ W.cell? ⟨w.heap.size, 1, none⟩ = some (.slice B m d)) (first | exact HS.out _ (Ext.refl w1).drew | exact HS.out _ hx2 | exact HS.out _ hx3 | exact HS.out _ (hx3.new _)) (first
    | (go_at_call 41; refine (HN.out _ (Ext.refl w1).drew).mono ?_; rintro e w2 ⟨g, c', rfl, hg, hO, hx2'⟩; have hx2 : Ext w1 w2 := hx2'.undrew)
    | (go_at_call 42; refine (HI.out _ hx2).mono ?_; rintro e w3 ⟨B', d', rfl, hO', hx3'⟩; have hx3 : Ext w1 w3 := hx2.step hx3'))
  have hge : w.heap.size ≤ w3.heap.size := by have := X1.out.size; have := hx3.size; omega
  have hgl : g < w3.heap.size := by
    have := hO.lt
    have := hx3'.size
    omega
  have HF := Lib.hid (show MakerO w ns fs (.returned (.pointer (some ⟨w3.heap.size, 0, none⟩))) (w3.alloc (.cells #[.slice (some ⟨g, 0, none⟩) n c', .slice B' m d', .int .i64 0] 88)) by
    refine ⟨w3.heap.size, rfl, hge, ⟨⟨some ⟨g, 0, none⟩, n, c', B', m, d', Bx.new w3 _ _, ⟨((hO.to hx3').to ((Ext.refl w3).new _)).rd HL.out, ?_, HOK.out⟩, ?_, ?_⟩, HM.out, .inl rfl⟩, ?_, (X1.out.step hx3).new _⟩
    · exact (Rd.own hO').to ((Ext.refl w3).new _)
    · intro q hq
      injection hq with hq
      subst hq
      show g ≠ _
      omega
    · intro q hq
      have := (hO'.lt q.block (by rw [hq]; rfl)).2
      omega
    · intro X hX j q nn cc hj hc
      have hX' : w3.heap.size < X := by simp at hX; omega
      have hbx := Bx.new w3 #[.slice (some ⟨g, 0, none⟩) n c', .slice B' m d', .int .i64 0] 88
      rw [hbx.cell] at hc
      rcases (by omega : j = 0 ∨ j = 1) with rfl | rfl
      · simp at hc
        rw [← hc.1]
        show g ≠ X
        omega
      · simp at hc
        have := (hO'.lt q.block (by rw [hc.1]; rfl)).2
        omega)
  clear hO hO' hx2 hx2' hx3 hx3'
  go_wp2_with fail
  go_ret
  exact HF.out


set_option maxHeartbeats 2000000 in
theorem htAnswer_is (b : Nat) (ns : List Nd) (fs : List Int) (err r : Int) (w : World) (h : Mk w b ns fs err) :
    Calls Try.prog 22 #[.pointer (some ⟨b, 0, none⟩), .int .u64 r] w (AnsA ns fs err r w) := by
  obtain ⟨A, n, c, B, m, d, hb, ha, _⟩ := h.box
  have hx1 : Ext w (w.alloc (.cells #[.slice none 0 0, .slice none 0 0] 26)) := (Ext.refl w).new _
  have B1 := Bx.new w #[.slice none 0 0, .slice none 0 0] 26
  have HA := Lib.hid ha
  have HB1 := Lib.hid B1
  have X1 := Lib.hid hx1
  have k0 := (hb.to hx1).cell 0
  have k1 := (hb.to hx1).cell 1
  have k2 := (hb.to hx1).cell 2
  have f0 := B1.free 0
  have f1 := B1.free 1
  have g0 := B1.cell 0
  have g1 := B1.cell 1
  simp only [List.getElem?_toArray, List.getElem?_cons_zero, List.getElem?_cons_succ] at k0 k1 k2 g0 g1
  rcases h.err with rfl | rfl
  · clear B1 hx1 hb ha h
    go_enter Try.func22, Try.ntmps22
    go_wp2_with fail
    refine bodyPost_ret (results_ar3 rfl _ _ w.heap.size #[.slice A n c, .slice B m d] (by rfl) (Bx.new w _ _) rfl) rfl ⟨.inr ⟨rfl, A, n, c, B, m, d, rfl, HA.out.to ((Ext.refl w).new _)⟩, (Ext.refl w).new _⟩
  · clear B1 hx1 hb ha h
    go_enter Try.func22, Try.ntmps22
    go_wp2_with fail
    go_region
    all_goals go_wp2_with fail
    refine bodyPost_ret (results_ar3 rfl _ _ w.heap.size #[.slice none 0 0, .slice none 0 0] (by rfl) (Bx.new w _ _).drew rfl) rfl ⟨.inl ⟨rfl, rfl⟩, ((Ext.refl w).new _).drew⟩

end Go.Proofs.Ytfoifcbaadnigaa
