/-
  The maker's memory; contracts: makerOf, answer.
-/
import Derived.Test.YthgaogbpkedjcaaTrRight
import Derived.Test.YthgaogbpkedjcaaGG
set_option linter.unusedVariables false
set_option linter.unusedSimpArgs false
namespace Go.Proofs.Ythgaogbpkedjcaa
open Go.RowKit

/-- What a maker holds: an arena that may be, and an error. -/
structure Mk (w : World) (b : Nat) (ns : List Nd) (fs : List Int) (err : Int) : Prop where
  box : ∃ (A : Option Addr) (n c : Nat) (B : Option Addr) (m d : Nat), Bx w b #[.slice A n c, .slice B m d, .int .i64 err] ∧ Ar w A n B m ns fs ∧ (∀ q, A = some q → q.block ≠ b) ∧ (∀ q, B = some q → q.block ≠ b)
  may : ArMay ns fs
  err : err = 0 ∨ err = 2
theorem Mk.to {w w' : World} {b : Nat} {ns : List Nd} {fs : List Int} {err : Int} (h : Mk w b ns fs err) (hx : Ext w w') : Mk w' b ns fs err := by
  obtain ⟨A, n, c, B, m, d, h1, h2, h3⟩ := h.box
  exact ⟨⟨A, n, c, B, m, d, h1.to hx, h2.to hx, h3⟩, h.may, h.err⟩
theorem Mk.lt {w : World} {b : Nat} {ns : List Nd} {fs : List Int} {err : Int} (h : Mk w b ns fs err) : b < w.heap.size := by
  obtain ⟨A, n, c, B, m, d, h1, _⟩ := h.box
  exact h1.lt
theorem Mk.ok {w : World} {b : Nat} {ns : List Nd} {fs : List Int} {err : Int} (h : Mk w b ns fs err) : ∀ x ∈ ns, x.Ok := by
  obtain ⟨A, n, c, B, m, d, _, h1, _⟩ := h.box
  exact h1.ok
theorem Mk.len {w : World} {b : Nat} {ns : List Nd} {fs : List Int} {err : Int} (h : Mk w b ns fs err) : ns.length ≤ 512 ∧ fs.length ≤ 512 := ⟨h.may.le, Nat.le_trans h.may.len h.may.le⟩
theorem Ar.only {w w' : World} {A B : Option Addr} {n m b : Nat} {ns : List Nd} {fs : List Int} (h : Ar w A n B m ns fs) (ho : Only b w w') (hA : ∀ q, A = some q → q.block ≠ b) (hB : ∀ q, B = some q → q.block ≠ b) : Ar w' A n B m ns fs :=
  ⟨ho.rd h.nodes hA, ho.rd h.free hB, h.ok⟩
theorem Mk.only {w w' : World} {b e : Nat} {ns : List Nd} {fs : List Int} {err : Int} (h : Mk w b ns fs err) (ho : Only e w w') (hb : e ≠ b) (hn : ∀ (A : Option Addr) (n c : Nat) (B : Option Addr) (m d : Nat), Bx w b #[.slice A n c, .slice B m d, .int .i64 err] → (∀ q, A = some q → q.block ≠ e) ∧ ∀ q, B = some q → q.block ≠ e) : Mk w' b ns fs err := by
  obtain ⟨A, n, c, B, m, d, h1, h2, h3⟩ := h.box
  obtain ⟨g1, g2⟩ := hn A n c B m d h1
  exact ⟨⟨A, n, c, B, m, d, ho.bx h1 hb.symm, h2.only ho g1 g2, h3⟩, h.may, h.err⟩
/-- A store into a block that is newer than w. -/
theorem Only.ext_new {b : Nat} {w W W' : World} (hx : Ext w W) (ho : Only b W W') (hb : w.heap.size ≤ b) : Ext w W' := ho.new hx hb

def MakerA (w : World) (ns : List Nd) (fs : List Int) (e : Ending) (w' : World) : Prop :=
  ∃ b : Nat, e = .returned (.pointer (some ⟨b, 0, none⟩)) ∧ w.heap.size ≤ b ∧ Mk w' b ns fs 0 ∧ Ext w w'

set_option maxHeartbeats 2000000 in
theorem makerOf_is (A B : Option Addr) (n m c d : Nat) (ns : List Nd) (fs : List Int) (w : World) (h : Ar w A n B m ns fs) (hmay : ArMay ns fs) :
    Calls Try.prog 36 #[.agg #[.slice A n c, .slice B m d]] w (MakerA w ns fs) := by
  have hl := h.len
  have hlF := h.lenF
  have h512 := hmay.le
  have hlen := hmay.len
  have hpos := hmay.pos
  obtain ⟨w1, hw1⟩ : ∃ w1, w1 = w.alloc (.cells #[.slice A n c, .slice B m d] 25) := ⟨_, rfl⟩
  obtain ⟨B1, hx1, hs1⟩ := box_made hw1
  have HN := Lib.hid (fun W (hW : Ext w1 W) => clone_nodes A n c ns W ((h.to hx1).nodes.to hW) (by omega) (by omega))
  have HI := Lib.hid (fun W (hW : Ext w1 W) => clone_ints B m d fs W ((h.to hx1).free.to hW) (by omega))
  have HS := Lib.hid (fun W (hW : Ext w1 W) => show W.cell? ⟨w.heap.size, 0, none⟩ = some (.slice A n c) ∧ W.cell? ⟨w.heap.size, 1, none⟩ = some (.slice B m d) from ⟨(B1.to hW).cell 0, (B1.to hW).cell 1⟩)
  have H1 := Lib.hid hw1
  have X1 := Lib.hid hx1
  have HL := Lib.hid hl
  have HLF := Lib.hid hlF
  have HOK := Lib.hid h.ok
  have HM := Lib.hid hmay
  clear hw1 B1 hx1 hs1 h hl hlF hmay
  go_enter Try.func36, Try.ntmps36
  go_wp2_with fail
  rw [← H1.out]
  go_region_held3 (fun W => W.cell? ⟨w.heap.size, 0, none⟩ = some (.slice A n c) ∧ W.cell? ⟨w.heap.size, 1, none⟩ = some (.slice B m d)) (first | exact HS.out _ (Ext.refl w1).drew | exact HS.out _ hx2 | exact HS.out _ hx3 | exact HS.out _ (hx3.new _)) (first
    | (go_at_call 26; refine (HN.out _ (Ext.refl w1).drew).mono ?_; rintro e w2 ⟨g, c', rfl, hg, hO, hx2'⟩; have hx2 : Ext w1 w2 := hx2'.undrew)
    | (go_at_call 58; refine (HI.out _ hx2).mono ?_; rintro e w3 ⟨B', d', rfl, hO', hx3'⟩; have hx3 : Ext w1 w3 := hx2.step hx3'))
  have hge : w.heap.size ≤ w3.heap.size := by have := X1.out.size; have := hx3.size; omega
  have hgl : g < w3.heap.size := by
    have := hO.lt
    have := hx3'.size
    omega
  have HF := Lib.hid (show MakerA w ns fs (.returned (.pointer (some ⟨w3.heap.size, 0, none⟩))) (w3.alloc (.cells #[.slice (some ⟨g, 0, none⟩) n c', .slice B' m d', .int .i64 0] 101)) by
    refine ⟨w3.heap.size, rfl, hge, ⟨⟨some ⟨g, 0, none⟩, n, c', B', m, d', Bx.new w3 _ _, ⟨((hO.to hx3').to ((Ext.refl w3).new _)).rd HL.out, ?_, HOK.out⟩, ?_, ?_⟩, HM.out, .inl rfl⟩, (X1.out.step hx3).new _⟩
    · exact (Rd.own hO').to ((Ext.refl w3).new _)
    · intro q hq
      injection hq with hq
      subst hq
      show g ≠ _
      omega
    · intro q hq
      have := (hO'.lt q.block (by rw [hq]; rfl)).2
      omega)
  clear hO hO' hx2 hx2' hx3 hx3'
  go_wp2_with fail
  go_ret
  exact HF.out


/-- What answer tells. -/
def AnsA (ns : List Nd) (fs : List Int) (err r : Int) (w : World) (e : Ending) (w' : World) : Prop :=
  ((err = 2 ∧ e = .returned (.tuple #[.agg #[.slice none 0 0, .slice none 0 0], .int .u64 0, .int .i64 2])) ∨
    (err = 0 ∧ ∃ (A : Option Addr) (n c : Nat) (B : Option Addr) (m d : Nat), e = .returned (.tuple #[.agg #[.slice A n c, .slice B m d], .int .u64 r, .int .i64 0]) ∧ Ar w' A n B m ns fs)) ∧ Ext w w'

set_option maxHeartbeats 2000000 in
theorem answer_is (b : Nat) (ns : List Nd) (fs : List Int) (err r : Int) (w : World) (h : Mk w b ns fs err) :
    Calls Try.prog 42 #[.pointer (some ⟨b, 0, none⟩), .int .u64 r] w (AnsA ns fs err r w) := by
  obtain ⟨A, n, c, B, m, d, hb, ha, _⟩ := h.box
  have hx1 : Ext w (w.alloc (.cells #[.slice none 0 0, .slice none 0 0] 25)) := (Ext.refl w).new _
  have B1 := Bx.new w #[.slice none 0 0, .slice none 0 0] 25
  have HA := Lib.hid ha
  have HB1 := Lib.hid B1
  have X1 := Lib.hid hx1
  have k0 := (hb.to hx1).cell 0
  have k1 := (hb.to hx1).cell 1
  have k2 := (hb.to hx1).cell 2
  have f0 := B1.free 0
  have f1 := B1.free 1
  have g0 := B1.cell 0
  have g1 := B1.cell 1
  simp only [List.getElem?_toArray, List.getElem?_cons_zero, List.getElem?_cons_succ] at k0 k1 k2 g0 g1
  rcases h.err with rfl | rfl
  · clear B1 hx1 hb ha h
    go_enter Try.func42, Try.ntmps42
    go_wp2_with fail
    refine bodyPost_ret (results_ar3 rfl _ _ w.heap.size #[.slice A n c, .slice B m d] (by rfl) (Bx.new w _ _) rfl) rfl ⟨.inr ⟨rfl, A, n, c, B, m, d, rfl, HA.out.to ((Ext.refl w).new _)⟩, (Ext.refl w).new _⟩
  · clear B1 hx1 hb ha h
    go_enter Try.func42, Try.ntmps42
    go_wp2_with fail
    go_region
    all_goals go_wp2_with fail
    refine bodyPost_ret (results_ar3 rfl _ _ w.heap.size #[.slice none 0 0, .slice none 0 0] (by rfl) (Bx.new w _ _).drew rfl) rfl ⟨.inl ⟨rfl, rfl⟩, ((Ext.refl w).new _).drew⟩

end Go.Proofs.Ythgaogbpkedjcaa
