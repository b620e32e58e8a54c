/-
  Contracts: the iterator over the keys between two, and what is collected of it.
-/
import Derived.Test.YthgaogbpkedjcaaSpHand
import Derived.Test.YthgaogbpkedjcaaArV
set_option linter.unusedVariables false
set_option linter.unusedSimpArgs false
namespace Go.Proofs.Ythgaogbpkedjcaa
open Go.RowKit

attribute [local go_sem] Oper.semAt_some

/-- All blocks but some stay as they were. -/
structure Kx (X : Nat → Obj → Prop) (W W' : World) : Prop where
  os : W'.os = W.os
  tape : W'.tape = W.tape
  output : W'.output = W.output
  size : W.heap.size ≤ W'.heap.size
  block : ∀ b o, W.heap[b]? = some o → ¬ X b o → W'.heap[b]? = some o
theorem Kx.trans {X : Nat → Obj → Prop} {W W' W'' : World} (h : Kx X W W') (k : Kx X W' W'') : Kx X W W'' :=
  ⟨k.os.trans h.os, k.tape.trans h.tape, k.output.trans h.output, Nat.le_trans h.size k.size, fun b o hb hx => k.block b o (h.block b o hb hx) hx⟩
theorem Kx.of_ext {X : Nat → Obj → Prop} {W W' : World} (h : Ext W W') : Kx X W W' :=
  ⟨h.os, h.tape, h.output, h.size, fun b o hb _ => (h.block b (Array.getElem?_eq_some_iff.1 hb).1).trans hb⟩
theorem Kx.of_grown {X : Nat → Obj → Prop} {W W' : World} {row : Option Nat} (h : W.grownBy W' row) (hx : ∀ b o, row = some b → W.heap[b]? = some o → X b o) : Kx X W W' :=
  ⟨h.os, h.tape, h.output, h.size, fun b o hb hn => (h.block b (Array.getElem?_eq_some_iff.1 hb).1 (fun e => hn (hx b o e.symm hb))).trans hb⟩
theorem Kx.mono {X Y : Nat → Obj → Prop} {W W' : World} (h : Kx X W W') (hx : ∀ b o, X b o → Y b o) : Kx Y W W' :=
  ⟨h.os, h.tape, h.output, h.size, fun b o hb hn => h.block b o hb (fun e => hn (hx b o e))⟩
theorem Kx.refl (X : Nat → Obj → Prop) (W : World) : Kx X W W := Kx.of_ext (Ext.refl W)
/-- What a loop of the call's own may turn: some boxes, and what is newer and holds items, or is no cells. -/
def Xo (S : Nat → Prop) (n0 : Nat) (b : Nat) (o : Obj) : Prop := S b ∨ (n0 ≤ b ∧ ((∃ cs p, o = .cells cs 40 p) ∨ o.isCells = false))
theorem Kx.kf {S : Nat → Prop} {n0 : Nat} {W W' : World} {X : Nat → Obj → Prop} (h : Kx X W W') (hX : ∀ b o, X b o → n0 ≤ b → o.isCells = true) : KeepsFrom n0 W W' :=
  ⟨h.size, fun k o hk ho hc => h.block k o ho (fun e => by rw [hX k o e hk] at hc; cases hc)⟩
/-- What only cells turns. -/
def Xc (S : Nat → Prop) (n0 : Nat) (b : Nat) (o : Obj) : Prop := S b ∨ (n0 ≤ b ∧ ∃ cs p, o = .cells cs 40 p)
theorem Xc.xo {S : Nat → Prop} {n0 b : Nat} {o : Obj} (h : Xc S n0 b o) : Xo S n0 b o := h.imp id (fun ⟨a, b⟩ => ⟨a, .inl b⟩)
theorem Kx.from {S : Nat → Prop} {n0 : Nat} {W W' : World} (h : Kx (Xc S n0) W W') (hS : ∀ b, S b → b < n0) : KeepsFrom n0 W W' :=
  ⟨h.size, fun k o hk ho hc => h.block k o ho (fun e => by
    rcases e with e | ⟨_, cs, p, rfl⟩
    · have := hS k e; omega
    · cases hc)⟩
theorem kx_put {S : Nat → Prop} {n0 : Nat} (W : World) (l : Nat) (o o' : Obj) (hl : n0 ≤ l) (h : W.heap[l]? = some o) (hc : o.isCells = false) : Kx (Xo S n0) W (W.putObj l o') :=
  Kx.of_grown (grownBy_putObj' W l o') (fun b o1 e h1 => by
    cases e
    rw [h] at h1
    cases h1
    exact .inr ⟨hl, .inr hc⟩)
theorem kx_own {B : Nat} {w : World} (hn : w.heap.size ≤ B) (X : Nat → Obj → Prop) : OwnFrom B (fun (_ : Row) W => Kx X w W) :=
  fun _ W W' row hs hg hr => ⟨hg.os.trans hs.os, hg.tape.trans hs.tape, hg.output.trans hs.output, Nat.le_trans hs.size hg.size, fun b o hb hx => by
    have h1 := hs.block b o hb hx
    have h2 := (Array.getElem?_eq_some_iff.1 hb).1
    exact (hg.block b (Array.getElem?_eq_some_iff.1 h1).1 (fun e => by have := (hr b e.symm).1; omega)).trans h1⟩
theorem keeps_kx {S : Nat → Prop} {w0 : World} {A : Option Addr} {n : Nat} {ns : List Nd} (hS : ∀ b, S b → b < w0.heap.size) (hR : Rd w0 16 A n (flat Nd.cells ns)) (hA : ∀ (q : Addr) (j : Nat) (u : Value), A = some q → (flat Nd.cells ns)[j]? = some u → ¬ S q.block) :
    Keeps (Kx (Xo S w0.heap.size)) w0.heap.size A n ns where
  nodes W W' hk h := ⟨h.1, fun j u hu => by
    obtain ⟨ad, ha, hc⟩ := h.2 j u hu
    obtain ⟨ad', ha', hc'⟩ := hR.2 j u hu
    obtain rfl : ad = ad' := by rw [ha] at ha'; injection ha'
    have hb := World.block_lt_of_cell? w0 _ hc'
    rw [addr_block] at hb
    refine ⟨ad, ha, ?_⟩
    rw [← hc]
    refine World.cell?_of_block ?_
    rw [addr_block]
    have hb2 := World.block_lt_of_cell? W _ hc
    rw [addr_block] at hb2
    have e1 : W.heap[ad.block]? = some W.heap[ad.block] := Array.getElem?_eq_getElem hb2
    rw [e1]
    exact hk.block _ _ e1 (fun e => e.elim (hA ad j u ha hu) (fun e => by have := e.1; omega))⟩
  arena W W' b cs hk hb h := hk.block b _ h (fun e => by
    rcases e with e | ⟨_, ⟨cs', p, e⟩ | e⟩
    · have := hS b e; omega
    · injection e with _ e2; exact absurd e2 (by decide)
    · cases e)
  node W W' b cs hk hb h := hk.block b _ h (fun e => by
    rcases e with e | ⟨_, ⟨cs', p, e⟩ | e⟩
    · have := hS b e; omega
    · injection e with _ e2; exact absurd e2 (by decide)
    · cases e)
  ext W W' h := Kx.of_ext h
  trans W W' W'' h k := h.trans k
  size W W' h := h.size

set_option maxHeartbeats 3200000 in
set_option maxRecDepth 100000 in
/-- The closure that between makes, as an iterator. -/
theorem between_stops {Kp : World → World → Prop} {A B : Option Addr} {n c m d : Nat} {ns : List Nd} {t : T} {low high : Int} {b4 b5 b6 b7 : Nat} (w : World) (nn : Nat) (hKp : Keeps Kp w.heap.size A n ns) (hok : ∀ x ∈ ns, x.Ok) (hR : Rep ns t) (hS : Srt t.row) (hU : U t.ref) (hRd : Rd w 16 A n (flat Nd.cells ns))
    (h4 : Bx w b4 #[.slice A n c, .slice B m d]) (h5 : Bx w b5 #[.int .u64 t.ref]) (h6 : Bx w b6 #[.int .i64 low]) (h7 : Bx w b7 #[.int .i64 high]) :
    SeqStopsK Fence.wide nn Try.prog 46 #[.pointer (some ⟨b4, 0, none⟩), .pointer (some ⟨b5, 0, none⟩), .pointer (some ⟨b6, 0, none⟩), .pointer (some ⟨b7, 0, none⟩)] (fun x : Int × Int => #[itv x]) Kp (fun ys => ys = inn t.row low high) (fun pre => pre <+: inn t.row low high) (inn t.row low high).length w := by
  intro l J Jx W hW hJ hJx hY h0
  have HH := Lib.hid (hand_is (n0 := w.heap.size) (N := (inn t.row low high).length) (lo := l) (c := c) (m := m) (d := d) (B := B) (J := J) (Jx := Jx) hKp low high hok
    (fun pre X Y h hx => hJ pre X Y none h ⟨hx.os, hx.tape, hx.output, hx.size, fun k hk _ => hx.block k hk⟩ (fun r e => by cases e))
    (fun m pre x W1 hj hs hl => yield_any (m := nn - 1) ((hY pre x W1 hj hl).mono fun e W' h => h)) t [] W hR hS hU hW.size (hRd.to hW) h0 (by simp))
  have k0 : W.cell? ⟨b4, 0, none⟩ = some (.slice A n c) := (h4.to hW).cell 0
  have k1 : W.cell? ⟨b4, 1, none⟩ = some (.slice B m d) := (h4.to hW).cell 1
  have k2 : W.cell? ⟨b5, 0, none⟩ = some (.int .u64 t.ref) := (h5.to hW).cell 0
  have k3 : W.cell? ⟨b6, 0, none⟩ = some (.int .i64 low) := (h6.to hW).cell 0
  have k4 : W.cell? ⟨b7, 0, none⟩ = some (.int .i64 high) := (h7.to hW).cell 0
  clear hKp hok hR hS hU hRd h4 h5 h6 h7 hW hJ hJx hY h0
  refine callsIn_wide.2 ?_
  show Calls Try.prog 46 #[.func (.yield l) #[] #[], .pointer (some ⟨b4, 0, none⟩), .pointer (some ⟨b5, 0, none⟩), .pointer (some ⟨b6, 0, none⟩), .pointer (some ⟨b7, 0, none⟩)] W _
  go_enter Try.func46, Try.ntmps46
  go_wp2_with fail
  refine HH.out.mono ?_
  rintro e W1 (⟨rfl, hJ1, hk1⟩ | ⟨rfl, q, hq, hx1⟩)
  · have HD := Lib.hid hJ1
    clear hJ1 hk1
    go_wp2_with fail
    go_end0
    exact ⟨⟨_, rfl⟩, .inl ⟨_, rfl, HD.out⟩⟩
  · have HD := Lib.hid hx1
    have HQ := Lib.hid hq
    clear hx1 hq
    go_wp2_with fail
    go_end0
    exact ⟨⟨_, rfl⟩, .inr ⟨q, HQ.out, HD.out⟩⟩

end Go.Proofs.Ythgaogbpkedjcaa
