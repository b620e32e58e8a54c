/-
  A block of the call's own that is known whole, and what only it turns.
-/
import Derived.Test.YtmfpgbiicncpcaaBase
set_option linter.unusedVariables false
set_option linter.unusedSimpArgs false
namespace Go.Proofs.Ytmfpgbiicncpcaa
open Go.RowKit

/-- Block b of W holds these cells, and may be written. -/
structure Bx (W : World) (b : Nat) (cs : Array Value) : Prop where
  lt : b < W.heap.size
  cell : ∀ j, W.cell? ⟨b, j, none⟩ = cs[j]?
  free : ∀ j, W.frozen? ⟨b, j, none⟩ = false
theorem Bx.new (W : World) (cs : Array Value) (t : TypeId) : Bx (W.alloc (.cells cs t)) W.heap.size cs :=
  ⟨by simp, fun j => World.cell?_alloc_at _ _ _ _ rfl, fun j => World.frozen?_alloc_at _ _ _ _ rfl⟩
theorem Bx.to {W W' : World} {b : Nat} {cs : Array Value} (h : Bx W b cs) (hx : Ext W W') : Bx W' b cs :=
  ⟨Nat.lt_of_lt_of_le h.lt hx.size, fun j => (hx.cell (p := ⟨b, j, none⟩) h.lt).trans (h.cell j), fun j => (hx.frozen (p := ⟨b, j, none⟩) h.lt).trans (h.free j)⟩
theorem Bx.alloc {W : World} {b : Nat} {cs : Array Value} (h : Bx W b cs) (o : Obj) : Bx (W.alloc o) b cs := h.to ((Ext.refl W).new o)
theorem Bx.fresh {W W' : World} {cs : Array Value} {t : TypeId} (hx : Ext (W.alloc (.cells cs t)) W') : Bx W' W.heap.size cs := (Bx.new W cs t).to hx

/-- From W to W' only block b has turned, and what is new. -/
def Only (b : Nat) (W W' : World) : Prop := W.grownBy W' (some b)
theorem Only.refl (b : Nat) (W : World) : Only b W W := World.grownBy.refl W _
theorem Only.ext {b : Nat} {W W' W'' : World} (h : Only b W W') (hx : Ext W' W'') : Only b W W'' :=
  ⟨hx.os.trans h.os, hx.tape.trans h.tape, hx.output.trans h.output, Nat.le_trans h.size hx.size, fun k hk hn => (hx.block k (Nat.lt_of_lt_of_le hk h.size)).trans (h.block k hk hn)⟩
theorem Only.set {b : Nat} {W W' : World} (h : Only b W W') (j : Nat) (u : Value) : Only b W (W'.setCell ⟨b, j, none⟩ u) :=
  ⟨h.os, h.tape, h.output, by simpa [World.setCell] using h.size, fun k hk hn => (Below.heap_setCell W' ⟨b, j, none⟩ u k (by
    rintro rfl
    exact hn rfl)).trans (h.block k hk hn)⟩
theorem Only.drew {b : Nat} {W W' : World} (h : Only b W W') : Only b W W'.drew := ⟨h.os, h.tape, h.output, h.size, h.block⟩
theorem Only.trans {b : Nat} {W W' W'' : World} (h : Only b W W') (k : Only b W' W'') : Only b W W'' :=
  ⟨k.os.trans h.os, k.tape.trans h.tape, k.output.trans h.output, Nat.le_trans h.size k.size, fun i hi hn => (k.block i (Nat.lt_of_lt_of_le hi h.size) hn).trans (h.block i hi hn)⟩
theorem Only.cellOf {b : Nat} {W W' : World} (h : Only b W W') {p : Addr} {v : Value} (hc : W.cell? p = some v) (hn : p.block ≠ b) : W'.cell? p = some v := by
  have hlt := World.block_lt_of_cell? W p hc
  rw [← hc]
  exact World.cell?_of_block (h.block p.block hlt (fun e => hn (by injection e)))
theorem Only.bx {b b' : Nat} {W W' : World} {cs : Array Value} (h : Only b W W') (hb : Bx W b' cs) (hn : b' ≠ b) : Bx W' b' cs := by
  have e := h.block b' hb.lt (fun e => hn (by injection e))
  exact ⟨Nat.lt_of_lt_of_le hb.lt h.size, fun j => (World.cell?_of_block (a := ⟨b', j, none⟩) e).trans (hb.cell j), fun j => by
    have := hb.free j
    unfold World.frozen? at this ⊢
    rw [e]
    exact this⟩
theorem Only.rd {b : Nat} {W W' : World} {size n : Nat} {A : Option Addr} {xs : List Value} (h : Only b W W') (hr : Rd W size A n xs) (hn : ∀ q, A = some q → q.block ≠ b) : Rd W' size A n xs :=
  ⟨hr.1, fun j u hu => by
    obtain ⟨ad, ha, hc⟩ := hr.2 j u hu
    exact ⟨ad, ha, h.cellOf hc (by rw [addr_block]; exact hn ad ha)⟩⟩
theorem Only.new {b : Nat} {W0 W W' : World} (h : Only b W W') (hx : Ext W0 W) (hb : W0.heap.size ≤ b) : Ext W0 W' :=
  ⟨h.os.trans hx.os, h.tape.trans hx.tape, h.output.trans hx.output, Nat.le_trans hx.size h.size, fun k hk => (h.block k (Nat.lt_of_lt_of_le hk hx.size) (fun e => by injection e with e; omega)).trans (hx.block k hk)⟩

theorem Ext.drew {a b : World} (h : Ext a b) : Ext a b.drew := ⟨h.os, h.tape, h.output, h.size, h.block⟩
theorem Ext.undrew {a b : World} (h : Ext a.drew b) : Ext a b := ⟨h.os, h.tape, h.output, h.size, h.block⟩
theorem Bx.drew {W : World} {b : Nat} {cs : Array Value} (h : Bx W b cs) : Bx W.drew b cs := ⟨h.lt, h.cell, h.free⟩
theorem Ext.set {a b : World} (h : Ext a b) {g j : Nat} (u : Value) (hg : a.heap.size ≤ g) : Ext a (b.setCell ⟨g, j, none⟩ u) := h.setCell hg u

end Go.Proofs.Ytmfpgbiicncpcaa
